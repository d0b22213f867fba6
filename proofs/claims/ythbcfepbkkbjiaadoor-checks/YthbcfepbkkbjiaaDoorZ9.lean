/- The walk of package check's Filter. -/
import Derived.Test.YthbcfepbkkbjiaaDoorZ8
import Derived.Test.YthbcfepbkkbjiaaDoorV8
namespace Go.Proofs.YthbcfepbkkbjiaaDoor
open Go.RowKit
set_option linter.unusedVariables false

set_option maxRecDepth 100000 in
set_option maxHeartbeats 1000000 in
theorem pfilter_bad (ao : Option Addr) (n c : Nat) (tb : TypeId) (pb : Value) (w : World) (hm : n ≤ maxLen) (hn : badSize n) (ht : Tab w) :
    Calls Tryd.prog 19 #[.slice ao n c, .iface tb pb] w fun e w' => (∃ F, e = .returned (.iface 36 (.pointer (some ⟨F, 0, none⟩))) ∧ FaultS w' F 0 1 (.iface tb pb) ∧ w.heap.size ≤ F) ∧ w.grownBy w' none := by
  go_enter Tryd.func19, Tryd.ntmps19
  go_wp2_with (first | (go_at_call 31; refine (decode_bad _ _ _ _ hm hn).mono ?_; rintro e w1 ⟨rfl, rfl⟩) | (go_at_call 32; refine (newFault_any 1 0 tb pb _ (by omega) ht).mono ?_; rintro e w1 ⟨F, rfl, hF, hlt, hg⟩))
  go_ret
  exact ⟨⟨F, rfl, hF, hlt⟩, hg⟩

theorem ErrS.nil {w w' : World} {e : Ending} {N : Prop} {P : Nat → Int → Prop} {bad : Value} (h : ErrS w w' e N P bad) (hno : ∀ k c, ¬ P k c) : N ∧ e = .returned .nilIface := by
  rcases h with h | ⟨F, k, c, hP, _⟩
  · exact h
  · exact absurd hP (hno k c)

theorem ErrS.err {w w' : World} {e : Ending} {N : Prop} {P : Nat → Int → Prop} {bad : Value} (h : ErrS w w' e N P bad) (hno : ¬ N) : ∃ F k c, P k c ∧ e = .returned (.iface 36 (.pointer (some ⟨F, 0, none⟩))) ∧ FaultS w' F k c bad ∧ w.heap.size ≤ F := by
  rcases h with h | h
  · exact absurd h.1 hno
  · exact h

theorem ErrS.ret {w w' : World} {e : Ending} {N : Prop} {P : Nat → Int → Prop} {bad : Value} (h : ErrS w w' e N P bad) : ∃ v, e = .returned v := by
  rcases h with h | ⟨F, k, c, _, h, _⟩
  · exact ⟨_, h.2⟩
  · exact ⟨_, h⟩

theorem rowS_new {w1 w2 : World} {B n MB : Nat} {bad : Value} {q : Nat → Int} {N : Nat} {e : TypeId} (hb : Blk w1 B e N (4 * n) (ints .i64 q)) (hg : w1.grownBy w2 none) (hK : IMap w2 MB kmap) :
    RowS (w2.alloc (.cells #[.slice (some ⟨B, 0, none⟩) n n, .map (some MB), bad] 82)) w2.heap.size B n n MB bad q :=
  ⟨heap_top _ _ _ rfl, fun j hj => by rw [Nat.zero_add]; exact ((hb.keep hg (by simp)).alloc _).cell hj, hK.keep (World.grownBy_alloc w2 _ none) (by simp)⟩

set_option maxRecDepth 100000 in
set_option maxHeartbeats 1000000 in
theorem pfilter_wrong (b off n c : Nat) (g : Nat → Int) (tb : TypeId) (pb : Value) (w : World) (hn : 1 ≤ n) (hn2 : n ≤ 256) (hc : 8 * n ≤ c) (hg : Oct g) (h : Row w .u8 b off (8 * n) g) (ht : Tab w)
    (hno : ¬ ∀ j, j < n → wrong (decs g) n j = 0) :
    Calls Tryd.prog 19 #[.slice (some ⟨b, off, none⟩) (8 * n) c, .iface tb pb] w fun e w' => ErrS w w' e (Spec (decs g) n 0 0) (fun k E => Spec (decs g) n E k ∧ E ≠ 0) (.iface tb pb) ∧ w.grownBy w' none := by
  have hq := decs_num hg
  go_enter Tryd.func19, Tryd.ntmps19
  go_wp2_with (first | (go_at_call 31; refine (decode_good _ _ n _ g _ hn hn2 hc hg h).mono ?_; rintro e w1 ⟨B, rfl, hB, hg1, hb1⟩) | (go_at_call 33; refine (kinds_any _).mono ?_; rintro e w2 ⟨rfl, hK, hg2⟩; have G2 := grown_alloc (grown_trans hg1 hg2) (.cells #[.slice (some ⟨B, 0, none⟩) n n, .map (some w1.heap.size), .iface tb pb] 82)) | (go_at_call 34; refine (checkEach_any _ B n n w1.heap.size tb pb (decs g) _ (by omega) hq (rowS_new hb1 hg2 hK) (ht.keep G2)).mono ?_; rintro e w3 ⟨hE, hg3⟩; obtain ⟨F, k, E, hP, rfl, hF, hlt⟩ := hE.err hno))
  go_ret
  exact ⟨Or.inr ⟨F, k, E, ⟨Or.inl hP, by rw [hP.2.2.2]; exact hP.2.1⟩, rfl, hF, Nat.le_trans G2.size hlt⟩, grown_trans G2 hg3⟩

set_option maxRecDepth 100000 in
set_option maxHeartbeats 1000000 in
theorem pfilter_end (b off n c : Nat) (g : Nat → Int) (tb : TypeId) (pb : Value) (w : World) (hn : 1 ≤ n) (hn2 : n ≤ 256) (hc : 8 * n ≤ c) (hg : Oct g) (h : Row w .u8 b off (8 * n) g) (ht : Tab w)
    (hok : ∀ j, j < n → wrong (decs g) n j = 0) (hno : ¬ (kd (decs g (4 * (n - 1)))).kind = 12) :
    Calls Tryd.prog 19 #[.slice (some ⟨b, off, none⟩) (8 * n) c, .iface tb pb] w fun e w' => ErrS w w' e (Spec (decs g) n 0 0) (fun k E => Spec (decs g) n E k ∧ E ≠ 0) (.iface tb pb) ∧ w.grownBy w' none := by
  have hq := decs_num hg
  go_enter Tryd.func19, Tryd.ntmps19
  go_wp2_with (first | (go_at_call 31; refine (decode_good _ _ n _ g _ hn hn2 hc hg h).mono ?_; rintro e w1 ⟨B, rfl, hB, hg1, hb1⟩) | (go_at_call 33; refine (kinds_any _).mono ?_; rintro e w2 ⟨rfl, hK, hg2⟩; have hr := rowS_new (bad := .iface tb pb) hb1 hg2 hK; have G2 := grown_alloc (grown_trans hg1 hg2) (.cells #[.slice (some ⟨B, 0, none⟩) n n, .map (some w1.heap.size), .iface tb pb] 82)) | (go_at_call 34; refine (checkEach_any _ B n n w1.heap.size tb pb (decs g) _ (by omega) hq hr (ht.keep G2)).mono ?_; rintro e w3 ⟨hE, hg3⟩; obtain ⟨_, rfl⟩ := hE.nil (fun k c hP => hP.2.1 (hok k hP.1)); have G3 := grown_trans G2 hg3) | (go_at_call 35; refine (checkEnd_any _ B n n w1.heap.size tb pb (decs g) _ hn (by omega) (hr.keep hg3) (ht.keep G3)).mono ?_; rintro e w4 ⟨hE4, hg4⟩; obtain ⟨F, k, E, hP, rfl, hF, hlt⟩ := hE4.err hno))
  go_ret
  exact ⟨Or.inr ⟨F, k, E, ⟨Or.inr ⟨hok, Or.inl ⟨hP.1, hP.2.2, hP.2.1⟩⟩, by rw [hP.2.2]; omega⟩, rfl, hF, Nat.le_trans G3.size hlt⟩, grown_trans G3 hg4⟩

set_option maxRecDepth 100000 in
set_option maxHeartbeats 1000000 in
theorem pfilter_last (b off n c : Nat) (g : Nat → Int) (tb : TypeId) (pb : Value) (w : World) (hn : 1 ≤ n) (hn2 : n ≤ 256) (hc : 8 * n ≤ c) (hg : Oct g) (h : Row w .u8 b off (8 * n) g) (ht : Tab w)
    (hok : ∀ j, j < n → wrong (decs g) n j = 0) (hk12 : (kd (decs g (4 * (n - 1)))).kind = 12) :
    Calls Tryd.prog 19 #[.slice (some ⟨b, off, none⟩) (8 * n) c, .iface tb pb] w fun e w' => ErrS w w' e (Spec (decs g) n 0 0) (fun k E => Spec (decs g) n E k ∧ E ≠ 0) (.iface tb pb) ∧ w.grownBy w' none := by
  have hq := decs_num hg
  go_enter Tryd.func19, Tryd.ntmps19
  go_wp2_with (first | (go_at_call 31; refine (decode_good _ _ n _ g _ hn hn2 hc hg h).mono ?_; rintro e w1 ⟨B, rfl, hB, hg1, hb1⟩) | (go_at_call 33; refine (kinds_any _).mono ?_; rintro e w2 ⟨rfl, hK, hg2⟩; have hr := rowS_new (bad := .iface tb pb) hb1 hg2 hK; have G2 := grown_alloc (grown_trans hg1 hg2) (.cells #[.slice (some ⟨B, 0, none⟩) n n, .map (some w1.heap.size), .iface tb pb] 82)) | (go_at_call 34; refine (checkEach_any _ B n n w1.heap.size tb pb (decs g) _ (by omega) hq hr (ht.keep G2)).mono ?_; rintro e w3 ⟨hE, hg3⟩; obtain ⟨_, rfl⟩ := hE.nil (fun k c hP => hP.2.1 (hok k hP.1)); have G3 := grown_trans G2 hg3) | (go_at_call 35; refine (checkEnd_any _ B n n w1.heap.size tb pb (decs g) _ hn (by omega) (hr.keep hg3) (ht.keep G3)).mono ?_; rintro e w4 ⟨hE4, hg4⟩; obtain ⟨_, rfl⟩ := hE4.nil (fun k c hP => hP.1 hk12); have G4 := grown_trans G3 hg4) | (go_at_call 36; refine (checkCells_any _ B n n w1.heap.size tb pb (decs g) _ (by omega) hq hok (hr.keep (grown_trans hg3 hg4)) (ht.keep G4)).mono ?_; rintro e w5 ⟨hE5, hg5⟩; obtain ⟨v, hv⟩ : ∃ v, e = .returned v := hE5.ret; subst hv))
  go_ret
  refine ⟨?_, grown_trans G4 hg5⟩
  rcases hE5 with ⟨h1, h2⟩ | ⟨F, k, E, hP, h2, hF, hlt⟩
  · exact Or.inl ⟨Or.inr ⟨hok, Or.inr ⟨hk12, Or.inr ⟨h1, rfl, rfl⟩⟩⟩, h2⟩
  · exact Or.inr ⟨F, k, E, ⟨Or.inr ⟨hok, Or.inr ⟨hk12, Or.inl hP⟩⟩, by rw [hP.2.2.2]; omega⟩, h2, hF, Nat.le_trans G4.size hlt⟩

theorem ErrS.imp {w w' : World} {e : Ending} {N N' : Prop} {P P' : Nat → Int → Prop} {bad : Value} (h : ErrS w w' e N P bad) (h1 : N → N') (h2 : ∀ k c, P k c → P' k c) : ErrS w w' e N' P' bad := by
  rcases h with h | ⟨F, k, c, hP, r⟩
  · exact Or.inl ⟨h1 h.1, h.2⟩
  · exact Or.inr ⟨F, k, c, h2 k c hP, r⟩

theorem pfilter_any (ao : Option Addr) (n c : Nat) (g : Nat → Int) (tb : TypeId) (pb : Value) (w : World) (hm : n ≤ maxLen) (hc : n ≤ c) (hg : Oct g) (h : Src w .u8 ao n g) (ht : Tab w) :
    Calls Tryd.prog 19 #[.slice ao n c, .iface tb pb] w fun e w' => ErrS w w' e (Chk g n 0 0) (fun k E => Chk g n E k ∧ E ≠ 0) (.iface tb pb) ∧ w.grownBy w' none := by
  by_cases hbad : badSize n
  · refine (pfilter_bad ao n c tb pb w hm hbad ht).mono ?_
    rintro e w' ⟨⟨F, rfl, hF, hlt⟩, hg'⟩
    exact ⟨Or.inr ⟨F, 0, 1, ⟨Or.inl ⟨hbad, rfl, rfl⟩, by omega⟩, rfl, hF, hlt⟩, hg'⟩
  · have hb := hbad
    unfold badSize at hbad
    obtain ⟨b, off, rfl, hr⟩ := h (by omega)
    obtain ⟨k, rfl⟩ : ∃ k, n = 8 * k := ⟨n / 8, by omega⟩
    have hk : 8 * k / 8 = k := by omega
    have key : Calls Tryd.prog 19 #[.slice (some ⟨b, off, none⟩) (8 * k) c, .iface tb pb] w fun e w' => ErrS w w' e (Spec (decs g) k 0 0) (fun p E => Spec (decs g) k E p ∧ E ≠ 0) (.iface tb pb) ∧ w.grownBy w' none := by
      by_cases h1 : ∀ j, j < k → wrong (decs g) k j = 0
      · by_cases h2 : (kd (decs g (4 * (k - 1)))).kind = 12
        · exact pfilter_last b off k c g tb pb w (by omega) (by omega) hc hg hr ht h1 h2
        · exact pfilter_end b off k c g tb pb w (by omega) (by omega) hc hg hr ht h1 h2
      · exact pfilter_wrong b off k c g tb pb w (by omega) (by omega) hc hg hr ht h1
    refine key.mono ?_
    rintro e w' ⟨hE, hg'⟩
    exact ⟨hE.imp (fun x => Or.inr ⟨hb, by rw [hk]; exact x⟩) (fun p E x => ⟨Or.inr ⟨hb, by rw [hk]; exact x.1⟩, x.2⟩), hg'⟩

end Go.Proofs.YthbcfepbkkbjiaaDoor
