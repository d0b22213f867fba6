import Derived.Test.YthbcfepbkkbjiaaGreatDoorJKM
namespace Go.Proofs.YthbcfepbkkbjiaaGreatDoor
open Go.RowKit
set_option linter.unusedVariables false
set_option linter.unusedSimpArgs false
def acodes : List Int := [32, 40, 48, 72, 80, 0, 96, 128, 1, 97, 129, 177, 2, 3, 7, 135, 4, 28, 36, 60, 156, 68, 92, 164, 108, 116, 132, 5, 21, 29, 37, 45, 53, 69, 77]
def Octl (l : List Int) : Prop := ∀ x ∈ l, 0 ≤ x ∧ x ≤ 255
theorem octl_oct {l : List Int} (h : Octl l) : Oct (fun j => l.getD j 0) := fun j => by
  show 0 ≤ l.getD j 0 ∧ l.getD j 0 ≤ 255
  by_cases hj : j < l.length
  · have := h l[j] (List.getElem_mem hj)
    simpa [List.getD, hj] using this
  · rw [List.getD_eq_getElem?_getD, List.getElem?_eq_none (by omega)]; decide
theorem octl_app {l l' : List Int} (h : Octl l) (h' : Octl l') : Octl (l ++ l') := fun x hx => by
  rcases List.mem_append.1 hx with hx | hx
  · exact h x hx
  · exact h' x hx
theorem octl_e8 (c a b k : Int) : Octl (e8l c a b k) := fun x hx => by
  obtain ⟨j, hj, rfl⟩ := List.mem_map.1 hx
  have hj' : j < 8 := List.mem_range.1 hj
  have := encs_oct (fun i => [c, a, b, k].getD i 0) j
  have e : encs (fun i => [c, a, b, k].getD i 0) j = enc8 c a b k j := by
    unfold encs
    rw [show j / 8 = 0 by omega, show j % 8 = j by omega]
    rfl
  rwa [e] at this
theorem acodes_cell (w : World) (e : TypeId) (k : Nat) (hk : k < 35) : (w.alloc (.cells #[.int .i64 32, .int .i64 40, .int .i64 48, .int .i64 72, .int .i64 80, .int .i64 0, .int .i64 96, .int .i64 128, .int .i64 1, .int .i64 97, .int .i64 129, .int .i64 177, .int .i64 2, .int .i64 3, .int .i64 7, .int .i64 135, .int .i64 4, .int .i64 28, .int .i64 36, .int .i64 60, .int .i64 156, .int .i64 68, .int .i64 92, .int .i64 164, .int .i64 108, .int .i64 116, .int .i64 132, .int .i64 5, .int .i64 21, .int .i64 29, .int .i64 37, .int .i64 45, .int .i64 53, .int .i64 69, .int .i64 77] e)).cell? ⟨w.heap.size, k, none⟩ = some (.int .i64 (acodes.getD k 0)) := by
  rw [World.cell?_alloc_new]
  have : ∀ k : Fin 35, (#[Value.int .i64 32, .int .i64 40, .int .i64 48, .int .i64 72, .int .i64 80, .int .i64 0, .int .i64 96, .int .i64 128, .int .i64 1, .int .i64 97, .int .i64 129, .int .i64 177, .int .i64 2, .int .i64 3, .int .i64 7, .int .i64 135, .int .i64 4, .int .i64 28, .int .i64 36, .int .i64 60, .int .i64 156, .int .i64 68, .int .i64 92, .int .i64 164, .int .i64 108, .int .i64 116, .int .i64 132, .int .i64 5, .int .i64 21, .int .i64 29, .int .i64 37, .int .i64 45, .int .i64 53, .int .i64 69, .int .i64 77])[k.val]? = some (.int .i64 (acodes.getD k.val 0)) := by
    intro k
    have h := k.isLt
    generalize k.val = n at h
    have e : (#[Value.int .i64 32, .int .i64 40, .int .i64 48, .int .i64 72, .int .i64 80, .int .i64 0, .int .i64 96, .int .i64 128, .int .i64 1, .int .i64 97, .int .i64 129, .int .i64 177, .int .i64 2, .int .i64 3, .int .i64 7, .int .i64 135, .int .i64 4, .int .i64 28, .int .i64 36, .int .i64 60, .int .i64 156, .int .i64 68, .int .i64 92, .int .i64 164, .int .i64 108, .int .i64 116, .int .i64 132, .int .i64 5, .int .i64 21, .int .i64 29, .int .i64 37, .int .i64 45, .int .i64 53, .int .i64 69, .int .i64 77]).toList = acodes.map (Value.int .i64) := rfl
    rw [← Array.getElem?_toList, e, List.getElem?_map]
    have hn : n < acodes.length := h
    rw [List.getElem?_eq_getElem hn]
    simp [List.getD, hn]
  exact this ⟨k, hk⟩
set_option maxRecDepth 100000 in
set_option maxHeartbeats 2000000 in
theorem law_agrees (ro : Option Addr) (rn rcp : Nat) (r : Nat → Int) (jo : Option Addr) (jn jc : Nat) (q : Nat → Int) (po : Option Addr) (n pc : Nat) (A : Nat → Option Addr) (L C : Nat → Nat) (G : Nat → Nat → Int) (tb : TypeId) (pb : Value) (w : World) (hrm : rn ≤ maxLen) (hrn : rn ≤ 140737488351232) (hrc : rn ≤ rcp) (hr : Oct r) (hrs : Src w .u8 ro rn r) (hjm : jn ≤ maxLen) (hq : ∀ j, j < jn → I64 (q j)) (hjs : Src w .i64 jo jn q) (hn : n ≤ maxLen) (hM : Mat w po n A L C G) (hL : Laid w tb pb) :
    Calls Tryz.prog 10 #[.slice ro rn rcp, .slice jo jn jc, .slice po n pc] w fun e w' => e = .returned (.bool true) ∧ w.grownBy w' none := by
  have HL : Hid (Laid w tb pb) := hL
  have HM : Hid (Mat w po n A L C G) := hM
  have HR : Hid (Src w .u8 ro rn r) := hrs
  have HO : Hid (Oct r) := hr
  have HJ : Hid (Src w .i64 jo jn q) := hjs
  have HQ : Hid (∀ j, j < jn → I64 (q j)) := hq
  clear hL hM hrs hr hjs hq
  obtain ⟨i0, hi, hz0, hz1, hz2⟩ := info_parts Tryz.infoByte
  obtain ⟨K, hK⟩ : ∃ K : Nat, min (rn / 3) 60 = K := ⟨_, rfl⟩
  by_cases h60 : rn / 3 ≤ 60
  · have t60 : ¬ ((60 : Int) < (rn : Int) / 3) := by omega
    have e3 : (rn : Int) / 3 = (K : Int) := by omega
    go_enter Tryz.func10, Tryz.ntmps10
    go_wp2_with (go_at_call 26; refine (kknown tb pb w HL.out).mono ?_; rintro e w1 ⟨rfl, hg1⟩)
    have HCd : Hid (∀ k, k < 35 → (w1.alloc (.cells #[.int .i64 32, .int .i64 40, .int .i64 48, .int .i64 72, .int .i64 80, .int .i64 0, .int .i64 96, .int .i64 128, .int .i64 1, .int .i64 97, .int .i64 129, .int .i64 177, .int .i64 2, .int .i64 3, .int .i64 7, .int .i64 135, .int .i64 4, .int .i64 28, .int .i64 36, .int .i64 60, .int .i64 156, .int .i64 68, .int .i64 92, .int .i64 164, .int .i64 108, .int .i64 116, .int .i64 132, .int .i64 5, .int .i64 21, .int .i64 29, .int .i64 37, .int .i64 45, .int .i64 53, .int .i64 69, .int .i64 77] 3)).cell? ⟨w1.heap.size, k, none⟩ = some (.int .i64 (acodes.getD k 0))) := acodes_cell w1 3
    have A2 := World.grownBy_alloc w1 (.cells #[.int .i64 32, .int .i64 40, .int .i64 48, .int .i64 72, .int .i64 80, .int .i64 0, .int .i64 96, .int .i64 128, .int .i64 1, .int .i64 97, .int .i64 129, .int .i64 177, .int .i64 2, .int .i64 3, .int .i64 7, .int .i64 135, .int .i64 4, .int .i64 28, .int .i64 36, .int .i64 60, .int .i64 156, .int .i64 68, .int .i64 92, .int .i64 164, .int .i64 108, .int .i64 116, .int .i64 132, .int .i64 5, .int .i64 21, .int .i64 29, .int .i64 37, .int .i64 45, .int .i64 53, .int .i64 69, .int .i64 77] 3) none
    generalize w1.alloc (.cells #[.int .i64 32, .int .i64 40, .int .i64 48, .int .i64 72, .int .i64 80, .int .i64 0, .int .i64 96, .int .i64 128, .int .i64 1, .int .i64 97, .int .i64 129, .int .i64 177, .int .i64 2, .int .i64 3, .int .i64 7, .int .i64 135, .int .i64 4, .int .i64 28, .int .i64 36, .int .i64 60, .int .i64 156, .int .i64 68, .int .i64 92, .int .i64 164, .int .i64 108, .int .i64 116, .int .i64 132, .int .i64 5, .int .i64 21, .int .i64 29, .int .i64 37, .int .i64 45, .int .i64 53, .int .i64 69, .int .i64 77] 3) = w2 at *
    have G2 := grown_trans hg1 A2
    generalize w1.heap.size = CB at *
    clear hg1 A2
    go_loopw [9, 11] (fun v i wr => ∃ (k : Nat) (l : List Int), k ≤ K ∧ i = .int .i64 k ∧ wr.ownsRow w2.heap.size 5 1 v (8 * k) (vals l) ∧ l.length = 8 * k ∧ Octl l ∧ w2.grownBy wr none) (fun _ i _ => K - (intOf i).toNat)
    case atStart => exact ⟨0, [], Nat.zero_le _, rfl, ⟨rfl, Or.inl ⟨rfl, rfl⟩⟩, rfl, (fun x hx => by simp at hx), grown_refl _ _⟩
    case round =>
      obtain ⟨k, l, hk, rfl, ho, hll, hol, hgr⟩ := hrel
      by_cases hlt : k < K
      · have Gr := grown_trans G2 hgr
        obtain ⟨b, off, rfl, hR⟩ := (HR.out.keep Gr) (by omega)
        have c0 : wr.cell? ⟨b, off + 3 * k, none⟩ = some (.int .u8 (r (3 * k))) := hR _ (by omega)
        have c1 : wr.cell? ⟨b, off + (3 * k + 1), none⟩ = some (.int .u8 (r (3 * k + 1))) := hR _ (by omega)
        have c2 : wr.cell? ⟨b, off + (3 * k + 2), none⟩ = some (.int .u8 (r (3 * k + 2))) := hR _ (by omega)
        have b0 := HO.out (3 * k)
        have b1 := HO.out (3 * k + 1)
        have b2 := HO.out (3 * k + 2)
        obtain ⟨d0, hd0⟩ : ∃ d : Nat, r (3 * k) % 35 = (d : Int) := ⟨(r (3 * k) % 35).toNat, by omega⟩
        have d35 : d0 < 35 := by omega
        have cc : wr.cell? ⟨CB, d0, none⟩ = some (.int .i64 (acodes.getD d0 0)) := hgr.cell (HCd.out d0 d35) (by simp)
        clear hR
        generalize r (3 * k) = x0 at *
        generalize r (3 * k + 1) = x1 at *
        generalize r (3 * k + 2) = x2 at *
        generalize acodes.getD d0 0 = cv at *
        have t1 : (k : Int) < (K : Int) := by omega
        by_cases hj : k < jn
        · obtain ⟨jb, joff, rfl, hJR⟩ := (HJ.out.keep Gr) (by omega)
          have cj : wr.cell? ⟨jb, joff + k, none⟩ = some (.int .i64 (q k)) := hJR k hj
          have tj : (k : Int) < (jn : Int) := by omega
          clear hJR
          have hcv : cv = 5 ∨ cv = 96 ∨ cv = 97 ∨ cv = 2 ∨ cv = 3 ∨ ((cv == 5) = false ∧ (cv == 96) = false ∧ (cv == 97) = false ∧ (cv == 2) = false ∧ (cv == 3) = false) := by simp; omega
          rcases hcv with rfl | rfl | rfl | rfl | rfl | ⟨n5, n96, n97, n2, n3⟩
          all_goals
            go_wp2_with (first | (go_at_call 30; refine (kpick _ _ _ (HQ.out k hj) ?_ ?_).mono ?_; omega; omega; rintro e w3 ⟨⟨rj, rfl, hrj⟩, rfl⟩) | (go_at_call 38; refine (kinsn _ _ _ _ _).mono ?_; rintro e w5 ⟨rfl, hg5, hb5⟩; have R5 := e8_row hb5) | (at_builtin; refine wpList_append_own_at _ rfl _ _ 25 rfl w2.heap.size 5 i0 (.int .u8 0) 1 1 Tryz.underlying25 hi hz0 hz1 hz2 rfl (by decide) _ (8 * k) (vals l) rfl (ho.kept hg5 (by cases (Value.ownBlock _) <;> simp)) ⟨_, 0, none⟩ 8 8 _ rfl (by simp [vals, e8l]) (row_news R5) (vals_one _) (by unfold maxLen; omega) (by omega) (Nat.le_trans hgr.size hg5.size) ?_; intro v6 w6 ho6 hg6 _ _))
            go_roundw
            case rel => exact ⟨k + 1, _, by omega, by go_num, by rw [← vals_app] at ho6; exact ho6, by rw [List.length_append, hll]; simp [e8l]; omega, octl_app hol (octl_e8 _ _ _ _), grown_own (grown_trans hgr hg5) hg6 fun g hg => (ho.lt g hg).1⟩
            case measure => simp [intOf]; omega
        · have tj : ¬ ((k : Int) < (jn : Int)) := by omega
          have hcv : cv = 5 ∨ cv = 96 ∨ cv = 97 ∨ cv = 2 ∨ cv = 3 ∨ ((cv == 5) = false ∧ (cv == 96) = false ∧ (cv == 97) = false ∧ (cv == 2) = false ∧ (cv == 3) = false) := by simp; omega
          rcases hcv with rfl | rfl | rfl | rfl | rfl | ⟨n5, n96, n97, n2, n3⟩
          all_goals
            go_wp2_with (first | (go_at_call 30; refine (kpick _ _ _ (HQ.out k hj) ?_ ?_).mono ?_; omega; omega; rintro e w3 ⟨⟨rj, rfl, hrj⟩, rfl⟩) | (go_at_call 38; refine (kinsn _ _ _ _ _).mono ?_; rintro e w5 ⟨rfl, hg5, hb5⟩; have R5 := e8_row hb5) | (at_builtin; refine wpList_append_own_at _ rfl _ _ 25 rfl w2.heap.size 5 i0 (.int .u8 0) 1 1 Tryz.underlying25 hi hz0 hz1 hz2 rfl (by decide) _ (8 * k) (vals l) rfl (ho.kept hg5 (by cases (Value.ownBlock _) <;> simp)) ⟨_, 0, none⟩ 8 8 _ rfl (by simp [vals, e8l]) (row_news R5) (vals_one _) (by unfold maxLen; omega) (by omega) (Nat.le_trans hgr.size hg5.size) ?_; intro v6 w6 ho6 hg6 _ _))
            go_roundw
            case rel => exact ⟨k + 1, _, by omega, by go_num, by rw [← vals_app] at ho6; exact ho6, by rw [List.length_append, hll]; simp [e8l]; omega, octl_app hol (octl_e8 _ _ _ _), grown_own (grown_trans hgr hg5) hg6 fun g hg => (ho.lt g hg).1⟩
            case measure => simp [intOf]; omega
      · have hke : k = K := by omega
        subst hke
        obtain ⟨wl, hwl⟩ : ∃ x, x = wr := ⟨_, rfl⟩
        subst hwl
        go_wp2_with (first | (go_at_call 38; refine (kinsn _ _ _ _ _).mono ?_; rintro e w5 ⟨rfl, hg5, hb5⟩; have R5 := e8_row hb5) | (at_builtin; refine wpList_append_own_at _ rfl _ _ 25 rfl w2.heap.size 5 i0 (.int .u8 0) 1 1 Tryz.underlying25 hi hz0 hz1 hz2 rfl (by decide) _ (8 * k) (vals l) rfl (ho.kept hg5 (by cases (Value.ownBlock _) <;> simp)) ⟨_, 0, none⟩ 8 8 _ rfl (by simp [vals, e8l]) (row_news R5) (vals_one _) (by unfold maxLen; omega) (by omega) (Nat.le_trans hgr.size hg5.size) ?_; intro v6 w6 ho6 hg6 _ _))
        rw [← vals_app] at ho6
        have hl6 := octl_app hol (octl_e8 22 0 0 0)
        have hlen : (l ++ e8l 22 0 0 0).length = 8 * k + 8 := by rw [List.length_append, hll]; simp [e8l]
        have G6 : w.grownBy w6 none := grown_trans G2 (grown_own (grown_trans hgr hg5) hg6 fun g hg => (ho.lt g hg).1)
        obtain ⟨B6, cap6, rfl, _, hcp⟩ := owns_form ho6 (by omega)
        have hS6 := vals_src ho6 hlen.symm
        refine (kagrees _ (8 * k + 8) cap6 _ po n pc A L C G tb pb w6 (by unfold maxLen; omega) hcp (octl_oct hl6) hS6 hn (HM.out.keep G6) (HL.out.keep G6)).mono ?_
        rintro e w7 ⟨rfl, hg7⟩
        have G7 := grown_trans G6 hg7
        go_wp2_with (go_at_call 39; refine (kagrees _ rn rcp r po n pc A L C G tb pb w7 hrm hrc HO.out (HR.out.keep G7) hn (HM.out.keep G7) (HL.out.keep G7)).mono ?_; rintro e w8 ⟨rfl, hg8⟩)
        go_ret
        exact ⟨rfl, grown_trans G7 hg8⟩
  · have t60 : (60 : Int) < (rn : Int) / 3 := by omega
    have e60 : (60 : Int) = (K : Int) := by omega
    have HE : Hid ((60 : Int) = (K : Int)) := e60
    clear e60
    go_enter Tryz.func10, Tryz.ntmps10
    go_wp2_with (go_at_call 26; refine (kknown tb pb w HL.out).mono ?_; rintro e w1 ⟨rfl, hg1⟩)
    have HCd : Hid (∀ k, k < 35 → (w1.alloc (.cells #[.int .i64 32, .int .i64 40, .int .i64 48, .int .i64 72, .int .i64 80, .int .i64 0, .int .i64 96, .int .i64 128, .int .i64 1, .int .i64 97, .int .i64 129, .int .i64 177, .int .i64 2, .int .i64 3, .int .i64 7, .int .i64 135, .int .i64 4, .int .i64 28, .int .i64 36, .int .i64 60, .int .i64 156, .int .i64 68, .int .i64 92, .int .i64 164, .int .i64 108, .int .i64 116, .int .i64 132, .int .i64 5, .int .i64 21, .int .i64 29, .int .i64 37, .int .i64 45, .int .i64 53, .int .i64 69, .int .i64 77] 3)).cell? ⟨w1.heap.size, k, none⟩ = some (.int .i64 (acodes.getD k 0))) := acodes_cell w1 3
    have A2 := World.grownBy_alloc w1 (.cells #[.int .i64 32, .int .i64 40, .int .i64 48, .int .i64 72, .int .i64 80, .int .i64 0, .int .i64 96, .int .i64 128, .int .i64 1, .int .i64 97, .int .i64 129, .int .i64 177, .int .i64 2, .int .i64 3, .int .i64 7, .int .i64 135, .int .i64 4, .int .i64 28, .int .i64 36, .int .i64 60, .int .i64 156, .int .i64 68, .int .i64 92, .int .i64 164, .int .i64 108, .int .i64 116, .int .i64 132, .int .i64 5, .int .i64 21, .int .i64 29, .int .i64 37, .int .i64 45, .int .i64 53, .int .i64 69, .int .i64 77] 3) none
    generalize w1.alloc (.cells #[.int .i64 32, .int .i64 40, .int .i64 48, .int .i64 72, .int .i64 80, .int .i64 0, .int .i64 96, .int .i64 128, .int .i64 1, .int .i64 97, .int .i64 129, .int .i64 177, .int .i64 2, .int .i64 3, .int .i64 7, .int .i64 135, .int .i64 4, .int .i64 28, .int .i64 36, .int .i64 60, .int .i64 156, .int .i64 68, .int .i64 92, .int .i64 164, .int .i64 108, .int .i64 116, .int .i64 132, .int .i64 5, .int .i64 21, .int .i64 29, .int .i64 37, .int .i64 45, .int .i64 53, .int .i64 69, .int .i64 77] 3) = w2 at *
    have G2 := grown_trans hg1 A2
    generalize w1.heap.size = CB at *
    clear hg1 A2
    rw [HE.out]
    go_loopw [9, 11] (fun v i wr => ∃ (k : Nat) (l : List Int), k ≤ K ∧ i = .int .i64 k ∧ wr.ownsRow w2.heap.size 5 1 v (8 * k) (vals l) ∧ l.length = 8 * k ∧ Octl l ∧ w2.grownBy wr none) (fun _ i _ => K - (intOf i).toNat)
    case atStart => exact ⟨0, [], Nat.zero_le _, rfl, ⟨rfl, Or.inl ⟨rfl, rfl⟩⟩, rfl, (fun x hx => by simp at hx), grown_refl _ _⟩
    case round =>
      obtain ⟨k, l, hk, rfl, ho, hll, hol, hgr⟩ := hrel
      by_cases hlt : k < K
      · have Gr := grown_trans G2 hgr
        obtain ⟨b, off, rfl, hR⟩ := (HR.out.keep Gr) (by omega)
        have c0 : wr.cell? ⟨b, off + 3 * k, none⟩ = some (.int .u8 (r (3 * k))) := hR _ (by omega)
        have c1 : wr.cell? ⟨b, off + (3 * k + 1), none⟩ = some (.int .u8 (r (3 * k + 1))) := hR _ (by omega)
        have c2 : wr.cell? ⟨b, off + (3 * k + 2), none⟩ = some (.int .u8 (r (3 * k + 2))) := hR _ (by omega)
        have b0 := HO.out (3 * k)
        have b1 := HO.out (3 * k + 1)
        have b2 := HO.out (3 * k + 2)
        obtain ⟨d0, hd0⟩ : ∃ d : Nat, r (3 * k) % 35 = (d : Int) := ⟨(r (3 * k) % 35).toNat, by omega⟩
        have d35 : d0 < 35 := by omega
        have cc : wr.cell? ⟨CB, d0, none⟩ = some (.int .i64 (acodes.getD d0 0)) := hgr.cell (HCd.out d0 d35) (by simp)
        clear hR
        generalize r (3 * k) = x0 at *
        generalize r (3 * k + 1) = x1 at *
        generalize r (3 * k + 2) = x2 at *
        generalize acodes.getD d0 0 = cv at *
        have t1 : (k : Int) < (K : Int) := by omega
        by_cases hj : k < jn
        · obtain ⟨jb, joff, rfl, hJR⟩ := (HJ.out.keep Gr) (by omega)
          have cj : wr.cell? ⟨jb, joff + k, none⟩ = some (.int .i64 (q k)) := hJR k hj
          have tj : (k : Int) < (jn : Int) := by omega
          clear hJR
          have hcv : cv = 5 ∨ cv = 96 ∨ cv = 97 ∨ cv = 2 ∨ cv = 3 ∨ ((cv == 5) = false ∧ (cv == 96) = false ∧ (cv == 97) = false ∧ (cv == 2) = false ∧ (cv == 3) = false) := by simp; omega
          rcases hcv with rfl | rfl | rfl | rfl | rfl | ⟨n5, n96, n97, n2, n3⟩
          all_goals
            go_wp2_with (first | (go_at_call 30; refine (kpick _ _ _ (HQ.out k hj) ?_ ?_).mono ?_; omega; omega; rintro e w3 ⟨⟨rj, rfl, hrj⟩, rfl⟩) | (go_at_call 38; refine (kinsn _ _ _ _ _).mono ?_; rintro e w5 ⟨rfl, hg5, hb5⟩; have R5 := e8_row hb5) | (at_builtin; refine wpList_append_own_at _ rfl _ _ 25 rfl w2.heap.size 5 i0 (.int .u8 0) 1 1 Tryz.underlying25 hi hz0 hz1 hz2 rfl (by decide) _ (8 * k) (vals l) rfl (ho.kept hg5 (by cases (Value.ownBlock _) <;> simp)) ⟨_, 0, none⟩ 8 8 _ rfl (by simp [vals, e8l]) (row_news R5) (vals_one _) (by unfold maxLen; omega) (by omega) (Nat.le_trans hgr.size hg5.size) ?_; intro v6 w6 ho6 hg6 _ _))
            go_roundw
            case rel => exact ⟨k + 1, _, by omega, by go_num, by rw [← vals_app] at ho6; exact ho6, by rw [List.length_append, hll]; simp [e8l]; omega, octl_app hol (octl_e8 _ _ _ _), grown_own (grown_trans hgr hg5) hg6 fun g hg => (ho.lt g hg).1⟩
            case measure => simp [intOf]; omega
        · have tj : ¬ ((k : Int) < (jn : Int)) := by omega
          have hcv : cv = 5 ∨ cv = 96 ∨ cv = 97 ∨ cv = 2 ∨ cv = 3 ∨ ((cv == 5) = false ∧ (cv == 96) = false ∧ (cv == 97) = false ∧ (cv == 2) = false ∧ (cv == 3) = false) := by simp; omega
          rcases hcv with rfl | rfl | rfl | rfl | rfl | ⟨n5, n96, n97, n2, n3⟩
          all_goals
            go_wp2_with (first | (go_at_call 30; refine (kpick _ _ _ (HQ.out k hj) ?_ ?_).mono ?_; omega; omega; rintro e w3 ⟨⟨rj, rfl, hrj⟩, rfl⟩) | (go_at_call 38; refine (kinsn _ _ _ _ _).mono ?_; rintro e w5 ⟨rfl, hg5, hb5⟩; have R5 := e8_row hb5) | (at_builtin; refine wpList_append_own_at _ rfl _ _ 25 rfl w2.heap.size 5 i0 (.int .u8 0) 1 1 Tryz.underlying25 hi hz0 hz1 hz2 rfl (by decide) _ (8 * k) (vals l) rfl (ho.kept hg5 (by cases (Value.ownBlock _) <;> simp)) ⟨_, 0, none⟩ 8 8 _ rfl (by simp [vals, e8l]) (row_news R5) (vals_one _) (by unfold maxLen; omega) (by omega) (Nat.le_trans hgr.size hg5.size) ?_; intro v6 w6 ho6 hg6 _ _))
            go_roundw
            case rel => exact ⟨k + 1, _, by omega, by go_num, by rw [← vals_app] at ho6; exact ho6, by rw [List.length_append, hll]; simp [e8l]; omega, octl_app hol (octl_e8 _ _ _ _), grown_own (grown_trans hgr hg5) hg6 fun g hg => (ho.lt g hg).1⟩
            case measure => simp [intOf]; omega
      · have hke : k = K := by omega
        subst hke
        obtain ⟨wl, hwl⟩ : ∃ x, x = wr := ⟨_, rfl⟩
        subst hwl
        go_wp2_with (first | (go_at_call 38; refine (kinsn _ _ _ _ _).mono ?_; rintro e w5 ⟨rfl, hg5, hb5⟩; have R5 := e8_row hb5) | (at_builtin; refine wpList_append_own_at _ rfl _ _ 25 rfl w2.heap.size 5 i0 (.int .u8 0) 1 1 Tryz.underlying25 hi hz0 hz1 hz2 rfl (by decide) _ (8 * k) (vals l) rfl (ho.kept hg5 (by cases (Value.ownBlock _) <;> simp)) ⟨_, 0, none⟩ 8 8 _ rfl (by simp [vals, e8l]) (row_news R5) (vals_one _) (by unfold maxLen; omega) (by omega) (Nat.le_trans hgr.size hg5.size) ?_; intro v6 w6 ho6 hg6 _ _))
        rw [← vals_app] at ho6
        have hl6 := octl_app hol (octl_e8 22 0 0 0)
        have hlen : (l ++ e8l 22 0 0 0).length = 8 * k + 8 := by rw [List.length_append, hll]; simp [e8l]
        have G6 : w.grownBy w6 none := grown_trans G2 (grown_own (grown_trans hgr hg5) hg6 fun g hg => (ho.lt g hg).1)
        obtain ⟨B6, cap6, rfl, _, hcp⟩ := owns_form ho6 (by omega)
        have hS6 := vals_src ho6 hlen.symm
        refine (kagrees _ (8 * k + 8) cap6 _ po n pc A L C G tb pb w6 (by unfold maxLen; omega) hcp (octl_oct hl6) hS6 hn (HM.out.keep G6) (HL.out.keep G6)).mono ?_
        rintro e w7 ⟨rfl, hg7⟩
        have G7 := grown_trans G6 hg7
        go_wp2_with (go_at_call 39; refine (kagrees _ rn rcp r po n pc A L C G tb pb w7 hrm hrc HO.out (HR.out.keep G7) hn (HM.out.keep G7) (HL.out.keep G7)).mono ?_; rintro e w8 ⟨rfl, hg8⟩)
        go_ret
        exact ⟨rfl, grown_trans G7 hg8⟩
end Go.Proofs.YthbcfepbkkbjiaaGreatDoor
