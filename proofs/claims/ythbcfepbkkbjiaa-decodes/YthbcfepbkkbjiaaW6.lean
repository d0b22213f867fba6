/- The walks of taken, read: lists of instructions that the caller writes over. -/
import Derived.Test.YthbcfepbkkbjiaaW5
import Derived.Test.YthbcfepbkkbjiaaG
namespace Go.Proofs.Ythbcfepbkkbjiaa
open Go.RowKit
attribute [local go_sem ↓] Go.wp_at_zero Go.wp_at_succ

/-- instructions that bear a mark -/
def mk (m : Int) (j : Nat) : Int := if j % 4 = 0 then m else 0

theorem mk_at (m : Int) (k : Nat) : mk m (4 * k) = m ∧ mk m (4 * k + 1) = 0 ∧ mk m (4 * k + 2) = 0 ∧ mk m (4 * k + 3) = 0 := by
  unfold mk
  refine ⟨if_pos (by omega), if_neg (by omega), if_neg (by omega), if_neg (by omega)⟩

/-- the first k marked -/
def mkTo (f : Nat → Value) (m : Int) (k j : Nat) : Value := if j < 4 * k then .int .i64 (mk m j) else f j

theorem mkTo_succ (f : Nat → Value) (m : Int) (k j : Nat) : quad (mkTo f m k) (k * 4) (.int .i64 m) (.int .i64 0) (.int .i64 0) (.int .i64 0) j = mkTo f m (k + 1) j := by
  obtain ⟨d0, d1, d2, d3⟩ := mk_at m k
  rw [Nat.mul_comm k 4]
  dsimp only [quad, mkTo]
  by_cases h3 : j = 4 * k + 3
  · subst h3; rw [if_pos rfl, if_pos (by omega), d3]
  · rw [if_neg h3]
    by_cases h2 : j = 4 * k + 2
    · subst h2; rw [if_pos rfl, if_pos (by omega), d2]
    · rw [if_neg h2]
      by_cases h1 : j = 4 * k + 1
      · subst h1; rw [if_pos rfl, if_pos (by omega), d1]
      · rw [if_neg h1]
        by_cases h0 : j = 4 * k
        · subst h0; rw [if_pos rfl, if_pos (by omega), d0]
        · rw [if_neg h0]
          by_cases hj : j < 4 * k
          · rw [if_pos hj, if_pos (by omega)]
          · rw [if_neg hj, if_neg (by omega)]

/-- Four lists of instructions that bear the mark m; the blocks in which they lie are among A. -/
def Lists (w : World) (A : Nat → Prop) (v : Value) (m : Int) : Prop :=
  ∃ (R : Nat) (E : Nat → Option Addr × Nat × Nat), v = .slice (some ⟨R, 0, none⟩) 4 4 ∧ A R ∧ Mkd w R 4 (fun i => .slice (E i).1 (E i).2.1 (E i).2.2) ∧
    ∀ i, i < 4 → (E i).2.1 ≤ 259 ∧ (0 < (E i).2.1 → ∃ b, (E i).1 = some ⟨b, 0, none⟩ ∧ A b ∧ Mkd w b (4 * (E i).2.1) (ints .i64 (mk m)))

theorem Lists.keep {w w' : World} {A A' : Nat → Prop} {v : Value} {m : Int} (h : Lists w A v m) (hA : ∀ k, A k → A' k) (hs : ∀ k, A k → k < w.heap.size → w'.heap[k]? = w.heap[k]?) : Lists w' A' v m := by
  obtain ⟨R, E, h1, h2, h3, h4⟩ := h
  refine ⟨R, E, h1, hA _ h2, h3.same (hs _ h2 h3.lt), fun i hi => ⟨(h4 i hi).1, fun hp => ?_⟩⟩
  obtain ⟨b, e1, e2, e3⟩ := (h4 i hi).2 hp
  exact ⟨b, e1, hA _ e2, e3.same (hs _ e2 e3.lt)⟩

theorem mk_mod (m : Int) (n j : Nat) : mk m (n * 4 + j) = mk m j := by
  unfold mk
  rw [show (n * 4 + j) % 4 = j % 4 by omega]

theorem marks1 (m : Int) (n j : Nat) (hj : j < 1 * 4) : #[Value.int .i64 m, .int .i64 0, .int .i64 0, .int .i64 0].getD j .nilFunc = ints .i64 (mk m) (n * 4 + j) := by
  unfold ints
  rw [mk_mod]
  match j, hj with
  | 0, _ => rfl
  | 1, _ => rfl
  | 2, _ => rfl
  | 3, _ => rfl

theorem marks2 (m : Int) (n j : Nat) (hj : j < 2 * 4) : #[Value.int .i64 m, .int .i64 0, .int .i64 0, .int .i64 0, .int .i64 m, .int .i64 0, .int .i64 0, .int .i64 0].getD j .nilFunc = ints .i64 (mk m) (n * 4 + j) := by
  unfold ints
  rw [mk_mod]
  match j, hj with
  | 0, _ => rfl
  | 1, _ => rfl
  | 2, _ => rfl
  | 3, _ => rfl
  | 4, _ => rfl
  | 5, _ => rfl
  | 6, _ => rfl
  | 7, _ => rfl

theorem marks3 (m : Int) (n j : Nat) (hj : j < 3 * 4) : #[Value.int .i64 m, .int .i64 0, .int .i64 0, .int .i64 0, .int .i64 m, .int .i64 0, .int .i64 0, .int .i64 0, .int .i64 m, .int .i64 0, .int .i64 0, .int .i64 0].getD j .nilFunc = ints .i64 (mk m) (n * 4 + j) := by
  unfold ints
  rw [mk_mod]
  match j, hj with
  | 0, _ => rfl
  | 1, _ => rfl
  | 2, _ => rfl
  | 3, _ => rfl
  | 4, _ => rfl
  | 5, _ => rfl
  | 6, _ => rfl
  | 7, _ => rfl
  | 8, _ => rfl
  | 9, _ => rfl
  | 10, _ => rfl
  | 11, _ => rfl

theorem lists_mk {w3 : World} {ao : Option Addr} {n cap g1 p1 g2 p2 g3 p3 : Nat} {m : Int} {A : Nat → Prop} {e : TypeId} (hn : n ≤ 256) (hM : Held w3 e 4 ao n cap (ints .i64 (mk m)))
    (M1 : Mkd w3 g1 ((n + 1) * 4) (ints .i64 (mk m))) (M2 : Mkd w3 g2 ((n + 2) * 4) (ints .i64 (mk m))) (M3 : Mkd w3 g3 ((n + 3) * 4) (ints .i64 (mk m)))
    (aR : A w3.heap.size) (aL : ∀ g, own? ao = some g → A g) (a1 : A g1) (a2 : A g2) (a3 : A g3) :
    Lists (w3.alloc (.cells #[.slice ao n cap, .slice (some ⟨g1, 0, none⟩) (n + 1) p1, .slice (some ⟨g2, 0, none⟩) (n + 2) p2, .slice (some ⟨g3, 0, none⟩) (n + 3) p3] 23)) A (.slice (some ⟨w3.heap.size, 0, none⟩) 4 4) m := by
  refine ⟨w3.heap.size, fun i => match i with | 0 => (ao, n, cap) | 1 => (some ⟨g1, 0, none⟩, n + 1, p1) | 2 => (some ⟨g2, 0, none⟩, n + 2, p2) | _ => (some ⟨g3, 0, none⟩, n + 3, p3), rfl, aR, ⟨_, _, (blk_new w3 _ _).congr fun j hj => ?_⟩, fun i hi => ?_⟩
  · match j, hj with
    | 0, _ => rfl
    | 1, _ => rfl
    | 2, _ => rfl
    | 3, _ => rfl
  · match i, hi with
    | 0, _ =>
      refine ⟨by show n ≤ 259; omega, fun hp => ?_⟩
      rcases hM with ⟨_, h0, _⟩ | ⟨g, rfl, hb, _⟩
      · have : 0 < n := hp
        omega
      · exact ⟨g, rfl, aL g rfl, by rw [Nat.mul_comm]; exact ⟨_, _, hb.alloc _⟩⟩
    | 1, _ => exact ⟨by show n + 1 ≤ 259; omega, fun _ => ⟨g1, rfl, a1, by rw [Nat.mul_comm]; exact M1.alloc _⟩⟩
    | 2, _ => exact ⟨by show n + 2 ≤ 259; omega, fun _ => ⟨g2, rfl, a2, by rw [Nat.mul_comm]; exact M2.alloc _⟩⟩
    | 3, _ => exact ⟨by show n + 3 ≤ 259; omega, fun _ => ⟨g3, rfl, a3, by rw [Nat.mul_comm]; exact M3.alloc _⟩⟩

set_option maxRecDepth 100000 in
set_option maxHeartbeats 1000000 in
theorem taken_any (ao : Option Addr) (n cap : Nat) (f : Nat → Value) (m : Int) (w : World) (hn : n ≤ 256) (hv : Held w 34 4 ao n cap f) :
    Calls Try.prog 8 #[.slice ao n cap, .int .i64 m] w fun e w' => ∃ v, e = .returned v ∧ Lists w' (fun k => own? ao = some k ∨ (w.heap.size ≤ k ∧ k < w'.heap.size)) v m ∧ w.grownBy w' (own? ao) := by
  obtain ⟨i0, hi, hz0, hz1, hz2⟩ := info_parts Try.infoInsn
  have hlo := hv.lt
  go_enter Try.func8, Try.ntmps8
  go_wp2
  go_loopw [6] (fun i wr => ∃ k : Nat, k ≤ n ∧ i = .int .i64 k ∧ (w.alloc (.cells #[.int .i64 m, .int .i64 0, .int .i64 0, .int .i64 0] 34)).grownBy wr (own? ao) ∧ Held wr 34 4 ao n cap (mkTo f m k)) (fun i _ => n - (intOf i).toNat)
  case atStart => exact ⟨0, Nat.zero_le _, rfl, grown_refl _ _, by
    rcases hv with h | ⟨g, h1, h2, h3⟩
    · exact Or.inl h
    · exact Or.inr ⟨g, h1, (h2.alloc _).congr (fun j _ => by simp [mkTo]), h3⟩⟩
  case round =>
    obtain ⟨k, hk, rfl, hgr, hh⟩ := hrel
    obtain ⟨x0, x1, x2, x3⟩ := box_four hgr hlo
    by_cases hlt : k < n
    · rcases hh with ⟨_, h0, _⟩ | ⟨g, rfl, hbk, hcap⟩
      · omega
      have e0 := hbk.cell (j := k * 4) (by omega)
      have e1 := hbk.cell (j := k * 4 + 1) (by omega)
      have e2 := hbk.cell (j := k * 4 + 2) (by omega)
      have e3 := hbk.cell (j := k * 4 + 3) (by omega)
      have f0 := hbk.frozen (k * 4)
      have f1 := hbk.frozen (k * 4 + 1)
      have f2 := hbk.frozen (k * 4 + 2)
      have f3 := hbk.frozen (k * 4 + 3)
      obtain ⟨Q1, Q2⟩ := hbk.quad (j := k * 4) (by omega) (.int .i64 m) (.int .i64 0) (.int .i64 0) (.int .i64 0)
      go_wp2
      go_roundw
      case rel => exact ⟨k + 1, by omega, by go_num, grown_trans hgr Q2, Or.inr ⟨g, rfl, Q1.congr fun j _ => mkTo_succ f m k j, hcap⟩⟩
      case measure => simp [intOf]; omega
    · have : k = n := by omega
      subst this
      have hM : Held wr 34 4 ao k cap (ints .i64 (mk m)) := hh.congr fun j hj => by simp only [mkTo, ints]; rw [if_pos (by omega)]
      clear hh hv
      go_wp2_with (first | (at_builtin; refine wpList_append_held _ rfl (.tmp 22) (.tmp 24) 23 rfl 34 i0 _ 4 32 Try.underlying23 hi hz0 hz1 hz2 rfl (by decide) ao k cap _ rfl (hM.alloc _) _ 1 1 _ _ rfl (heap_top _ _ _ (by simp)) rfl (by simp [Value.oneCell']) (by decide) (by unfold maxLen; omega) (by omega) (ints .i64 (mk m)) (fun _ _ => rfl) (marks1 m k) ?_; intro g1 p1 w1 B1 c1 d1 hM1 G1 o1 K1; have H1 := grown_trans (grown_alloc hgr _) G1; obtain ⟨y10, y11, y12, y13⟩ := box_four H1 hlo) | (at_builtin; refine wpList_append_held _ rfl (.tmp 26) (.tmp 29) 23 rfl 34 i0 _ 4 32 Try.underlying23 hi hz0 hz1 hz2 rfl (by decide) ao k cap _ rfl (hM1.alloc _) _ 2 2 _ _ rfl (heap_top _ _ _ (by simp)) rfl (by simp [Value.oneCell']) (by decide) (by unfold maxLen; omega) (by omega) (ints .i64 (mk m)) (fun _ _ => rfl) (marks2 m k) ?_; intro g2 p2 w2 B2 c2 d2 hM2 G2 o2 K2; have H2 := grown_trans (grown_alloc H1 _) G2; obtain ⟨y20, y21, y22, y23⟩ := box_four H2 hlo) | (at_builtin; refine wpList_append_held _ rfl (.tmp 31) (.tmp 35) 23 rfl 34 i0 _ 4 32 Try.underlying23 hi hz0 hz1 hz2 rfl (by decide) ao k cap _ rfl (hM2.alloc _) _ 3 3 _ _ rfl (heap_top _ _ _ (by simp)) rfl (by simp [Value.oneCell']) (by decide) (by unfold maxLen; omega) (by omega) (ints .i64 (mk m)) (fun _ _ => rfl) (marks3 m k) ?_; intro g3 p3 w3 B3 c3 d3 hM3 G3 o3 K3; have H3 := grown_trans (grown_alloc H2 _) G3; obtain ⟨y30, y31, y32, y33⟩ := box_four H3 hlo))
      go_ret
      have M1 : Mkd w3 g1 ((k + 1) * 4) (ints .i64 (mk m)) := K3 _ _ ((K2 _ _ (Mkd.alloc ⟨_, _, B1⟩ _) (by omega)).alloc _) (by omega)
      have M2 : Mkd w3 g2 ((k + 2) * 4) (ints .i64 (mk m)) := K3 _ _ (Mkd.alloc ⟨_, _, B2⟩ _) (by omega)
      have M3 : Mkd w3 g3 ((k + 3) * 4) (ints .i64 (mk m)) := ⟨_, _, B3⟩
      have z1 := (grown_alloc hgr (.cells #[.int .i64 m, .int .i64 0, .int .i64 0, .int .i64 0] 34)).size
      have z2 := H1.size
      have z3 := H2.size
      have z4 := H3.size
      have s1 := M1.lt
      have s2 := M2.lt
      have s3 := M3.lt
      simp only [World.size_alloc] at z1 z2 z3 z4 o1 o2 o3
      refine ⟨_, rfl, lists_mk hn hM3 M1 M2 M3 ?_ ?_ ?_ ?_ ?_, ?_⟩
      · exact Or.inr ⟨by omega, by simp⟩
      · exact fun g hg => Or.inl hg
      · exact o1.elim Or.inl fun h => Or.inr ⟨by omega, by simp; omega⟩
      · exact o2.elim Or.inl fun h => Or.inr ⟨by omega, by simp; omega⟩
      · exact o3.elim Or.inl fun h => Or.inr ⟨by omega, by simp; omega⟩
      · exact grown_alloc (grown_trans (grown_weak (World.grownBy_alloc w _ none) _) H3) _

theorem read_nil (m : Int) (w : World) :
    Calls Try.prog 15 #[.slice none 0 0, .int .i64 m] w fun e w' => e = .returned (.bool true) ∧ w' = w := by
  go_enter Try.func15, Try.ntmps15
  go_wp2
  go_loop [5] (fun i => i = .int .i64 0) (fun _ => 0)
  case atStart => rfl
  case round =>
    subst hrel
    go_wp2
    go_ret
    exact ⟨rfl, rfl⟩

set_option maxRecDepth 100000 in
set_option maxHeartbeats 1000000 in
theorem read_lists (A : Nat → Prop) (v : Value) (m : Int) (w : World) (h : Lists w A v m) :
    Calls Try.prog 15 #[v, .int .i64 m] w fun e w' => e = .returned (.bool true) ∧ w' = w := by
  obtain ⟨R, E, rfl, _, hR, hE⟩ := h
  go_enter Try.func15, Try.ntmps15
  go_wp2
  go_loop [5] (fun i => ∃ k : Nat, k ≤ 4 ∧ i = .int .i64 k) (fun i => 4 - (intOf i).toNat)
  case atStart => exact ⟨0, by omega, rfl⟩
  case round =>
    obtain ⟨k, hk, rfl⟩ := hrel
    by_cases hlt : k < 4
    · have hc : w.cell? ⟨R, k, none⟩ = some (.slice (E k).1 (E k).2.1 (E k).2.2) := hR.cell hlt
      obtain ⟨hen, hM⟩ := hE k hlt
      generalize (E k).1 = ea at hc hM
      generalize (E k).2.1 = en at hc hM hen
      generalize (E k).2.2 = ec at hc
      clear hE hR
      go_wp2
      go_loop [6] (fun j => ∃ i : Nat, i ≤ en ∧ j = .int .i64 i) (fun j => en - (intOf j).toNat)
      case atStart => exact ⟨0, by omega, rfl⟩
      case round =>
        obtain ⟨i, hi, rfl⟩ := hrel
        by_cases hlt2 : i < en
        · obtain ⟨b, rfl, _, hMb⟩ := hM (by omega)
          obtain ⟨d0, d1, d2, d3⟩ := mk_at m i
          have e0 := hMb.cell (j := i * 4) (by omega)
          have e1 := hMb.cell (j := i * 4 + 1) (by omega)
          have e2 := hMb.cell (j := i * 4 + 2) (by omega)
          have e3 := hMb.cell (j := i * 4 + 3) (by omega)
          simp only [ints, Nat.mul_comm i 4, d0, d1, d2, d3] at e0 e1 e2 e3
          rw [Nat.mul_comm 4 i] at e0 e1 e2 e3
          clear hM hMb d0 d1 d2 d3
          go_wp2
          go_round
          case rel => exact ⟨i + 1, by omega, by go_num⟩
          case measure => simp [intOf]; omega
        · go_wp2
          go_round
          case rel => exact ⟨k + 1, by omega, by go_num⟩
          case measure => simp [intOf]; omega
    · go_wp2
      go_ret
      exact ⟨rfl, rfl⟩

end Go.Proofs.Ythbcfepbkkbjiaa
