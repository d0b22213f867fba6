/- The walk of the reference's wrong, at jumps; at all. -/
import Derived.Test.YthbcfepbkkbjiaaDoorV5
namespace Go.Proofs.YthbcfepbkkbjiaaDoor
open Go.RowKit

theorem nx_len (q : Nat → Int) (i : Nat) : (nx q i).length ≤ 2 := by
  unfold nx
  split
  · simp
  · split
    · simp
    · split <;> simp

theorem any_le (l : List Int) (n : Int) (k : Nat) (hk : k < l.length) (h : n ≤ l.getD k 0) : l.any (fun x => decide (n ≤ x)) = true := by
  rw [List.any_eq_true]
  exact ⟨l[k], List.getElem_mem hk, by simpa [List.getD, hk] using h⟩

theorem any_lt (l : List Int) (n : Int) (h : ∀ j, j < l.length → l.getD j 0 < n) : l.any (fun x => decide (n ≤ x)) = false := by
  rw [List.any_eq_false]
  intro x hx
  obtain ⟨j, hj, rfl⟩ := List.getElem_of_mem hx
  have := h j hj
  simp [List.getD, hj] at this
  simpa using this

set_option maxRecDepth 100000 in
set_option maxHeartbeats 1000000 in
theorem wrong_jump (b off n c i : Nat) (q : Nat → Int) (w : World) (hi : i < n) (hn : n ≤ 1000000) (hq : Num q) (h : Row w .i64 b off (4 * n) q)
    (hok : okk (q (4 * i)) = true) (hk : (kd (q (4 * i))).kind = 10 ∨ (kd (q (4 * i))).kind = 11) :
    Calls Tryd.prog 16 #[.slice (some ⟨b, off, none⟩) n c, .int .i64 i] w fun e w' => e = .returned (.int .i64 (wrong q n i)) ∧ w.grownBy w' none := by
  obtain ⟨c0, c1, c2, c3⟩ := h.insn hi
  have z3 := hq (4 * i + 3)
  have HE : Hid (wrong q n i = if (nx q i).any (fun x => decide ((n : Int) ≤ x)) = true then 6 else 0) := by
    unfold Hid wrong wrg
    rcases hk with hk | hk <;> simp [hok, hk]
  have HL : (nx q i).length ≤ 2 := nx_len q i
  have t8 : ((kd (q (4 * i))).kind == 8) = false := by rcases hk with hk | hk <;> simp [hk]
  have t3 : ((kd (q (4 * i))).kind == 3) = false := by rcases hk with hk | hk <;> simp [hk]
  have t6 : ((kd (q (4 * i))).kind == 6) = false := by rcases hk with hk | hk <;> simp [hk]
  obtain ⟨t10, t11⟩ : (((kd (q (4 * i))).kind == 10) = true ∨ (((kd (q (4 * i))).kind == 10) = false ∧ ((kd (q (4 * i))).kind == 11) = true)) ∧ True := by rcases hk with hk | hk <;> simp [hk]
  clear hk t11
  have HP : ∀ w1, w.grownBy w1 none → Row w1 .i64 b off (4 * n) q := fun w1 hg => h.keep hg (by simp)
  clear h
  rcases t10 with t10 | ⟨t10, t11⟩
  all_goals
    go_enter Tryd.func16, Tryd.ntmps16
    go_wp2_with (first | (go_at_call 17; refine (kind_at _ _).mono ?_; rintro e w1 ⟨rfl, hg1⟩; obtain ⟨x0, x1, x2, x3⟩ := box_four hg1 (by simp); have hz := alloc_lt hg1; have G1 := grown_alloc (grown_trans (grown_alloc (grown_refl w none) (.cells #[.int .i64 (q (4 * i)), .int .i64 (q (4 * i + 1)), .int .i64 (q (4 * i + 2)), .int .i64 (q (4 * i + 3))] 44)) hg1) (.cells #[.int .i64 (kd (q (4 * i))).code, .int .i64 (kd (q (4 * i))).kind, .int .i64 (kd (q (4 * i))).n, .bool (kd (q (4 * i))).x, .int .i64 (kd (q (4 * i))).o] 50)) | (go_at_call 29; refine (next_any _ _ _ _ _ q _ hi hn hq (HP _ G1)).mono ?_; rintro e w2 ⟨ao, cc, rfl, hs, hg2⟩))
    go_loop [9] (fun v => ∃ k : Nat, k ≤ (nx q i).length ∧ v = .int .i64 k ∧ Hid (∀ j, j < k → (nx q i).getD j 0 < (n : Int))) (fun v => (nx q i).length - (intOf v).toNat)
    case atStart => exact ⟨0, Nat.zero_le _, rfl, fun j hj => by omega⟩
    case round =>
      obtain ⟨k, hk, rfl, hno⟩ := hrel
      by_cases hlt : k < (nx q i).length
      · obtain ⟨Y, yoff, rfl, hR⟩ := hs (by omega)
        obtain ⟨y, hy⟩ : ∃ y, y = (nx q i).getD k 0 := ⟨_, rfl⟩
        have cy : w2.cell? ⟨Y, yoff + k, none⟩ = some (.int .i64 y) := by rw [hy]; exact hR k hlt
        have HY : Hid (y = (nx q i).getD k 0) := hy
        clear hR hy hs
        by_cases hge : (n : Int) ≤ y
        · go_wp2
          go_ret
          refine ⟨ret_int ?_, grown_trans G1 hg2⟩
          rw [HE.out, if_pos (any_le _ _ k hlt (by rw [← HY.out]; exact hge))]
        · have t1 : ¬ (n : Int) ≤ y := hge
          go_wp2
          go_round
          case rel => exact ⟨k + 1, by omega, by go_num, fun j hj => by
            by_cases e : j = k
            · subst e; rw [← HY.out]; omega
            · exact hno.out j (by omega)⟩
          case measure => simp [intOf]; omega
      · have hke : k = (nx q i).length := by omega
        subst hke
        go_wp2
        go_ret
        refine ⟨ret_int ?_, grown_trans G1 hg2⟩
        rw [HE.out, any_lt _ _ hno.out]
        rfl

theorem wrong_any (b off n c i : Nat) (q : Nat → Int) (w : World) (hi : i < n) (hn : n ≤ 1000000) (hq : Num q) (h : Row w .i64 b off (4 * n) q) :
    Calls Tryd.prog 16 #[.slice (some ⟨b, off, none⟩) n c, .int .i64 i] w fun e w' => e = .returned (.int .i64 (wrong q n i)) ∧ w.grownBy w' none := by
  cases hok : okk (q (4 * i)) with
  | false => exact wrong_bad b off n c i q w hi hn hq h hok
  | true =>
    by_cases k8 : (kd (q (4 * i))).kind = 8
    · cases hx : (kd (q (4 * i))).x with
      | true => exact wrong_sumx b off n c i q w hi hn hq h hok k8 hx
      | false =>
        by_cases o3 : (kd (q (4 * i))).o = 3
        · by_cases hK : q (4 * i + 3) = 0
          · exact wrong_div3z b off n c i q w hi hn hq h hok k8 hx o3 hK
          · exact wrong_div3 b off n c i q w hi hn hq h hok k8 hx o3 hK
        by_cases o4 : (kd (q (4 * i))).o = 4
        · by_cases hK : q (4 * i + 3) = 0
          · exact wrong_div4z b off n c i q w hi hn hq h hok k8 hx o4 hK
          · exact wrong_div4 b off n c i q w hi hn hq h hok k8 hx o4 hK
        by_cases o8 : 8 ≤ (kd (q (4 * i))).o
        · by_cases hK : 31 < q (4 * i + 3)
          · exact wrong_shf b off n c i q w hi hn hq h hok k8 hx o3 o4 o8 hK
          · exact wrong_sho b off n c i q w hi hn hq h hok k8 hx o3 o4 o8 hK
        · exact wrong_sum b off n c i q w hi hn hq h hok k8 hx o3 o4 o8
    by_cases k3 : (kd (q (4 * i))).kind = 3
    · by_cases hK : 16 ≤ q (4 * i + 3)
      · exact wrong_cell3b b off n c i q w hi hn hq h hok k3 hK
      · exact wrong_cell3 b off n c i q w hi hn hq h hok k3 hK
    by_cases k6 : (kd (q (4 * i))).kind = 6
    · by_cases hK : 16 ≤ q (4 * i + 3)
      · exact wrong_cell6b b off n c i q w hi hn hq h hok k6 hK
      · exact wrong_cell6 b off n c i q w hi hn hq h hok k6 hK
    by_cases k10 : (kd (q (4 * i))).kind = 10
    · exact wrong_jump b off n c i q w hi hn hq h hok (Or.inl k10)
    by_cases k11 : (kd (q (4 * i))).kind = 11
    · exact wrong_jump b off n c i q w hi hn hq h hok (Or.inr k11)
    · exact wrong_plain b off n c i q w hi hn hq h hok k8 k3 k6 k10 k11

end Go.Proofs.YthbcfepbkkbjiaaDoor
