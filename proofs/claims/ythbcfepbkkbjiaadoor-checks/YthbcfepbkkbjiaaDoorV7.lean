/- The walk of the reference's unwritten. -/
import Derived.Test.YthbcfepbkkbjiaaDoorV6
namespace Go.Proofs.YthbcfepbkkbjiaaDoor
open Go.RowKit

/-- the first t places of a list are come to, too -/
def bset (f : Nat → Bool) (l : List Int) (t : Nat) : Nat → Bool := fun j => f j || (l.take t).any (fun x => x == (j : Int))

/-- Which places may be come to without the cell being written, behind the first i instructions? -/
def there (q : Nat → Int) (cell : Int) : Nat → Nat → Bool
  | 0 => fun j => j == 0
  | i + 1 => if there q cell i i = true ∧ ¬ ((kd (q (4 * i))).kind = 6 ∧ q (4 * i + 3) = cell) then bset (there q cell i) (nx q i) (nx q i).length else there q cell i

theorem bset_zero (f : Nat → Bool) (l : List Int) (j : Nat) : bset f l 0 j = f j := by simp [bset]
theorem bset_succ (f : Nat → Bool) (l : List Int) (t m j : Nat) (ht : t < l.length) (hm : l.getD t 0 = (m : Int)) : (if j = m then true else bset f l t j) = bset f l (t + 1) j := by
  unfold bset
  rw [List.take_succ_eq_append_getElem ht, List.any_append]
  have e : l[t] = (m : Int) := by simpa [List.getD, ht] using hm
  simp only [List.any_cons, List.any_nil, Bool.or_false, e]
  by_cases h : j = m
  · subst h; simp
  · have : ((m : Int) == (j : Int)) = false := by simp; omega
    rw [if_neg h, this]; simp

theorem Tryd.infoBool : (Tryd.prog.info? 4).map (fun i => (i.zero, i.size, i.bytes)) = some (some (.bool false), 1, 1) := by kernel_rfl

theorem Blk.full {w : World} {b : Nat} {e : TypeId} {N j : Nat} {f : Nat → Value} {v : Value} (h : Blk w b e N N f) (hc : w.cell? ⟨b, j, none⟩ = some v) : v = f j := by
  obtain ⟨c, h1, h2, _, h4⟩ := h
  rw [cell_of_row w b j c e (0, 0) h1] at hc
  have hj : j < N := by
    have := (Array.getElem?_eq_some_iff.1 hc).1
    omega
  rw [h4 j hj] at hc
  exact (Option.some.inj hc).symm

def bools (f : Nat → Bool) : Nat → Value := fun j => .bool (f j)

set_option maxRecDepth 100000 in
set_option maxHeartbeats 2000000 in
theorem unwritten_any (b off n c to : Nat) (cell : Int) (q : Nat → Int) (w : World) (hto : to < n) (hn : n ≤ 1000000) (hq : Num q) (h : Row w .i64 b off (4 * n) q) (hj : ∀ i, i < n → ∀ t, t < (nx q i).length → 0 ≤ (nx q i).getD t 0 ∧ (nx q i).getD t 0 ≤ n) :
    Calls Tryd.prog 18 #[.slice (some ⟨b, off, none⟩) n c, .int .i64 to, .int .i64 cell] w fun e w' => e = .returned (.bool (there q cell to to)) ∧ w.grownBy w' none := by
  obtain ⟨i0, hi, hz0, hz1, hz2⟩ := info_parts Tryd.infoBool
  go_enter Tryd.func18, Tryd.ntmps18
  go_wp2_with (at_make; refine wpList_make_blk _ rfl _ _ 77 rfl 4 i0 (.bool false) 1 Tryd.underlying77 hi hz0 hz1 _ _ _ _ (n + 1) rfl rfl (by omega) (by omega) (by rw [hz2]; omega) (by unfold maxLen; omega) (.bool false) (by intro j; simp [Value.cells, Nat.mod_one]) ?_; intro w1 hb1 hg1; have e0 := hb1.cell (j := 0) (by omega); have f0 := hb1.frozen 0; have hb2 := hb1.set' (j := 0) (by omega) (.bool true))
  go_loopw [8] (fun i wr => ∃ k : Nat, k ≤ to ∧ i = .int .i64 k ∧ w.grownBy wr none ∧ Blk wr w.heap.size 4 (n + 1) (n + 1) (bools (there q cell k))) (fun i _ => to - (intOf i).toNat)
  case atStart => exact ⟨0, Nat.zero_le _, rfl, grown_set hg1 (Nat.le_refl _) _, by simpa using hb2.congr (f' := bools (there q cell 0)) fun j _ => by unfold bools there; by_cases e : j = 0 <;> simp [e]⟩
  case round =>
    obtain ⟨k, hk, rfl, hgr, hbk⟩ := hrel
    clear hb1 hb2 hg1 e0 f0
    by_cases hlt : k < to
    · obtain ⟨c0, c1, c2, c3⟩ := (h.keep hgr (by simp)).insn (show k < n by omega)
      have ck := hbk.cell (j := k) (by omega)
      unfold bools at ck
      cases hth : there q cell k k with
      | false =>
        rw [hth] at ck
        have HT : Hid (there q cell (k + 1) = there q cell k) := by unfold Hid; rw [there, if_neg (by simp [hth])]
        go_wp2_with (go_at_call 17; refine (kind_at _ _).mono ?_; rintro e w1 ⟨rfl, hg1⟩; have hb1 := hbk.keep hg1 (by simp); have ck1 := hb1.cell (j := k) (by omega); unfold bools at ck1; rw [hth] at ck1; have hz1' := hb1.lt)
        go_roundw
        case rel => exact ⟨k + 1, by omega, by go_num, grown_alloc (grown_trans hgr hg1) _, by rw [HT.out]; exact hb1.alloc _⟩
        case measure => simp [intOf]; omega
      | true =>
        rw [hth] at ck
        have blo : b < wr.heap.size := World.block_lt_of_cell? wr _ c3
        obtain ⟨wo, hwo⟩ : ∃ x, x = wr := ⟨_, rfl⟩
        subst hwo
        by_cases hst : (kd (q (4 * k))).kind = 6 ∧ q (4 * k + 3) = cell
        · have t6 : ((kd (q (4 * k))).kind == 6) = true := by simp [hst.1]
          have te : (q (4 * k + 3) == cell) = true := by simp [hst.2]
          have HT : Hid (there q cell (k + 1) = there q cell k) := by unfold Hid; rw [there, if_neg (by simp [hth, hst])]
          clear hst
          go_wp2_with ((go_at_call 17; refine (kind_at _ _).mono ?_; rintro e w1 ⟨rfl, hg1⟩; have hb1 := hbk.keep hg1 (by simp); have ck1 := hb1.cell (j := k) (by omega); unfold bools at ck1; rw [hth] at ck1; have hz1' := hb1.lt; have c3' := hg1.cell c3 (by simp); have blt := World.block_lt_of_cell? w1 _ c3'; have G1 := grown_alloc (grown_trans hgr hg1) (.cells #[.int .i64 (kd (q (4 * k))).code, .int .i64 (kd (q (4 * k))).kind, .int .i64 (kd (q (4 * k))).n, .bool (kd (q (4 * k))).x, .int .i64 (kd (q (4 * k))).o] 50)))
          go_roundw
          case rel => exact ⟨k + 1, by omega, by go_num, G1, by rw [HT.out]; exact hb1.alloc _⟩
          case measure => simp [intOf]; omega
        have HT : Hid (there q cell (k + 1) = bset (there q cell k) (nx q k) (nx q k).length) := by unfold Hid; rw [there, if_pos ⟨hth, hst⟩]
        have hcase : ((kd (q (4 * k))).kind == 6) = false ∨ (((kd (q (4 * k))).kind == 6) = true ∧ (q (4 * k + 3) == cell) = false) := by
          by_cases e : (kd (q (4 * k))).kind = 6
          · exact Or.inr ⟨by simp [e], by simpa using fun e2 => hst ⟨e, e2⟩⟩
          · exact Or.inl (by simp [e])
        clear hst
        have HL := nx_len q k
        rcases hcase with t6 | ⟨t6, te⟩
        all_goals
          go_wp2_with (first | (go_at_call 17; refine (kind_at _ _).mono ?_; rintro e w1 ⟨rfl, hg1⟩; have hb1 := hbk.keep hg1 (by simp); have ck1 := hb1.cell (j := k) (by omega); unfold bools at ck1; rw [hth] at ck1; have hz1' := hb1.lt; have c3' := hg1.cell c3 (by simp); have blt := World.block_lt_of_cell? w1 _ c3'; have G1 := grown_alloc (grown_trans hgr hg1) (.cells #[.int .i64 (kd (q (4 * k))).code, .int .i64 (kd (q (4 * k))).kind, .int .i64 (kd (q (4 * k))).n, .bool (kd (q (4 * k))).x, .int .i64 (kd (q (4 * k))).o] 50)) | (go_at_call 29; refine (next_any _ _ _ _ _ q _ (by omega) hn hq (h.keep G1 (by simp))).mono ?_; rintro e w2 ⟨ao, cc, rfl, hs, hg2⟩; have hb2 := (hb1.alloc _).keep hg2 (by simp); have G2 := grown_trans G1 hg2))
          go_loopw [12] (fun v wr => ∃ t : Nat, t ≤ (nx q k).length ∧ v = .int .i64 t ∧ w2.grownBy wr (some w.heap.size) ∧ w.grownBy wr none ∧ Blk wr w.heap.size 4 (n + 1) (n + 1) (bools (bset (there q cell k) (nx q k) t))) (fun v _ => (nx q k).length - (intOf v).toNat)
          case atStart => exact ⟨0, Nat.zero_le _, rfl, grown_refl _ _, G2, hb2.congr fun j _ => by unfold bools; rw [bset_zero]⟩
          case round =>
            obtain ⟨t, ht, rfl, hgq, hgw, hbt⟩ := hrel
            by_cases hlt2 : t < (nx q k).length
            · obtain ⟨Y, yoff, rfl, hR⟩ := hs (by omega)
              have hjt := hj k (by omega) t hlt2
              obtain ⟨m, hm⟩ : ∃ m : Nat, (nx q k).getD t 0 = (m : Int) := ⟨((nx q k).getD t 0).toNat, by omega⟩
              have hYne : Y ≠ w.heap.size := fun e => by
                subst e
                have := hb2.full (hR t hlt2)
                cases this
              have cy : wr.cell? ⟨Y, yoff + t, none⟩ = some (.int .i64 (m : Int)) := by
                have := hgq.cell (hR t hlt2) (by simpa using hYne)
                rw [show (fun j => (nx q k).getD j 0) t = (m : Int) from hm] at this
                exact this
              have hmn : m < n + 1 := by omega
              have em := hbt.cell (j := m) (by omega)
              have fm := hbt.frozen m
              have R := hbt.set' (j := m) (by omega) (.bool true)
              have HM : Hid ((nx q k).getD t 0 = (m : Int)) := hm
              clear hR hs hm hjt c0 c1 c2 c3 c3' ck ck1
              go_wp2
              go_roundw
              case rel => exact ⟨t + 1, by omega, by go_num, grown_trans hgq (grown_setCell _ _ _), grown_set hgw (Nat.le_refl _) _, R.congr fun j _ => by unfold bools; rw [← bset_succ _ _ t m j hlt2 HM.out]; by_cases e : j = m <;> simp [e]⟩
              case measure => simp [intOf]; omega
            · have hte : t = (nx q k).length := by omega
              subst hte
              clear c0 c1 c2 c3 c3' ck ck1
              go_wp2
              go_roundw
              case rel => exact ⟨k + 1, by omega, by go_num, hgw, by rw [HT.out]; exact hbt⟩
              case measure => simp [intOf]; omega
    · have : k = to := by omega
      subst this
      have ck := hbk.cell (j := k) (by omega)
      unfold bools at ck
      go_wp2
      go_ret
      exact ⟨rfl, hgr⟩

end Go.Proofs.YthbcfepbkkbjiaaDoor
