/- The walks of the reference's Encode, Decode. -/
import Derived.Test.YthbcfepbkkbjiaaDoorW3
namespace Go.Proofs.YthbcfepbkkbjiaaDoor
open Go.RowKit
attribute [local go_sem ↓] Go.wp_at_zero Go.wp_at_succ

theorem renc_step {w : World} {base : Nat} {ao : Option Addr} {p : Nat} (q : Nat → Int) (k : Nat)
    (h : Out w base 5 1 (.slice ao (8 * k + 4 + 4) p) (8 * k + 4 + 4) (fun j => if j < (8 * k + 4) * 1 then (if j < 8 * k * 1 then ints .u8 (encs q) j else
      #[Value.int .u8 (q (4 * k) % 256), Value.int .u8 (q (4 * k) / 256 % 256), Value.int .u8 (q (4 * k + 1) % 256), Value.int .u8 (q (4 * k + 2) % 256)].getD (j - 8 * k * 1) .nilFunc) else
      #[Value.int .u8 (q (4 * k + 3) % 256), Value.int .u8 (q (4 * k + 3) / 256 % 256), Value.int .u8 (q (4 * k + 3) / 65536 % 256), Value.int .u8 (q (4 * k + 3) / 16777216 % 256)].getD (j - (8 * k + 4) * 1) .nilFunc)) :
    Out w base 5 1 (.slice ao (8 * k + 4 + 4) p) (8 * (k + 1)) (ints .u8 (encs q)) := by
  have e : 8 * (k + 1) = 8 * k + 4 + 4 := by omega
  rw [e]
  refine h.congr fun j hj => ?_
  have e1 := encs_at q k (j - 8 * k)
  simp only [Nat.mul_one] at hj ⊢
  by_cases h1 : j < 8 * k
  · rw [if_pos (by omega), if_pos h1]
  · rw [if_neg h1]
    have e2 := e1 (by omega)
    rw [show 8 * k + (j - 8 * k) = j by omega] at e2
    unfold ints
    rw [e2]
    obtain ⟨i, hi⟩ : ∃ i, j = 8 * k + i := ⟨j - 8 * k, by omega⟩
    subst hi
    rw [show 8 * k + i - 8 * k = i by omega, show 8 * k + i - (8 * k + 4) = i - 4 by omega]
    have hi8 : i < 8 := by omega
    match i, hi8 with
    | 0, _ => rw [if_pos (by omega)]; simp [enc8, byt]
    | 1, _ => rw [if_pos (by omega)]; simp [enc8, byt]
    | 2, _ => rw [if_pos (by omega)]; simp [enc8]
    | 3, _ => rw [if_pos (by omega)]; simp [enc8]
    | 4, _ => rw [if_neg (by omega)]; simp [enc8, byt]
    | 5, _ => rw [if_neg (by omega)]; simp [enc8, byt]
    | 6, _ => rw [if_neg (by omega)]; simp [enc8, byt]
    | 7, _ => rw [if_neg (by omega)]; simp [enc8, byt]

set_option maxRecDepth 100000 in
set_option maxHeartbeats 1000000 in
theorem rencode_any (b off n c : Nat) (q : Nat → Int) (w : World) (hn : n ≤ 4398046511104) (h : Row w .i64 b off (4 * n) q) :
    Calls Tryd.prog 13 #[.slice (some ⟨b, off, none⟩) n c] w fun e w' => ∃ v, e = .returned v ∧ w.grownBy w' none ∧ Out w' w.heap.size 5 1 v (8 * n) (ints .u8 (encs q)) := by
  obtain ⟨i0, hi, hz0, hz1, hz2⟩ := info_parts Tryd.infoByte
  go_enter Tryd.func13, Tryd.ntmps13
  go_wp2
  go_loopw [3, 4] (fun v i wr => ∃ k : Nat, k ≤ n ∧ i = .int .i64 k ∧ w.grownBy wr none ∧ Out wr w.heap.size 5 1 v (8 * k) (ints .u8 (encs q))) (fun _ i _ => n - (intOf i).toNat)
  case atStart => exact ⟨0, Nat.zero_le _, rfl, grown_refl _ _, out_nil _ _ _ _ _⟩
  case round =>
    obtain ⟨k, hk, rfl, hgr, ho⟩ := hrel
    by_cases hlt : k < n
    · obtain ⟨c0, c1, c2, c3⟩ := (h.keep hgr (by simp)).insn hlt
      clear h
      go_wp2_with (first | (at_builtin; refine wpList_append_out _ w rfl (.tmp 16) (.tmp 30) 25 rfl 5 i0 (.int .u8 0) 1 1 Tryd.underlying25 hi hz0 hz1 hz2 rfl (by decide) _ _ _ rfl ((ho.alloc _).alloc _) (grown_none (grown_none hgr (World.grownBy_alloc _ _ none)) (World.grownBy_alloc _ _ none)) _ 4 4 _ _ rfl (heap_top _ _ _ (by simp)) rfl (by simp [Value.oneCell']) (by decide) (by unfold maxLen; omega) (by omega) ?_; intro g1 p1 w1 ho1 hg1 hx1; have x3 := ho.box hx1 (j := 3) rfl; clear hx1) | (at_builtin; refine wpList_append_out _ w rfl (.tmp 32) (.tmp 48) 25 rfl 5 i0 (.int .u8 0) 1 1 Tryd.underlying25 hi hz0 hz1 hz2 rfl (by decide) _ _ _ rfl (ho1.alloc _) (grown_none hg1 (World.grownBy_alloc _ _ none)) _ 4 4 _ _ rfl (heap_top _ _ _ (by simp)) rfl (by simp [Value.oneCell']) (by decide) (by unfold maxLen; omega) (by omega) ?_; intro g2 p2 w2 ho2 hg2 _))
      go_roundw
      case rel => exact ⟨k + 1, by omega, by go_num, hg2, renc_step q k ho2⟩
      case measure => simp [intOf]; omega
    · have : k = n := by omega
      subst this
      go_wp2
      go_ret
      exact ⟨_, rfl, hgr, ho⟩

theorem rencode_nil (ao : Option Addr) (c : Nat) (w : World) :
    Calls Tryd.prog 13 #[.slice ao 0 c] w fun e w' => e = .returned (.slice none 0 0) ∧ w' = w := by
  go_enter Tryd.func13, Tryd.ntmps13
  go_wp2
  go_loop [3, 4] (fun v i => v = .slice none 0 0 ∧ i = .int .i64 0) (fun _ _ => 0)
  case atStart => exact ⟨rfl, rfl⟩
  case round =>
    obtain ⟨rfl, rfl⟩ := hrel
    go_wp2
    go_ret
    exact ⟨rfl, rfl⟩

theorem rnumber_at (b off len c : Nat) (A N : Int) (g : Nat → Int) (w : World) (hA : 0 ≤ A) (hN : 0 ≤ N) (hn : N ≤ 4) (hl : A + N ≤ len) (hm : len ≤ maxLen) (hg : Oct g) (h : Row w .u8 b off len g) :
    Calls Tryd.prog 28 #[.slice (some ⟨b, off, none⟩) len c, .int .i64 A, .int .i64 N] w fun e w' => e = .returned (.int .i64 (hr g N.toNat A.toNat)) ∧ w' = w := by
  obtain ⟨a, rfl⟩ := Int.eq_ofNat_of_zero_le hA
  obtain ⟨n, rfl⟩ := Int.eq_ofNat_of_zero_le hN
  exact rnumber_any b off len c a n g w (by omega) (by omega) hm hg h

set_option maxRecDepth 100000 in
set_option maxHeartbeats 400000 in
theorem rdecode_bad (ao : Option Addr) (n c : Nat) (w : World) (hm : n ≤ maxLen) (hn : badSize n) :
    Calls Tryd.prog 15 #[.slice ao n c] w fun e w' => e = .returned (.tuple #[.slice none 0 0, .int .i64 1]) ∧ w' = w := by
  unfold maxLen at hm
  by_cases h0 : n = 0
  · subst h0
    go_enter Tryd.func15, Tryd.ntmps15
    go_wp2
    go_ret2
    exact ⟨rfl, rfl⟩
  · have h0' : ((n : Int) == 0) = false := by simp; omega
    by_cases h8 : n % 8 = 0
    · have h8' : (((n : Int) % 8) != 0) = false := by simp; omega
      have h2 : (2048 : Int) < (n : Int) := by rcases hn with h | h | h <;> omega
      go_enter Tryd.func15, Tryd.ntmps15
      go_wp2
      go_ret2
      exact ⟨rfl, rfl⟩
    · have h8' : (((n : Int) % 8) != 0) = true := by simp; omega
      go_enter Tryd.func15, Tryd.ntmps15
      go_wp2
      go_ret2
      exact ⟨rfl, rfl⟩

theorem rdec_step {w : World} {base : Nat} {v : Value} (g : Nat → Int) (k : Nat)
    (h : Out w base 44 4 v (k + 1) (fun j => if j < k * 4 then ints .i64 (decs g) j else
      #[Value.int .i64 (hr g 2 (8 * k)), Value.int .i64 (g (8 * k + 2)), Value.int .i64 (g (8 * k + 3)), Value.int .i64 (hr g 4 (8 * k + 4))].getD (j - k * 4) .nilFunc)) :
    Out w base 44 4 v (k + 1) (ints .i64 (decs g)) := by
  refine h.congr fun j hj => ?_
  obtain ⟨d0, d1, d2, d3⟩ := decs_at g k
  by_cases h1 : j < k * 4
  · rw [if_pos h1]
  · rw [if_neg h1]
    obtain ⟨i, hi⟩ : ∃ i, j = 4 * k + i := ⟨j - 4 * k, by omega⟩
    subst hi
    rw [show 4 * k + i - k * 4 = i by omega, hr_two, hr_four]
    unfold ints
    have hi4 : i < 4 := by omega
    match i, hi4 with
    | 0, _ => simp [d0]
    | 1, _ => simp [d1]
    | 2, _ => simp [d2]
    | 3, _ => simp [d3]

set_option maxRecDepth 100000 in
set_option maxHeartbeats 1000000 in
theorem rdecode_good (b off n c : Nat) (g : Nat → Int) (w : World) (hn : 1 ≤ n) (hn2 : n ≤ 256) (hg : Oct g) (h : Row w .u8 b off (8 * n) g) :
    Calls Tryd.prog 15 #[.slice (some ⟨b, off, none⟩) (8 * n) c] w fun e w' => ∃ v, e = .returned (.tuple #[v, .int .i64 0]) ∧ w.grownBy w' none ∧ Out w' w.heap.size 44 4 v n (ints .i64 (decs g)) := by
  obtain ⟨i0, hi, hz0, hz1, hz2⟩ := info_parts Tryd.infoInsn
  have h0' : ((8 * (n : Int)) == 0) = false := by simp; omega
  have h8' : (((8 * (n : Int)) % 8) != 0) = false := by simp
  have h2' : ¬ (2048 : Int) < 8 * (n : Int) := by omega
  go_enter Tryd.func15, Tryd.ntmps15
  go_wp2
  go_loopw [4, 5] (fun v i wr => ∃ k : Nat, k ≤ n ∧ i = .int .i64 (8 * (k : Int)) ∧ w.grownBy wr none ∧ Out wr w.heap.size 44 4 v k (ints .i64 (decs g))) (fun _ i _ => 8 * n - (intOf i).toNat)
  case atStart => exact ⟨0, Nat.zero_le _, rfl, grown_refl _ _, out_nil _ _ _ _ _⟩
  case round =>
    obtain ⟨k, hk, rfl, hgr, ho⟩ := hrel
    by_cases hlt : k < n
    · have hSG : ∀ w', w.grownBy w' none → Hid (w'.cell? ⟨b, off + (8 * k + 2), none⟩ = some (.int .u8 (g (8 * k + 2))) ∧ w'.cell? ⟨b, off + (8 * k + 3), none⟩ = some (.int .u8 (g (8 * k + 3))) ∧ Row w' .u8 b off (8 * n) g) :=
        fun w' hw => ⟨(h.keep hw (by simp)) (8 * k + 2) (by omega), (h.keep hw (by simp)) (8 * k + 3) (by omega), h.keep hw (by simp)⟩
      have q0 : IntKind.i64.wrap (8 * (k : Int) + 2) = 8 * (k : Int) + 2 := by rw [IntKind.wrap_i64]; omega
      have q1 : IntKind.i64.wrap (8 * (k : Int) + 3) = 8 * (k : Int) + 3 := by rw [IntKind.wrap_i64]; omega
      have q2 : IntKind.i64.wrap (8 * (k : Int) + 4) = 8 * (k : Int) + 4 := by rw [IntKind.wrap_i64]; omega
      have q9 : (8 * (k : Int)).toNat = 8 * k := by omega
      have q10 : (8 * (k : Int) + 4).toNat = 8 * k + 4 := by omega
      have q3 : (8 * (k : Int) + 2).toNat = 8 * k + 2 := by omega
      have q4 : (8 * (k : Int) + 3).toNat = 8 * k + 3 := by omega
      have q5 : (0 : Int) ≤ 8 * (k : Int) + 2 := by omega
      have q6 : (0 : Int) ≤ 8 * (k : Int) + 3 := by omega
      have q7 : 8 * (k : Int) + 2 < 8 * (n : Int) := by omega
      have q8 : 8 * (k : Int) + 3 < 8 * (n : Int) := by omega
      have g2 : IntKind.i64.wrap (g (8 * k + 2)) = g (8 * k + 2) := by have := hg (8 * k + 2); rw [IntKind.wrap_i64]; omega
      have g3 : IntKind.i64.wrap (g (8 * k + 3)) = g (8 * k + 3) := by have := hg (8 * k + 3); rw [IntKind.wrap_i64]; omega
      clear h
      go_wp2
      go_region_held3 (fun w' => w'.cell? ⟨b, off + (8 * k + 2), none⟩ = some (.int .u8 (g (8 * k + 2))) ∧ w'.cell? ⟨b, off + (8 * k + 3), none⟩ = some (.int .u8 (g (8 * k + 3))) ∧ Row w' .u8 b off (8 * n) g)
        (first | assumption | exact (hSG _ (grown_drew hgr)).out | exact (hSG _ (grown_drew (grown_alloc hgr _))).out | exact (hSG _ (by assumption)).out)
        ((first | (go_at_call 28; refine (rnumber_at b off _ _ _ _ g _ ?_ ?_ ?_ ?_ ?_ hg ?_).mono ?_; omega; omega; omega; (simp only [Int.natCast_mul]; omega); (unfold maxLen; omega); (go_split_ands; assumption); rintro e w1 ⟨rfl, rfl⟩) | (refine step_append_out _ w (by rfl) (.tmp 26) (.tmp 47) 22 (by rfl) 44 i0 _ 4 32 Tryd.underlying22 hi hz0 hz1 hz2 (by rfl) (by decide) _ k _ (by rfl) (ho.alloc _).drew (grown_drew (grown_alloc hgr _)) _ 1 1 _ _ (by rfl) (heap_topd _ _ _ (by simp)) (by rfl) (by simp [Value.oneCell']) (by decide) (by unfold maxLen; omega) (by omega) ?_; intro g1 p1 w1 ho1 hg1 hx1)))
      go_wp2
      go_roundw
      case rel => exact ⟨k + 1, by omega, by go_num, hg1, rdec_step g k ho1⟩
      case measure => simp [intOf]; omega
    · have : k = n := by omega
      subst this
      go_wp2
      go_ret2
      exact ⟨_, rfl, hgr, ho⟩

end Go.Proofs.YthbcfepbkkbjiaaDoor
