import Derived.Test.YthbcfepbkkbjiabGreatDoorIQ2
namespace Go.Proofs.YthbcfepbkkbjiabGreatDoor
open Go.RowKit
set_option linter.unusedVariables false
theorem Tryz.infoU32 : (Tryz.prog.info? 72).map (fun i => (i.zero, i.size, i.bytes)) = some (some (.int .u32 0), 1, 4) := by kernel_rfl
set_option maxRecDepth 100000 in
set_option maxHeartbeats 400000 in
theorem push_any (w0 w : World) (M MB : Nat) (cv pv sv : Value) (S : Mst) (sd : Bool) (res X : Int) (h : PM w0 w M MB cv pv sv S sd res) (h8 : S.sp ≤ 8) :
    Calls Tryz.prog 59 #[.pointer (some ⟨M, 0, none⟩), .int .u32 X] w fun e w' => e = .returned (.tuple #[]) ∧ ∃ sv', PM w0 w' M MB cv pv sv' ⟨S.pc, S.sp + 1, upd S.st S.sp X, S.cs⟩ sd res := by
  obtain ⟨i0, hi, hz0, hz1, hz2⟩ := info_parts Tryz.infoU32
  obtain ⟨c0, c1, c2, c3, c4, c5, c6⟩ := h.cells
  obtain ⟨z3, z4, z5, z6⟩ := h.free
  have lM := h.m.lt
  have HH : Hid (PM w0 w M MB cv pv sv S sd res) := h
  clear h
  go_enter Tryz.func59, Tryz.ntmps59
  go_wp2_with (at_builtin; refine wpList_push _ w0 rfl _ _ 99 rfl 72 i0 (.int .u32 0) 4 Tryz.underlying99 hi hz0 hz1 hz2 rfl .u32 _ _ _ rfl (HH.out.allo _).st (HH.out.allo _).gr _ _ _ _ rfl (heap_top _ _ _ (by simp)) (by omega) (by decide) ?_; intro g2 p2 w3 o2 gr2 k2 u2; obtain ⟨⟨q1, q2⟩, Q3⟩ := PM.append (HH.out.allo _) gr2 k2 o2 u2; clear k2 u2)
  go_end0
  exact ⟨rfl, _, Q3⟩
set_option maxRecDepth 100000 in
set_option maxHeartbeats 400000 in
theorem pop_any (w0 w : World) (M MB : Nat) (cv pv sv : Value) (S : Mst) (sd : Bool) (res : Int) (h : PM w0 w M MB cv pv sv S sd res) (hs : 1 ≤ S.sp) :
    Calls Tryz.prog 60 #[.pointer (some ⟨M, 0, none⟩)] w fun e w' => e = .returned (.int .u32 (S.st (S.sp - 1))) ∧ (∃ sv', PM w0 w' M MB cv pv sv' ⟨S.pc, S.sp - 1, S.st, S.cs⟩ sd res) ∧ w.grownBy w' (some M) := by
  obtain ⟨c0, c1, c2, c3, c4, c5, c6⟩ := h.cells
  obtain ⟨z3, z4, z5, z6⟩ := h.free
  obtain ⟨G, cap, hv, hcap, hmax, hc, ho⟩ := h.st.pop hs
  have HR : Hid (PM w0 (w.setCell ⟨M, 4, none⟩ (.slice (some ⟨G, 0, none⟩) (S.sp - 1) cap)) M MB cv pv (.slice (some ⟨G, 0, none⟩) (S.sp - 1) cap) ⟨S.pc, S.sp - 1, S.st, S.cs⟩ sd res) :=
    h.setSt _ _ _ (ho (S.sp - 1) (by omega)) (fun g e => h.own g (by rw [hv]; exact e))
  have ct := hc (S.sp - 1) (by omega)
  rw [hv] at c4
  clear h hc ho hv
  generalize S.sp = sp at *
  unfold maxLen at hmax
  go_enter Tryz.func60, Tryz.ntmps60
  go_wp2
  go_ret
  exact ⟨rfl, ⟨_, HR.out⟩, grown_setCell w ⟨M, 4, none⟩ _⟩
set_option maxRecDepth 100000 in
set_option maxHeartbeats 400000 in
theorem stop_any (w0 w : World) (M MB : Nat) (cv pv sv : Value) (S : Mst) (sd : Bool) (res r : Int) (h : PM w0 w M MB cv pv sv S sd res) :
    Calls Tryz.prog 64 #[.pointer (some ⟨M, 0, none⟩), .int .u32 r] w fun e w' => e = .returned (.tuple #[]) ∧ PM w0 w' M MB cv pv sv S true r := by
  obtain ⟨c0, c1, c2, c3, c4, c5, c6⟩ := h.cells
  obtain ⟨z3, z4, z5, z6⟩ := h.free
  have HH : Hid (PM w0 w M MB cv pv sv S sd res) := h
  clear h
  go_enter Tryz.func64, Tryz.ntmps64
  go_wp2
  go_end0
  exact ⟨rfl, HH.out.stop r⟩
set_option maxRecDepth 100000 in
set_option maxHeartbeats 400000 in
theorem pos_ok (w0 w : World) (M MB : Nat) (cv pv sv : Value) (S : Mst) (sd : Bool) (res X : Int) (h : PM w0 w M MB cv pv sv S sd res) (h8 : S.sp ≤ 8) :
    Calls Tryz.prog 61 #[.pointer (some ⟨M, 0, none⟩), .int .u32 X, .bool true] w fun e w' => e = .returned (.tuple #[]) ∧ ∃ sv', PM w0 w' M MB cv pv sv' ⟨S.pc, S.sp + 1, upd S.st S.sp X, S.cs⟩ sd res := by
  go_enter Tryz.func61, Tryz.ntmps61
  go_wp2_with (go_at_call 59; refine (push_any w0 _ M MB cv pv sv S sd res X h h8).mono ?_; rintro e w1 ⟨rfl, sv', h1⟩)
  go_end0
  exact ⟨rfl, sv', h1⟩
set_option maxRecDepth 100000 in
set_option maxHeartbeats 400000 in
theorem pos_no (w0 w : World) (M MB : Nat) (cv pv sv : Value) (S : Mst) (sd : Bool) (res X : Int) (h : PM w0 w M MB cv pv sv S sd res) :
    Calls Tryz.prog 61 #[.pointer (some ⟨M, 0, none⟩), .int .u32 X, .bool false] w fun e w' => e = .returned (.tuple #[]) ∧ PM w0 w' M MB cv pv sv S true 0 := by
  go_enter Tryz.func61, Tryz.ntmps61
  go_wp2_with (go_at_call 64; refine (stop_any w0 _ M MB cv pv sv S sd res 0 h).mono ?_; rintro e w1 ⟨rfl, h1⟩)
  exact bodyPost_ret (v := .tuple #[]) (by simp [results, Tryz.results61, go_sem]) rfl ⟨rfl, h1⟩
set_option maxRecDepth 100000 in
set_option maxHeartbeats 400000 in
theorem known_any (c o x : Int) (s : Shp) (w : World) (h : shp c = some s) (ho : 0 ≤ o) :
    Calls Tryz.prog 58 #[.agg #[.int .u8 c, .int .u32 o, .int .u32 x]] w fun e w' => e = .returned (.bool (knw c o)) ∧ w.grownBy w' none := by
  rcases shp_cases h with ⟨rfl, rfl⟩ | ⟨rfl, rfl⟩ | ⟨rfl, rfl⟩ | ⟨rfl, rfl⟩ | ⟨rfl, rfl⟩ | ⟨rfl, rfl⟩ | ⟨rfl, rfl⟩ | ⟨rfl, rfl⟩ | ⟨rfl, rfl⟩
  · clear h
    go_enter Tryz.func58, Tryz.ntmps58
    go_wp2
    go_ret
    exact ⟨rfl, grown_alloc (grown_refl _ _) _⟩
  · clear h
    go_enter Tryz.func58, Tryz.ntmps58
    go_wp2
    go_ret
    exact ⟨by rw [show knw 2 o = decide (o < 18) from decide_eq_decide.2 (by omega)]; rfl, grown_alloc (grown_refl _ _) _⟩
  · clear h
    go_enter Tryz.func58, Tryz.ntmps58
    go_wp2
    go_ret
    exact ⟨by rw [show knw 3 o = decide (o < 18) from decide_eq_decide.2 (by omega)]; rfl, grown_alloc (grown_refl _ _) _⟩
  · clear h
    go_enter Tryz.func58, Tryz.ntmps58
    go_wp2
    go_ret
    exact ⟨by rw [show knw 4 o = decide (o < 10) from decide_eq_decide.2 (by omega)]; rfl, grown_alloc (grown_refl _ _) _⟩
  · clear h
    by_cases o1 : o = 1
    · subst o1
      go_enter Tryz.func58, Tryz.ntmps58
      go_wp2
      go_ret
      exact ⟨rfl, grown_alloc (grown_refl _ _) _⟩
    by_cases o2 : o = 2
    · subst o2
      go_enter Tryz.func58, Tryz.ntmps58
      go_wp2
      go_ret
      exact ⟨rfl, grown_alloc (grown_refl _ _) _⟩
    by_cases o4 : o = 4
    · subst o4
      go_enter Tryz.func58, Tryz.ntmps58
      go_wp2
      go_ret
      exact ⟨rfl, grown_alloc (grown_refl _ _) _⟩
    have q1 : (o == 1) = false := by simp [o1]
    have q2 : (o == 2) = false := by simp [o2]
    have q4 : (o == 4) = false := by simp [o4]
    rw [show knw 5 o = false by simp [knw, o1, o2, o4]]
    go_enter Tryz.func58, Tryz.ntmps58
    go_wp2
    go_ret
    exact ⟨rfl, grown_alloc (grown_refl _ _) _⟩
  · clear h
    go_enter Tryz.func58, Tryz.ntmps58
    go_wp2
    go_ret
    exact ⟨rfl, grown_alloc (grown_refl _ _) _⟩
  · clear h
    go_enter Tryz.func58, Tryz.ntmps58
    go_wp2
    go_ret
    exact ⟨rfl, grown_alloc (grown_refl _ _) _⟩
  · clear h
    go_enter Tryz.func58, Tryz.ntmps58
    go_wp2
    go_ret
    exact ⟨by rw [show knw 8 o = decide (o < 4) from decide_eq_decide.2 (by omega)]; rfl, grown_alloc (grown_refl _ _) _⟩
  · clear h
    go_enter Tryz.func58, Tryz.ntmps58
    go_wp2
    go_ret
    exact ⟨rfl, grown_alloc (grown_refl _ _) _⟩
theorem Tryz.zeroShape (w : World) : (zeroValue 128).run Tryz.prog w = .ok (.agg #[.int .i64 0, .int .i64 0, .int .i64 0, .int .i64 0]) w := by kernel_rfl
theorem smap_some {c : Int} {s : Shp} (h : shp c = some s) : smap c = some (shv s) := by unfold smap; rw [h]; rfl
theorem smap_none {c : Int} (h : shp c = none) : smap c = none := by unfold smap; rw [h]; rfl
theorem look_shape {w : World} {MB : Nat} (h : BMap w MB smap) {c : Int} {s : Shp} (hs : shp c = some s) :
    (Instr.lookup 97 (.map (some MB)) (.int .u8 c) false).run Tryz.prog w = .ok (.agg #[.int .i64 s.wh, .int .i64 s.nb, .int .i64 s.po, .int .i64 s.pu]) w ∧
    (Instr.lookup 97 (.map (some MB)) (.int .u8 c) true).run Tryz.prog w = .ok (.tuple #[.agg #[.int .i64 s.wh, .int .i64 s.nb, .int .i64 s.po, .int .i64 s.pu], .bool true]) w := by
  have k := fun cm => h.look (P := Tryz.prog) Tryz.underlying97 Tryz.underlying5 (Tryz.zeroShape _) c cm
  have k0 := k false
  have k1 := k true
  rw [smap_some hs] at k0 k1
  exact ⟨k0, k1⟩
theorem look_no {w : World} {MB : Nat} (h : BMap w MB smap) {c : Int} (hs : shp c = none) :
    (Instr.lookup 97 (.map (some MB)) (.int .u8 c) true).run Tryz.prog w = .ok (.tuple #[.agg #[.int .i64 0, .int .i64 0, .int .i64 0, .int .i64 0], .bool false]) w := by
  have k1 := h.look (P := Tryz.prog) Tryz.underlying97 Tryz.underlying5 (Tryz.zeroShape _) c true
  rw [smap_none hs] at k1
  exact k1
set_option maxRecDepth 100000 in
set_option maxHeartbeats 400000 in
theorem pfits_any (w0 w : World) (M MB : Nat) (cv pv sv : Value) (S : Mst) (sd : Bool) (res c o x : Int) (s : Shp) (h : PM w0 w M MB cv pv sv S sd res) (h8 : S.sp ≤ 8) (hs : shp c = some s) (ho : 0 ≤ o) :
    Calls Tryz.prog 42 #[.pointer (some ⟨M, 0, none⟩), .agg #[.int .u8 c, .int .u32 o, .int .u32 x]] w fun e w' => e = .returned (.bool (decide (s.po ≤ S.sp) && decide (S.sp - s.po + s.pu ≤ 8) && knw c o)) ∧ w.grownBy w' none := by
  obtain ⟨ao, cap, hsv, _⟩ := h.st
  obtain ⟨c0, c1, c2, c3, c4, c5, c6⟩ := h.cells
  obtain ⟨k4, p2, u1⟩ := shp_bd hs
  rw [hsv] at c4
  have lM := h.m.lt
  have HK : Hid (shp c = some s) := hs
  obtain ⟨I, hI⟩ : ∃ I, I = Obj.cells #[.int .u8 c, .int .u32 o, .int .u32 x] 104 := ⟨_, rfl⟩
  have hl0 := (look_shape (h.allo I).mp hs).1
  have hl1 := (look_shape (h.allo I).drew.mp hs).1
  have hl2 := fun O => (look_shape ((h.allo I).drew.allo O).mp hs).1
  have hl3 := fun O => (look_shape ((h.allo I).allo O).drew.mp hs).1
  have hl4 := fun O => (look_shape ((h.allo I).allo O).mp hs).1
  rw [hI] at hl0 hl1 hl2 hl3 hl4
  clear hI h hs hsv
  have V1 : IntKind.i64.wrap ((S.sp : Int) - (s.po : Int)) = (S.sp : Int) - (s.po : Int) := by rw [IntKind.wrap_i64]; omega
  have V2 : IntKind.i64.wrap ((S.sp : Int) - (s.po : Int) + (s.pu : Int)) = (S.sp : Int) - (s.po : Int) + (s.pu : Int) := by rw [IntKind.wrap_i64]; omega
  by_cases hA : s.po ≤ S.sp
  · have tA : decide (0 ≤ (S.sp : Int) - (s.po : Int)) = true := by simp; omega
    by_cases hC : S.sp - s.po + s.pu ≤ 8
    · have tC : decide ((S.sp : Int) - (s.po : Int) + (s.pu : Int) ≤ 8) = true := by simp; omega
      rw [decide_eq_true hA, decide_eq_true hC]
      go_enter Tryz.func42, Tryz.ntmps42
      go_wp2
      go_region
      go_wp2
      go_quiet (fail)
      go_wp2_with (go_at_call 58; refine (known_any c o x s _ HK.out ho).mono ?_; rintro e w1 ⟨rfl, hg1⟩)
      go_ret
      refine ⟨by simp, grown_trans ?_ hg1⟩
      (repeat (first | exact grown_refl _ _ | refine grown_drew ?_ | refine grown_alloc ?_ _ | refine grown_none ?_ (grown_drewN _ _ _) | refine grown_set ?_ (by simp) _ | refine grown_set ?_ (by simp; omega) _))
    · have tC : decide ((S.sp : Int) - (s.po : Int) + (s.pu : Int) ≤ 8) = false := by simp; omega
      rw [decide_eq_true hA, decide_eq_false hC]
      go_enter Tryz.func42, Tryz.ntmps42
      go_wp2
      go_region
      go_wp2
      go_quiet (fail)
      go_wp2
      go_ret
      refine ⟨rfl, ?_⟩
      (repeat (first | exact grown_refl _ _ | exact hg1 | refine grown_drew ?_ | refine grown_alloc ?_ _ | refine grown_none ?_ (grown_drewN _ _ _) | refine grown_set ?_ (by simp) _ | refine grown_set ?_ (by simp; omega) _))
  · have tA : decide (0 ≤ (S.sp : Int) - (s.po : Int)) = false := by simp; omega
    rw [decide_eq_false hA]
    go_enter Tryz.func42, Tryz.ntmps42
    go_wp2
    go_region
    go_wp2
    go_quiet (fail)
    go_wp2
    go_ret
    refine ⟨rfl, ?_⟩
    (repeat (first | exact grown_refl _ _ | exact hg1 | refine grown_drew ?_ | refine grown_alloc ?_ _ | refine grown_none ?_ (grown_drewN _ _ _) | refine grown_set ?_ (by simp) _ | refine grown_set ?_ (by simp; omega) _))
end Go.Proofs.YthbcfepbkkbjiabGreatDoor
