/- The walk of the program's Kinds. -/
import Derived.Test.YthbcfepbkkbjiaaDoorRows
import Derived.Test.YthbcfepbkkbjiaaDoorK
import Derived.Test.YthbcfepbkkbjiaaDoorQ
namespace Go.Proofs.YthbcfepbkkbjiaaDoor
open Go.RowKit

/-- the kind of each code that there is -/
def kmap (C : Int) : Option Value := (look C).map fun r => .int .i64 r.cls

theorem IMap.congr {w : World} {b : Nat} {f f' : Int → Option Value} (h : IMap w b f) (hf : ∀ D, f D = f' D) : IMap w b f' := by
  have : f = f' := funext hf
  rwa [this] at h

set_option maxRecDepth 100000 in
theorem kmap_eq (D : Int) : (if D = 22 then some (.int .i64 11) else if D = 6 then some (.int .i64 11) else if D = 77 then some (.int .i64 10) else if D = 61 then some (.int .i64 10) else if D = 45 then some (.int .i64 10) else if D = 29 then some (.int .i64 10) else if D = 69 then some (.int .i64 10) else if D = 53 then some (.int .i64 10) else if D = 37 then some (.int .i64 10) else if D = 21 then some (.int .i64 10) else if D = 5 then some (.int .i64 9) else if D = 132 then some (.int .i64 6) else if D = 124 then some (.int .i64 6) else if D = 108 then some (.int .i64 6) else if D = 172 then some (.int .i64 6) else if D = 92 then some (.int .i64 6) else if D = 76 then some (.int .i64 6) else if D = 156 then some (.int .i64 6) else if D = 60 then some (.int .i64 6) else if D = 44 then some (.int .i64 6) else if D = 28 then some (.int .i64 6) else if D = 12 then some (.int .i64 6) else if D = 116 then some (.int .i64 8) else if D = 100 then some (.int .i64 8) else if D = 164 then some (.int .i64 6) else if D = 84 then some (.int .i64 6) else if D = 68 then some (.int .i64 6) else if D = 148 then some (.int .i64 7) else if D = 52 then some (.int .i64 7) else if D = 36 then some (.int .i64 6) else if D = 20 then some (.int .i64 6) else if D = 4 then some (.int .i64 6) else if D = 135 then some (.int .i64 5) else if D = 7 then some (.int .i64 5) else if D = 3 then some (.int .i64 4) else if D = 2 then some (.int .i64 4) else if D = 97 then some (.int .i64 3) else if D = 96 then some (.int .i64 3) else if D = 129 then some (.int .i64 2) else if D = 1 then some (.int .i64 2) else if D = 128 then some (.int .i64 2) else if D = 0 then some (.int .i64 2) else if D = 177 then some (.int .i64 1) else if D = 80 then some (.int .i64 1) else if D = 72 then some (.int .i64 1) else if D = 64 then some (.int .i64 1) else if D = 48 then some (.int .i64 1) else if D = 40 then some (.int .i64 1) else if D = 32 then some (.int .i64 1) else none) = kmap D := by
  by_cases e22 : D = 22
  · subst e22; rfl
  rw [if_neg e22]
  by_cases e6 : D = 6
  · subst e6; rfl
  rw [if_neg e6]
  by_cases e77 : D = 77
  · subst e77; rfl
  rw [if_neg e77]
  by_cases e61 : D = 61
  · subst e61; rfl
  rw [if_neg e61]
  by_cases e45 : D = 45
  · subst e45; rfl
  rw [if_neg e45]
  by_cases e29 : D = 29
  · subst e29; rfl
  rw [if_neg e29]
  by_cases e69 : D = 69
  · subst e69; rfl
  rw [if_neg e69]
  by_cases e53 : D = 53
  · subst e53; rfl
  rw [if_neg e53]
  by_cases e37 : D = 37
  · subst e37; rfl
  rw [if_neg e37]
  by_cases e21 : D = 21
  · subst e21; rfl
  rw [if_neg e21]
  by_cases e5 : D = 5
  · subst e5; rfl
  rw [if_neg e5]
  by_cases e132 : D = 132
  · subst e132; rfl
  rw [if_neg e132]
  by_cases e124 : D = 124
  · subst e124; rfl
  rw [if_neg e124]
  by_cases e108 : D = 108
  · subst e108; rfl
  rw [if_neg e108]
  by_cases e172 : D = 172
  · subst e172; rfl
  rw [if_neg e172]
  by_cases e92 : D = 92
  · subst e92; rfl
  rw [if_neg e92]
  by_cases e76 : D = 76
  · subst e76; rfl
  rw [if_neg e76]
  by_cases e156 : D = 156
  · subst e156; rfl
  rw [if_neg e156]
  by_cases e60 : D = 60
  · subst e60; rfl
  rw [if_neg e60]
  by_cases e44 : D = 44
  · subst e44; rfl
  rw [if_neg e44]
  by_cases e28 : D = 28
  · subst e28; rfl
  rw [if_neg e28]
  by_cases e12 : D = 12
  · subst e12; rfl
  rw [if_neg e12]
  by_cases e116 : D = 116
  · subst e116; rfl
  rw [if_neg e116]
  by_cases e100 : D = 100
  · subst e100; rfl
  rw [if_neg e100]
  by_cases e164 : D = 164
  · subst e164; rfl
  rw [if_neg e164]
  by_cases e84 : D = 84
  · subst e84; rfl
  rw [if_neg e84]
  by_cases e68 : D = 68
  · subst e68; rfl
  rw [if_neg e68]
  by_cases e148 : D = 148
  · subst e148; rfl
  rw [if_neg e148]
  by_cases e52 : D = 52
  · subst e52; rfl
  rw [if_neg e52]
  by_cases e36 : D = 36
  · subst e36; rfl
  rw [if_neg e36]
  by_cases e20 : D = 20
  · subst e20; rfl
  rw [if_neg e20]
  by_cases e4 : D = 4
  · subst e4; rfl
  rw [if_neg e4]
  by_cases e135 : D = 135
  · subst e135; rfl
  rw [if_neg e135]
  by_cases e7 : D = 7
  · subst e7; rfl
  rw [if_neg e7]
  by_cases e3 : D = 3
  · subst e3; rfl
  rw [if_neg e3]
  by_cases e2 : D = 2
  · subst e2; rfl
  rw [if_neg e2]
  by_cases e97 : D = 97
  · subst e97; rfl
  rw [if_neg e97]
  by_cases e96 : D = 96
  · subst e96; rfl
  rw [if_neg e96]
  by_cases e129 : D = 129
  · subst e129; rfl
  rw [if_neg e129]
  by_cases e1 : D = 1
  · subst e1; rfl
  rw [if_neg e1]
  by_cases e128 : D = 128
  · subst e128; rfl
  rw [if_neg e128]
  by_cases e0 : D = 0
  · subst e0; rfl
  rw [if_neg e0]
  by_cases e177 : D = 177
  · subst e177; rfl
  rw [if_neg e177]
  by_cases e80 : D = 80
  · subst e80; rfl
  rw [if_neg e80]
  by_cases e72 : D = 72
  · subst e72; rfl
  rw [if_neg e72]
  by_cases e64 : D = 64
  · subst e64; rfl
  rw [if_neg e64]
  by_cases e48 : D = 48
  · subst e48; rfl
  rw [if_neg e48]
  by_cases e40 : D = 40
  · subst e40; rfl
  rw [if_neg e40]
  by_cases e32 : D = 32
  · subst e32; rfl
  rw [if_neg e32]
  unfold kmap look
  rw [List.find?_eq_none.2]
  · rfl
  · intro r hr
    simp only [tab, List.mem_cons, List.not_mem_nil, or_false] at hr
    simp only [beq_iff_eq]
    rcases hr with rfl | rfl | rfl | rfl | rfl | rfl | rfl | rfl | rfl | rfl | rfl | rfl | rfl | rfl | rfl | rfl | rfl | rfl | rfl | rfl | rfl | rfl | rfl | rfl | rfl | rfl | rfl | rfl | rfl | rfl | rfl | rfl | rfl | rfl | rfl | rfl | rfl | rfl | rfl | rfl | rfl | rfl | rfl | rfl | rfl | rfl | rfl | rfl | rfl <;> (dsimp only; omega)

set_option maxRecDepth 100000 in
set_option maxHeartbeats 2000000 in
theorem kinds_any (w : World) : Calls Tryd.prog 33 #[] w fun e w' => e = .returned (.map (some w.heap.size)) ∧ IMap w' w.heap.size kmap ∧ w.grownBy w' none := by
  have hmm := @run_makeMap Tryd.prog
  have h0 : IMap (w.alloc (.map #[] 0)) w.heap.size (fun _ => none) ∧ w.grownBy (w.alloc (.map #[] 0)) none := ⟨imap_new w, grown_alloc (grown_refl w none) (.map #[] 0)⟩
  go_enter Tryd.func33, Tryd.ntmps33
  go_wp2_with (refine wpList_put_own _ w rfl _ _ _ 79 rfl 3 105 Tryd.underlying79 Tryd.underlying3 w.heap.size _ _ _ _ rfl rfl rfl (by assumption) (Nat.le_refl _) ?_; clear h0; intro w0 h0)
  go_ret
  exact ⟨rfl, h0.1.congr kmap_eq, h0.2⟩

end Go.Proofs.YthbcfepbkkbjiaaDoor
