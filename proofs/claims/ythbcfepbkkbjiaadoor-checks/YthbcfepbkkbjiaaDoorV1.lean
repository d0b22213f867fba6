/- The walks of the reference's kind, family. -/
import Derived.Test.YthbcfepbkkbjiaaDoorW3
import Derived.Test.YthbcfepbkkbjiaaDoorK
namespace Go.Proofs.YthbcfepbkkbjiaaDoor
open Go.RowKit

set_option maxRecDepth 100000 in
theorem kind_32 (w : World) : Calls Tryd.prog 17 #[.int .i64 32] w fun e w' => e = .returned (.tuple #[kv (kd 32), .bool true]) ∧ w.grownBy w' none := by
  go_enter Tryd.func17, Tryd.ntmps17
  go_wp2
  exact bodyPost_ret (v := .tuple #[kv (kd 32), .bool true]) (by rw [show kd 32 = ⟨32, 1, 4, false, 0, 1⟩ by rfl]; simp [results, Tryd.results17, go_sem, kv]) rfl ⟨rfl, grown_alloc (grown_alloc (grown_refl _ _) _) _⟩

set_option maxRecDepth 100000 in
theorem kind_40 (w : World) : Calls Tryd.prog 17 #[.int .i64 40] w fun e w' => e = .returned (.tuple #[kv (kd 40), .bool true]) ∧ w.grownBy w' none := by
  go_enter Tryd.func17, Tryd.ntmps17
  go_wp2
  exact bodyPost_ret (v := .tuple #[kv (kd 40), .bool true]) (by rw [show kd 40 = ⟨40, 1, 2, false, 0, 1⟩ by rfl]; simp [results, Tryd.results17, go_sem, kv]) rfl ⟨rfl, grown_alloc (grown_alloc (grown_refl _ _) _) _⟩

set_option maxRecDepth 100000 in
theorem kind_48 (w : World) : Calls Tryd.prog 17 #[.int .i64 48] w fun e w' => e = .returned (.tuple #[kv (kd 48), .bool true]) ∧ w.grownBy w' none := by
  go_enter Tryd.func17, Tryd.ntmps17
  go_wp2
  exact bodyPost_ret (v := .tuple #[kv (kd 48), .bool true]) (by rw [show kd 48 = ⟨48, 1, 1, false, 0, 1⟩ by rfl]; simp [results, Tryd.results17, go_sem, kv]) rfl ⟨rfl, grown_alloc (grown_alloc (grown_refl _ _) _) _⟩

set_option maxRecDepth 100000 in
theorem kind_64 (w : World) : Calls Tryd.prog 17 #[.int .i64 64] w fun e w' => e = .returned (.tuple #[kv (kd 64), .bool true]) ∧ w.grownBy w' none := by
  go_enter Tryd.func17, Tryd.ntmps17
  go_wp2
  exact bodyPost_ret (v := .tuple #[kv (kd 64), .bool true]) (by rw [show kd 64 = ⟨64, 1, 4, true, 0, 1⟩ by rfl]; simp [results, Tryd.results17, go_sem, kv]) rfl ⟨rfl, grown_alloc (grown_alloc (grown_refl _ _) _) _⟩

set_option maxRecDepth 100000 in
theorem kind_72 (w : World) : Calls Tryd.prog 17 #[.int .i64 72] w fun e w' => e = .returned (.tuple #[kv (kd 72), .bool true]) ∧ w.grownBy w' none := by
  go_enter Tryd.func17, Tryd.ntmps17
  go_wp2
  exact bodyPost_ret (v := .tuple #[kv (kd 72), .bool true]) (by rw [show kd 72 = ⟨72, 1, 2, true, 0, 1⟩ by rfl]; simp [results, Tryd.results17, go_sem, kv]) rfl ⟨rfl, grown_alloc (grown_alloc (grown_refl _ _) _) _⟩

set_option maxRecDepth 100000 in
theorem kind_80 (w : World) : Calls Tryd.prog 17 #[.int .i64 80] w fun e w' => e = .returned (.tuple #[kv (kd 80), .bool true]) ∧ w.grownBy w' none := by
  go_enter Tryd.func17, Tryd.ntmps17
  go_wp2
  exact bodyPost_ret (v := .tuple #[kv (kd 80), .bool true]) (by rw [show kd 80 = ⟨80, 1, 1, true, 0, 1⟩ by rfl]; simp [results, Tryd.results17, go_sem, kv]) rfl ⟨rfl, grown_alloc (grown_alloc (grown_refl _ _) _) _⟩

set_option maxRecDepth 100000 in
theorem kind_0 (w : World) : Calls Tryd.prog 17 #[.int .i64 0] w fun e w' => e = .returned (.tuple #[kv (kd 0), .bool true]) ∧ w.grownBy w' none := by
  go_enter Tryd.func17, Tryd.ntmps17
  go_wp2
  exact bodyPost_ret (v := .tuple #[kv (kd 0), .bool true]) (by rw [show kd 0 = ⟨0, 2, 0, false, 0, 2⟩ by rfl]; simp [results, Tryd.results17, go_sem, kv]) rfl ⟨rfl, grown_alloc (grown_alloc (grown_refl _ _) _) _⟩

set_option maxRecDepth 100000 in
theorem kind_1 (w : World) : Calls Tryd.prog 17 #[.int .i64 1] w fun e w' => e = .returned (.tuple #[kv (kd 1), .bool true]) ∧ w.grownBy w' none := by
  go_enter Tryd.func17, Tryd.ntmps17
  go_wp2
  exact bodyPost_ret (v := .tuple #[kv (kd 1), .bool true]) (by rw [show kd 1 = ⟨1, 2, 0, true, 0, 2⟩ by rfl]; simp [results, Tryd.results17, go_sem, kv]) rfl ⟨rfl, grown_alloc (grown_alloc (grown_refl _ _) _) _⟩

set_option maxRecDepth 100000 in
theorem kind_96 (w : World) : Calls Tryd.prog 17 #[.int .i64 96] w fun e w' => e = .returned (.tuple #[kv (kd 96), .bool true]) ∧ w.grownBy w' none := by
  go_enter Tryd.func17, Tryd.ntmps17
  go_wp2
  exact bodyPost_ret (v := .tuple #[kv (kd 96), .bool true]) (by rw [show kd 96 = ⟨96, 3, 0, false, 0, 3⟩ by rfl]; simp [results, Tryd.results17, go_sem, kv]) rfl ⟨rfl, grown_alloc (grown_alloc (grown_refl _ _) _) _⟩

set_option maxRecDepth 100000 in
theorem kind_97 (w : World) : Calls Tryd.prog 17 #[.int .i64 97] w fun e w' => e = .returned (.tuple #[kv (kd 97), .bool true]) ∧ w.grownBy w' none := by
  go_enter Tryd.func17, Tryd.ntmps17
  go_wp2
  exact bodyPost_ret (v := .tuple #[kv (kd 97), .bool true]) (by rw [show kd 97 = ⟨97, 3, 0, true, 0, 3⟩ by rfl]; simp [results, Tryd.results17, go_sem, kv]) rfl ⟨rfl, grown_alloc (grown_alloc (grown_refl _ _) _) _⟩

set_option maxRecDepth 100000 in
theorem kind_128 (w : World) : Calls Tryd.prog 17 #[.int .i64 128] w fun e w' => e = .returned (.tuple #[kv (kd 128), .bool true]) ∧ w.grownBy w' none := by
  go_enter Tryd.func17, Tryd.ntmps17
  go_wp2
  exact bodyPost_ret (v := .tuple #[kv (kd 128), .bool true]) (by rw [show kd 128 = ⟨128, 4, 0, false, 0, 2⟩ by rfl]; simp [results, Tryd.results17, go_sem, kv]) rfl ⟨rfl, grown_alloc (grown_alloc (grown_refl _ _) _) _⟩

set_option maxRecDepth 100000 in
theorem kind_129 (w : World) : Calls Tryd.prog 17 #[.int .i64 129] w fun e w' => e = .returned (.tuple #[kv (kd 129), .bool true]) ∧ w.grownBy w' none := by
  go_enter Tryd.func17, Tryd.ntmps17
  go_wp2
  exact bodyPost_ret (v := .tuple #[kv (kd 129), .bool true]) (by rw [show kd 129 = ⟨129, 4, 0, true, 0, 2⟩ by rfl]; simp [results, Tryd.results17, go_sem, kv]) rfl ⟨rfl, grown_alloc (grown_alloc (grown_refl _ _) _) _⟩

set_option maxRecDepth 100000 in
theorem kind_177 (w : World) : Calls Tryd.prog 17 #[.int .i64 177] w fun e w' => e = .returned (.tuple #[kv (kd 177), .bool true]) ∧ w.grownBy w' none := by
  go_enter Tryd.func17, Tryd.ntmps17
  go_wp2
  exact bodyPost_ret (v := .tuple #[kv (kd 177), .bool true]) (by rw [show kd 177 = ⟨177, 5, 0, false, 0, 1⟩ by rfl]; simp [results, Tryd.results17, go_sem, kv]) rfl ⟨rfl, grown_alloc (grown_alloc (grown_refl _ _) _) _⟩

set_option maxRecDepth 100000 in
theorem kind_2 (w : World) : Calls Tryd.prog 17 #[.int .i64 2] w fun e w' => e = .returned (.tuple #[kv (kd 2), .bool true]) ∧ w.grownBy w' none := by
  go_enter Tryd.func17, Tryd.ntmps17
  go_wp2
  exact bodyPost_ret (v := .tuple #[kv (kd 2), .bool true]) (by rw [show kd 2 = ⟨2, 6, 0, false, 0, 4⟩ by rfl]; simp [results, Tryd.results17, go_sem, kv]) rfl ⟨rfl, grown_alloc (grown_alloc (grown_refl _ _) _) _⟩

set_option maxRecDepth 100000 in
theorem kind_3 (w : World) : Calls Tryd.prog 17 #[.int .i64 3] w fun e w' => e = .returned (.tuple #[kv (kd 3), .bool true]) ∧ w.grownBy w' none := by
  go_enter Tryd.func17, Tryd.ntmps17
  go_wp2
  exact bodyPost_ret (v := .tuple #[kv (kd 3), .bool true]) (by rw [show kd 3 = ⟨3, 6, 0, true, 0, 4⟩ by rfl]; simp [results, Tryd.results17, go_sem, kv]) rfl ⟨rfl, grown_alloc (grown_alloc (grown_refl _ _) _) _⟩

set_option maxRecDepth 100000 in
theorem kind_7 (w : World) : Calls Tryd.prog 17 #[.int .i64 7] w fun e w' => e = .returned (.tuple #[kv (kd 7), .bool true]) ∧ w.grownBy w' none := by
  go_enter Tryd.func17, Tryd.ntmps17
  go_wp2
  exact bodyPost_ret (v := .tuple #[kv (kd 7), .bool true]) (by rw [show kd 7 = ⟨7, 7, 0, true, 0, 5⟩ by rfl]; simp [results, Tryd.results17, go_sem, kv]) rfl ⟨rfl, grown_alloc (grown_alloc (grown_refl _ _) _) _⟩

set_option maxRecDepth 100000 in
theorem kind_135 (w : World) : Calls Tryd.prog 17 #[.int .i64 135] w fun e w' => e = .returned (.tuple #[kv (kd 135), .bool true]) ∧ w.grownBy w' none := by
  go_enter Tryd.func17, Tryd.ntmps17
  go_wp2
  exact bodyPost_ret (v := .tuple #[kv (kd 135), .bool true]) (by rw [show kd 135 = ⟨135, 7, 0, false, 0, 5⟩ by rfl]; simp [results, Tryd.results17, go_sem, kv]) rfl ⟨rfl, grown_alloc (grown_alloc (grown_refl _ _) _) _⟩

set_option maxRecDepth 100000 in
theorem kind_132 (w : World) : Calls Tryd.prog 17 #[.int .i64 132] w fun e w' => e = .returned (.tuple #[kv (kd 132), .bool true]) ∧ w.grownBy w' none := by
  go_enter Tryd.func17, Tryd.ntmps17
  go_wp2
  exact bodyPost_ret (v := .tuple #[kv (kd 132), .bool true]) (by rw [show kd 132 = ⟨132, 9, 0, false, 0, 6⟩ by rfl]; simp [results, Tryd.results17, go_sem, kv]) rfl ⟨rfl, grown_alloc (grown_alloc (grown_refl _ _) _) _⟩

set_option maxRecDepth 100000 in
theorem kind_5 (w : World) : Calls Tryd.prog 17 #[.int .i64 5] w fun e w' => e = .returned (.tuple #[kv (kd 5), .bool true]) ∧ w.grownBy w' none := by
  go_enter Tryd.func17, Tryd.ntmps17
  go_wp2
  exact bodyPost_ret (v := .tuple #[kv (kd 5), .bool true]) (by rw [show kd 5 = ⟨5, 10, 0, false, 0, 9⟩ by rfl]; simp [results, Tryd.results17, go_sem, kv]) rfl ⟨rfl, grown_alloc (grown_alloc (grown_refl _ _) _) _⟩

set_option maxRecDepth 100000 in
theorem kind_6 (w : World) : Calls Tryd.prog 17 #[.int .i64 6] w fun e w' => e = .returned (.tuple #[kv (kd 6), .bool true]) ∧ w.grownBy w' none := by
  go_enter Tryd.func17, Tryd.ntmps17
  go_wp2
  exact bodyPost_ret (v := .tuple #[kv (kd 6), .bool true]) (by rw [show kd 6 = ⟨6, 12, 0, false, 0, 11⟩ by rfl]; simp [results, Tryd.results17, go_sem, kv]) rfl ⟨rfl, grown_alloc (grown_alloc (grown_refl _ _) _) _⟩

set_option maxRecDepth 100000 in
theorem kind_22 (w : World) : Calls Tryd.prog 17 #[.int .i64 22] w fun e w' => e = .returned (.tuple #[kv (kd 22), .bool true]) ∧ w.grownBy w' none := by
  go_enter Tryd.func17, Tryd.ntmps17
  go_wp2
  exact bodyPost_ret (v := .tuple #[kv (kd 22), .bool true]) (by rw [show kd 22 = ⟨22, 12, 0, true, 0, 11⟩ by rfl]; simp [results, Tryd.results17, go_sem, kv]) rfl ⟨rfl, grown_alloc (grown_alloc (grown_refl _ _) _) _⟩

end Go.Proofs.YthbcfepbkkbjiaaDoor
