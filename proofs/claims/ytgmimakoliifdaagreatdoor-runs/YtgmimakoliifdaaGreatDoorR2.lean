/- The reference's filter at work: what its memory holds; put. -/
import Derived.Test.YtgmimakoliifdaaGreatDoorR1
import Derived.Test.YtgmimakoliifdaaGreatDoorE5
namespace Go.Proofs.YtgmimakoliifdaaGreatDoor
open Go.RowKit
set_option linter.unusedVariables false

def srow (a x : Int) (CB pc : Nat) : Nat → Value := fun j => if j = 0 then .int .i64 a else if j = 1 then .int .i64 x else if j = 2 then .slice (some ⟨CB, 0, none⟩) 16 16 else .int .i64 pc

/-- the state at T, since the world w0 -/
structure RS (w0 w : World) (T CB : Nat) (S : Flt) : Prop where
  gr : w0.grownBy w none
  hT : w0.heap.size ≤ T
  hC : w0.heap.size ≤ CB
  ne : T ≠ CB
  m : Blk w T 106 4 4 (srow S.a S.x CB S.pc)
  cs : Blk w CB 3 16 16 (ints .i64 S.cs)

section
variable {w0 w w' : World} {T CB : Nat} {S : Flt}

theorem RS.cells (h : RS w0 w T CB S) : (w.cell? ⟨T, 0, none⟩ = some (.int .i64 S.a) ∧ w.cell? ⟨T, 1, none⟩ = some (.int .i64 S.x) ∧ w.cell? ⟨T, 2, none⟩ = some (.slice (some ⟨CB, 0, none⟩) 16 16) ∧ w.cell? ⟨T, 3, none⟩ = some (.int .i64 S.pc)) ∧
    w.frozen? ⟨T, 0, none⟩ = false ∧ w.frozen? ⟨T, 1, none⟩ = false ∧ w.frozen? ⟨T, 3, none⟩ = false :=
  ⟨⟨h.m.cell (j := 0) (by omega), h.m.cell (j := 1) (by omega), h.m.cell (j := 2) (by omega), h.m.cell (j := 3) (by omega)⟩, h.m.frozen 0, h.m.frozen 1, h.m.frozen 3⟩

theorem RS.keep (h : RS w0 w T CB S) (hg : w.grownBy w' none) : RS w0 w' T CB S := ⟨grown_trans h.gr hg, h.hT, h.hC, h.ne, h.m.keep hg (by simp), h.cs.keep hg (by simp)⟩
theorem RS.drew (h : RS w0 w T CB S) : RS w0 w.drew T CB S := h.keep (grown_drew (grown_refl _ _))
theorem RS.drewN (h : RS w0 w T CB S) (k : Nat) : RS w0 (w.drewN k) T CB S := h.keep (grown_drewN _ _ _)
theorem RS.allo (h : RS w0 w T CB S) (o : Obj) : RS w0 (w.alloc o) T CB S := h.keep (World.grownBy_alloc _ _ none)

theorem RS.setA (h : RS w0 w T CB S) (v : Int) : RS w0 (w.setCell ⟨T, 0, none⟩ (.int .i64 v)) T CB ⟨S.pc, v, S.x, S.cs⟩ := by
  have hg := grown_setCell w ⟨T, 0, none⟩ (.int .i64 v)
  refine ⟨grown_set h.gr h.hT _, h.hT, h.hC, h.ne, (h.m.set' (j := 0) (by omega) _).congr fun j hj => ?_, h.cs.keep hg (by simp; exact fun e => h.ne e.symm)⟩
  match j, hj with
  | 0, _ => rfl
  | 1, _ => rfl
  | 2, _ => rfl
  | 3, _ => rfl

theorem RS.setX (h : RS w0 w T CB S) (v : Int) : RS w0 (w.setCell ⟨T, 1, none⟩ (.int .i64 v)) T CB ⟨S.pc, S.a, v, S.cs⟩ := by
  have hg := grown_setCell w ⟨T, 1, none⟩ (.int .i64 v)
  refine ⟨grown_set h.gr h.hT _, h.hT, h.hC, h.ne, (h.m.set' (j := 1) (by omega) _).congr fun j hj => ?_, h.cs.keep hg (by simp; exact fun e => h.ne e.symm)⟩
  match j, hj with
  | 0, _ => rfl
  | 1, _ => rfl
  | 2, _ => rfl
  | 3, _ => rfl

theorem RS.setPc (h : RS w0 w T CB S) (pc : Nat) (v : Int) (hv : v = pc) : RS w0 (w.setCell ⟨T, 3, none⟩ (.int .i64 v)) T CB ⟨pc, S.a, S.x, S.cs⟩ := by
  subst hv
  have hg := grown_setCell w ⟨T, 3, none⟩ (.int .i64 pc)
  refine ⟨grown_set h.gr h.hT _, h.hT, h.hC, h.ne, (h.m.set' (j := 3) (by omega) _).congr fun j hj => ?_, h.cs.keep hg (by simp; exact fun e => h.ne e.symm)⟩
  match j, hj with
  | 0, _ => rfl
  | 1, _ => rfl
  | 2, _ => rfl
  | 3, _ => rfl

theorem RS.setCs (h : RS w0 w T CB S) (i : Nat) (hi : i < 16) (v : Int) : RS w0 (w.setCell ⟨CB, i, none⟩ (.int .i64 v)) T CB ⟨S.pc, S.a, S.x, upd S.cs i v⟩ := by
  have hg := grown_setCell w ⟨CB, i, none⟩ (.int .i64 v)
  refine ⟨grown_set h.gr h.hC _, h.hT, h.hC, h.ne, h.m.keep hg (by simp; exact h.ne), (h.cs.set' hi _).congr fun j hj => ?_⟩
  show (if j = i then Value.int .i64 v else .int .i64 (S.cs j)) = .int .i64 (upd S.cs i v j)
  unfold upd; split <;> rfl

end

set_option maxRecDepth 100000 in
set_option maxHeartbeats 1000000 in
theorem put_x (w0 w : World) (T CB : Nat) (S : Flt) (f0 f1 f2 f4 c jt jf v k : Int) (m : Nat) (h : RS w0 w T CB S) (hk : (f1 = 2 ∧ v = k) ∨ (f1 = 3 ∧ 0 ≤ k ∧ k < 16 ∧ v = S.cs k.toNat) ∨ (f1 = 4 ∧ v = m)) :
    Calls Tryz.prog 87 #[.pointer (some ⟨T, 0, none⟩), .agg #[.int .i64 f0, .int .i64 f1, .int .i64 f2, .bool true, .int .i64 f4], .agg #[.int .i64 c, .int .i64 jt, .int .i64 jf, .int .i64 k], .int .i64 m] w
      fun e w' => e = .returned (.tuple #[]) ∧ RS w0 w' T CB ⟨S.pc, S.a, v, S.cs⟩ := by
  obtain ⟨⟨c0, c1, c2, c3⟩, z0, z1, z3⟩ := h.cells
  have HH : Hid (RS w0 w T CB S) := h
  have lT := h.m.lt
  have lC := h.cs.lt
  have cX : ∀ k < 16, w.cell? ⟨CB, k, none⟩ = some (.int .i64 (S.cs k)) := fun k hk => h.cs.cell hk
  clear h
  rcases hk with ⟨hk, rfl⟩ | ⟨hk, k0, k16, rfl⟩ | ⟨hk, rfl⟩
  · rw [hk]
    clear cX
    go_enter Tryz.func87, Tryz.ntmps87
    go_wp2
    go_end0
    exact ⟨rfl, RS.allo (RS.allo (HH.out.setX _) _) _⟩
  · rw [hk]
    have cx := cX k.toNat (by omega)
    clear cX
    go_enter Tryz.func87, Tryz.ntmps87
    go_wp2
    go_quiet (fail)
    go_wp2
    go_end0
    exact ⟨rfl, (((HH.out.allo _).allo _).drewN _).setX _⟩
  · rw [hk]
    clear cX
    go_enter Tryz.func87, Tryz.ntmps87
    go_wp2
    go_end0
    exact ⟨rfl, RS.allo (RS.allo (HH.out.setX _) _) _⟩

set_option maxRecDepth 100000 in
set_option maxHeartbeats 1000000 in
theorem put_a (w0 w : World) (T CB : Nat) (S : Flt) (f0 f1 f2 f4 c jt jf v k : Int) (m : Nat) (h : RS w0 w T CB S) (hk : (f1 = 2 ∧ v = k) ∨ (f1 = 3 ∧ 0 ≤ k ∧ k < 16 ∧ v = S.cs k.toNat) ∨ (f1 = 4 ∧ v = m)) :
    Calls Tryz.prog 87 #[.pointer (some ⟨T, 0, none⟩), .agg #[.int .i64 f0, .int .i64 f1, .int .i64 f2, .bool false, .int .i64 f4], .agg #[.int .i64 c, .int .i64 jt, .int .i64 jf, .int .i64 k], .int .i64 m] w
      fun e w' => e = .returned (.tuple #[]) ∧ RS w0 w' T CB ⟨S.pc, v, S.x, S.cs⟩ := by
  obtain ⟨⟨c0, c1, c2, c3⟩, z0, z1, z3⟩ := h.cells
  have HH : Hid (RS w0 w T CB S) := h
  have lT := h.m.lt
  have lC := h.cs.lt
  have cX : ∀ k < 16, w.cell? ⟨CB, k, none⟩ = some (.int .i64 (S.cs k)) := fun k hk => h.cs.cell hk
  clear h
  rcases hk with ⟨hk, rfl⟩ | ⟨hk, k0, k16, rfl⟩ | ⟨hk, rfl⟩
  · rw [hk]
    clear cX
    go_enter Tryz.func87, Tryz.ntmps87
    go_wp2
    go_end0
    exact ⟨rfl, RS.allo (RS.allo (HH.out.setA _) _) _⟩
  · rw [hk]
    have cx := cX k.toNat (by omega)
    clear cX
    go_enter Tryz.func87, Tryz.ntmps87
    go_wp2
    go_quiet (fail)
    go_wp2
    go_end0
    exact ⟨rfl, (((HH.out.allo _).allo _).drewN _).setA _⟩
  · rw [hk]
    clear cX
    go_enter Tryz.func87, Tryz.ntmps87
    go_wp2
    go_end0
    exact ⟨rfl, RS.allo (RS.allo (HH.out.setA _) _) _⟩

/-- what a step begins with -/
structure Fsp (w0 w : World) (T CB lb loff n : Nat) (q : Nat → Int) (po : Option Addr) (m : Nat) (p : Nat → Int) (S : Flt) : Prop where
  hn : n ≤ 256
  hm : m ≤ 2000
  good : Good q n
  hp : Oct p
  inv : FInv n S
  rs : RS w0 w T CB S
  row : Row w0 .i64 lb loff (4 * n) q
  src : Src w0 .u8 po m p

end Go.Proofs.YtgmimakoliifdaaGreatDoor
