import Derived.Laws.Tables
import Derived.Deep.WholeRow
import Derived.Great.Walk
import Derived.Test.YthbcfepbkkbjiaaGreatDoorIQ2
import Derived.Test.YthbcfepbkkbjiaaGreatDoorIF5
namespace Go.Proofs.YthbcfepbkkbjiaaGreatDoor
open Go.RowKit
set_option linter.unusedVariables false
def execV (g : Nat → Int) (n : Nat) (p : Nat → Int) (m : Nat) : Int × Nat × Int := if m ≤ 2000 then execR g n p m else (0, 0, 10)
theorem rexec_all (co : Option Addr) (n c : Nat) (g : Nat → Int) (po : Option Addr) (m pc : Nat) (p : Nat → Int) (w : World) (hn : n ≤ 140737488355328) (hc : n ≤ c) (hm : m ≤ 140737488355328) (hg : Oct g) (hp : Oct p) (hs : Src w .u8 co n g) (hq : Src w .u8 po m p) :
    Calls Tryz.prog 19 #[.slice co n c, .slice po m pc] w fun e w' => e = .returned (.tuple #[.int .i64 (execV g n p m).1, .int .i64 (execV g n p m).2.1, .int .i64 (execV g n p m).2.2]) ∧ w.grownBy w' none := by
  unfold execV
  by_cases h : m ≤ 2000
  · rw [if_pos h]; exact rexec_any co n c g po m pc p w hn hc h hg hp hs hq
  · rw [if_neg h]; exact rexec_big _ po m pc w (by omega) hm
end Go.Proofs.YthbcfepbkkbjiaaGreatDoor
