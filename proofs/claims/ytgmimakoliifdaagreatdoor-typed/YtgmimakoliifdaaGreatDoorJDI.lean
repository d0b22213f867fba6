import Derived.Test.YtgmimakoliifdaaGreatDoorJD1
namespace Go.Proofs.YtgmimakoliifdaaGreatDoor
open Go.RowKit
set_option linter.unusedVariables false
set_option linter.unusedSimpArgs false

set_option maxRecDepth 100000 in
set_option maxHeartbeats 1000000 in
theorem cf_72 (w0 w : World) (M KB SB OB UB : Nat) (cv sv gv : Value) (l ss : List Int) (gs : List (Int × Int)) (jt jf k : Int) (h : CM w0 w M KB SB OB UB cv sv gv l ss gs) (hl : l.length ≤ 80000) (uk : U32 k) :
    Calls Tryz.prog 88 #[.pointer (some ⟨M, 0, none⟩), .agg #[.int .i64 72, .int .i64 jt, .int .i64 jf, .int .i64 k]] w fun e w' => e = .returned (.tuple #[]) ∧ ∃ cv', CM w0 w' M KB SB OB UB cv' sv gv (l ++ piece (kd 72) k 0 0) ss gs := by
  obtain ⟨c0, c1, c2, c3, c4, c5, c6⟩ := h.cells
  have lM := h.m.lt
  obtain ⟨k0, k1⟩ := uk
  have H0 := h.allo (.cells #[.int .i64 72, .int .i64 jt, .int .i64 jf, .int .i64 k] 51)
  have B0 := box_new h (.int .i64 72) (.int .i64 jt) (.int .i64 jf) (.int .i64 k) 51
  have HS : (w.alloc (.cells #[.int .i64 72, .int .i64 jt, .int .i64 jf, .int .i64 k] 51)).drew.cell? ⟨M, 4, none⟩ = some (.map (some SB)) ∧ (w.alloc (.cells #[.int .i64 72, .int .i64 jt, .int .i64 jf, .int .i64 k] 51)).drew.cell? ⟨w.heap.size, 0, none⟩ = some (.int .i64 72) ∧ (Instr.lookup 94 (.map (some SB)) (.int .i64 72) false).run Tryz.prog (w.alloc (.cells #[.int .i64 72, .int .i64 jt, .int .i64 jf, .int .i64 k] 51)).drew = .ok (.int .i64 2) (w.alloc (.cells #[.int .i64 72, .int .i64 jt, .int .i64 jf, .int .i64 k] 51)).drew := ⟨H0.drew.cells.2.2.2.2.1, (B0.keep (grown_drew (grown_refl _ _))).2.2.2.1, clook_sz H0.drew.iz rfl⟩
  have HW : Hid (∀ (B : Nat) (cv : Value) w', CM w0 w' M KB SB OB UB cv sv gv (l) ss gs → Pcs w' B [pC (17), pW (k), [5, 2], oC (16)] → Calls Tryz.prog 119 #[.pointer (some ⟨M, 0, none⟩), .slice (some ⟨B, 0, none⟩) 4 4] w' fun e w'' => e = .returned (.tuple #[]) ∧ ∃ cv', CM w0 w'' M KB SB OB UB cv' sv gv (l ++ piece (kd 72) k 0 0) ss gs ∧ ∀ B a b c d, BoxS w' M cv gv B a b c d → BoxS w'' M cv' gv B a b c d) := fun B cv w' h1 h2 => cwriteB w0 w' M KB SB OB UB cv sv gv (l) ss gs B 4 [pC (17), pW (k), [5, 2], oC (16)] h1 (by simp) (by simp) (by simp [pW, pC, oC]) (by simp [pW, pC, oC]) (by first | omega | (simp [pW, pC, oC]; omega)) h2
  clear h
  go_enter Tryz.func88, Tryz.ntmps88
  go_wp2
  go_region_held3 (fun w' => w'.cell? ⟨M, 4, none⟩ = some (.map (some SB)) ∧ w'.cell? ⟨w.heap.size, 0, none⟩ = some (.int .i64 72) ∧ (Instr.lookup 94 (.map (some SB)) (.int .i64 72) false).run Tryz.prog w' = .ok (.int .i64 2) w')
    (first | exact HS | assumption)
    ((first | (go_at_call 116; refine (pceN (n := 5) (cpushWord (0) _ (by omega)) rfl).mono ?_; rintro e w1 ⟨a1, b1, rfl, p1, g1⟩; have H1 := H0.drew.keep g1; have B1 := (B0.keep (grown_drew (grown_refl _ _))).keep g1; have ⟨_, _, _, x0, x1, x2, x3⟩ := B1; have S1 : w1.cell? ⟨M, 4, none⟩ = some (.map (some SB)) ∧ w1.cell? ⟨w.heap.size, 0, none⟩ = some (.int .i64 72) ∧ (Instr.lookup 94 (.map (some SB)) (.int .i64 72) false).run Tryz.prog w1 = .ok (.int .i64 2) w1 := ⟨H1.cells.2.2.2.2.1, B1.2.2.2.1, clook_sz H1.iz rfl⟩) | (go_at_call 117; refine (pceN (n := 2) (cload 2 _ (by omega)) rfl).mono ?_; rintro e w2 ⟨a2, b2, rfl, p2, g2⟩; have H2 := H1.keep g2; have B2 := B1.keep g2; have ⟨_, _, _, x0, x1, x2, x3⟩ := B2; have S2 : w2.cell? ⟨M, 4, none⟩ = some (.map (some SB)) ∧ w2.cell? ⟨w.heap.size, 0, none⟩ = some (.int .i64 72) ∧ (Instr.lookup 94 (.map (some SB)) (.int .i64 72) false).run Tryz.prog w2 = .ok (.int .i64 2) w2 := ⟨H2.cells.2.2.2.2.1, B2.2.2.2.1, clook_sz H2.iz rfl⟩)))
  all_goals
    clear S1 S2 HS
    go_wp2_with (go_at_call 118; refine (pceN (n := 2) (cpushCell (17) _ (by omega)) rfl).mono ?_; rintro e w3 ⟨a3, b3, rfl, p3, g3⟩; have H3 := H2.keep g3; have B3 := B2.keep g3; have ⟨_, _, _, x0, x1, x2, x3⟩ := B3; go_wp2_with (go_at_call 116; refine (pceN (n := 5) (cpushWord (k) _ k0) rfl).mono ?_; rintro e w4 ⟨a4, b4, rfl, p4, g4⟩; have H4 := H3.keep g4; have B4 := B3.keep g4; have ⟨_, _, _, x0, x1, x2, x3⟩ := B4; go_wp2_with (go_at_call 120; refine (pceN (n := 2) (cpopCell (16) _ (by omega)) rfl).mono ?_; rintro e w5 ⟨a5, b5, rfl, p5, g5⟩; have H5 := H4.keep g5; have B5 := B4.keep g5; have ⟨_, _, _, x0, x1, x2, x3⟩ := B5; go_wp2_with (go_at_call 119; refine (HW.out _ _ _ (H5.allo _) (pcs_new4 ((p3.keep g4).keep g5) (p4.keep g5) (((p2.keep g3).keep g4).keep g5) p5)).mono ?_; rintro e wz ⟨rfl, cz, Hz, _⟩))))
    go_end0
    exact ⟨rfl, cz, Hz⟩

set_option maxRecDepth 100000 in
set_option maxHeartbeats 1000000 in
theorem cf_80 (w0 w : World) (M KB SB OB UB : Nat) (cv sv gv : Value) (l ss : List Int) (gs : List (Int × Int)) (jt jf k : Int) (h : CM w0 w M KB SB OB UB cv sv gv l ss gs) (hl : l.length ≤ 80000) (uk : U32 k) :
    Calls Tryz.prog 88 #[.pointer (some ⟨M, 0, none⟩), .agg #[.int .i64 80, .int .i64 jt, .int .i64 jf, .int .i64 k]] w fun e w' => e = .returned (.tuple #[]) ∧ ∃ cv', CM w0 w' M KB SB OB UB cv' sv gv (l ++ piece (kd 80) k 0 0) ss gs := by
  obtain ⟨c0, c1, c2, c3, c4, c5, c6⟩ := h.cells
  have lM := h.m.lt
  obtain ⟨k0, k1⟩ := uk
  have H0 := h.allo (.cells #[.int .i64 80, .int .i64 jt, .int .i64 jf, .int .i64 k] 51)
  have B0 := box_new h (.int .i64 80) (.int .i64 jt) (.int .i64 jf) (.int .i64 k) 51
  have HS : (w.alloc (.cells #[.int .i64 80, .int .i64 jt, .int .i64 jf, .int .i64 k] 51)).drew.cell? ⟨M, 4, none⟩ = some (.map (some SB)) ∧ (w.alloc (.cells #[.int .i64 80, .int .i64 jt, .int .i64 jf, .int .i64 k] 51)).drew.cell? ⟨w.heap.size, 0, none⟩ = some (.int .i64 80) ∧ (Instr.lookup 94 (.map (some SB)) (.int .i64 80) false).run Tryz.prog (w.alloc (.cells #[.int .i64 80, .int .i64 jt, .int .i64 jf, .int .i64 k] 51)).drew = .ok (.int .i64 1) (w.alloc (.cells #[.int .i64 80, .int .i64 jt, .int .i64 jf, .int .i64 k] 51)).drew := ⟨H0.drew.cells.2.2.2.2.1, (B0.keep (grown_drew (grown_refl _ _))).2.2.2.1, clook_sz H0.drew.iz rfl⟩
  have HW : Hid (∀ (B : Nat) (cv : Value) w', CM w0 w' M KB SB OB UB cv sv gv (l) ss gs → Pcs w' B [pC (17), pW (k), [5, 1], oC (16)] → Calls Tryz.prog 119 #[.pointer (some ⟨M, 0, none⟩), .slice (some ⟨B, 0, none⟩) 4 4] w' fun e w'' => e = .returned (.tuple #[]) ∧ ∃ cv', CM w0 w'' M KB SB OB UB cv' sv gv (l ++ piece (kd 80) k 0 0) ss gs ∧ ∀ B a b c d, BoxS w' M cv gv B a b c d → BoxS w'' M cv' gv B a b c d) := fun B cv w' h1 h2 => cwriteB w0 w' M KB SB OB UB cv sv gv (l) ss gs B 4 [pC (17), pW (k), [5, 1], oC (16)] h1 (by simp) (by simp) (by simp [pW, pC, oC]) (by simp [pW, pC, oC]) (by first | omega | (simp [pW, pC, oC]; omega)) h2
  clear h
  go_enter Tryz.func88, Tryz.ntmps88
  go_wp2
  go_region_held3 (fun w' => w'.cell? ⟨M, 4, none⟩ = some (.map (some SB)) ∧ w'.cell? ⟨w.heap.size, 0, none⟩ = some (.int .i64 80) ∧ (Instr.lookup 94 (.map (some SB)) (.int .i64 80) false).run Tryz.prog w' = .ok (.int .i64 1) w')
    (first | exact HS | assumption)
    ((first | (go_at_call 116; refine (pceN (n := 5) (cpushWord (0) _ (by omega)) rfl).mono ?_; rintro e w1 ⟨a1, b1, rfl, p1, g1⟩; have H1 := H0.drew.keep g1; have B1 := (B0.keep (grown_drew (grown_refl _ _))).keep g1; have ⟨_, _, _, x0, x1, x2, x3⟩ := B1; have S1 : w1.cell? ⟨M, 4, none⟩ = some (.map (some SB)) ∧ w1.cell? ⟨w.heap.size, 0, none⟩ = some (.int .i64 80) ∧ (Instr.lookup 94 (.map (some SB)) (.int .i64 80) false).run Tryz.prog w1 = .ok (.int .i64 1) w1 := ⟨H1.cells.2.2.2.2.1, B1.2.2.2.1, clook_sz H1.iz rfl⟩) | (go_at_call 117; refine (pceN (n := 2) (cload 1 _ (by omega)) rfl).mono ?_; rintro e w2 ⟨a2, b2, rfl, p2, g2⟩; have H2 := H1.keep g2; have B2 := B1.keep g2; have ⟨_, _, _, x0, x1, x2, x3⟩ := B2; have S2 : w2.cell? ⟨M, 4, none⟩ = some (.map (some SB)) ∧ w2.cell? ⟨w.heap.size, 0, none⟩ = some (.int .i64 80) ∧ (Instr.lookup 94 (.map (some SB)) (.int .i64 80) false).run Tryz.prog w2 = .ok (.int .i64 1) w2 := ⟨H2.cells.2.2.2.2.1, B2.2.2.2.1, clook_sz H2.iz rfl⟩)))
  all_goals
    clear S1 S2 HS
    go_wp2_with (go_at_call 118; refine (pceN (n := 2) (cpushCell (17) _ (by omega)) rfl).mono ?_; rintro e w3 ⟨a3, b3, rfl, p3, g3⟩; have H3 := H2.keep g3; have B3 := B2.keep g3; have ⟨_, _, _, x0, x1, x2, x3⟩ := B3; go_wp2_with (go_at_call 116; refine (pceN (n := 5) (cpushWord (k) _ k0) rfl).mono ?_; rintro e w4 ⟨a4, b4, rfl, p4, g4⟩; have H4 := H3.keep g4; have B4 := B3.keep g4; have ⟨_, _, _, x0, x1, x2, x3⟩ := B4; go_wp2_with (go_at_call 120; refine (pceN (n := 2) (cpopCell (16) _ (by omega)) rfl).mono ?_; rintro e w5 ⟨a5, b5, rfl, p5, g5⟩; have H5 := H4.keep g5; have B5 := B4.keep g5; have ⟨_, _, _, x0, x1, x2, x3⟩ := B5; go_wp2_with (go_at_call 119; refine (HW.out _ _ _ (H5.allo _) (pcs_new4 ((p3.keep g4).keep g5) (p4.keep g5) (((p2.keep g3).keep g4).keep g5) p5)).mono ?_; rintro e wz ⟨rfl, cz, Hz, _⟩))))
    go_end0
    exact ⟨rfl, cz, Hz⟩

set_option maxRecDepth 100000 in
set_option maxHeartbeats 1000000 in
theorem cf_177 (w0 w : World) (M KB SB OB UB : Nat) (cv sv gv : Value) (l ss : List Int) (gs : List (Int × Int)) (jt jf k : Int) (h : CM w0 w M KB SB OB UB cv sv gv l ss gs) (hl : l.length ≤ 80000) (uk : U32 k) :
    Calls Tryz.prog 88 #[.pointer (some ⟨M, 0, none⟩), .agg #[.int .i64 177, .int .i64 jt, .int .i64 jf, .int .i64 k]] w fun e w' => e = .returned (.tuple #[]) ∧ ∃ cv', CM w0 w' M KB SB OB UB cv' sv gv (l ++ piece (kd 177) k 0 0) ss gs := by
  obtain ⟨c0, c1, c2, c3, c4, c5, c6⟩ := h.cells
  have lM := h.m.lt
  obtain ⟨k0, k1⟩ := uk
  have H0 := h.allo (.cells #[.int .i64 177, .int .i64 jt, .int .i64 jf, .int .i64 k] 51)
  have B0 := box_new h (.int .i64 177) (.int .i64 jt) (.int .i64 jf) (.int .i64 k) 51
  have HS : (w.alloc (.cells #[.int .i64 177, .int .i64 jt, .int .i64 jf, .int .i64 k] 51)).drew.cell? ⟨M, 4, none⟩ = some (.map (some SB)) ∧ (w.alloc (.cells #[.int .i64 177, .int .i64 jt, .int .i64 jf, .int .i64 k] 51)).drew.cell? ⟨w.heap.size, 0, none⟩ = some (.int .i64 177) ∧ (Instr.lookup 94 (.map (some SB)) (.int .i64 177) false).run Tryz.prog (w.alloc (.cells #[.int .i64 177, .int .i64 jt, .int .i64 jf, .int .i64 k] 51)).drew = .ok (.int .i64 1) (w.alloc (.cells #[.int .i64 177, .int .i64 jt, .int .i64 jf, .int .i64 k] 51)).drew := ⟨H0.drew.cells.2.2.2.2.1, (B0.keep (grown_drew (grown_refl _ _))).2.2.2.1, clook_sz H0.drew.iz rfl⟩
  have HW : Hid (∀ (B : Nat) (cv : Value) w', CM w0 w' M KB SB OB UB cv sv gv (l) ss gs → Pcs w' B [pW 0, pW k, [5, 1]] → Calls Tryz.prog 119 #[.pointer (some ⟨M, 0, none⟩), .slice (some ⟨B, 0, none⟩) 3 3] w' fun e w'' => e = .returned (.tuple #[]) ∧ ∃ cv', CM w0 w'' M KB SB OB UB cv' sv gv (l ++ (pW 0 ++ (pW k ++ [5, 1]))) ss gs ∧ ∀ B a b c d, BoxS w' M cv gv B a b c d → BoxS w'' M cv' gv B a b c d) := fun B cv w' h1 h2 => cwriteB w0 w' M KB SB OB UB cv sv gv (l) ss gs B 3 [pW 0, pW k, [5, 1]] h1 (by simp) (by simp) (by simp [pW, pC, oC]) (by simp [pW, pC, oC]) (by first | omega | (simp [pW, pC, oC]; omega)) h2
  have HV : Hid (∀ (B : Nat) (cv : Value) w', CM w0 w' M KB SB OB UB cv sv gv (l ++ (pW 0 ++ (pW k ++ [5, 1]))) ss gs → Pcs w' B [pW 15, [4, 6], pW 4, [4, 2], oC 17] → Calls Tryz.prog 119 #[.pointer (some ⟨M, 0, none⟩), .slice (some ⟨B, 0, none⟩) 5 5] w' fun e w'' => e = .returned (.tuple #[]) ∧ ∃ cv', CM w0 w'' M KB SB OB UB cv' sv gv ((l ++ (pW 0 ++ (pW k ++ [5, 1]))) ++ (pW 15 ++ ([4, 6] ++ (pW 4 ++ ([4, 2] ++ oC 17))))) ss gs ∧ ∀ B a b c d, BoxS w' M cv gv B a b c d → BoxS w'' M cv' gv B a b c d) := fun B cv w' h1 h2 => cwriteB w0 w' M KB SB OB UB cv sv gv (l ++ (pW 0 ++ (pW k ++ [5, 1]))) ss gs B 5 [pW 15, [4, 6], pW 4, [4, 2], oC 17] h1 (by simp) (by simp) (by simp [pW, pC, oC]) (by simp [pW, pC, oC]) (by first | omega | (simp [pW, pC, oC]; omega)) h2
  clear h
  go_enter Tryz.func88, Tryz.ntmps88
  go_wp2
  go_region_held3 (fun w' => w'.cell? ⟨M, 4, none⟩ = some (.map (some SB)) ∧ w'.cell? ⟨w.heap.size, 0, none⟩ = some (.int .i64 177) ∧ (Instr.lookup 94 (.map (some SB)) (.int .i64 177) false).run Tryz.prog w' = .ok (.int .i64 1) w')
    (first | exact HS | assumption)
    ((first | (go_at_call 116; refine (pceN (n := 5) (cpushWord (0) _ (by omega)) rfl).mono ?_; rintro e w1 ⟨a1, b1, rfl, p1, g1⟩; have H1 := H0.drew.keep g1; have B1 := (B0.keep (grown_drew (grown_refl _ _))).keep g1; have ⟨_, _, _, x0, x1, x2, x3⟩ := B1; have S1 : w1.cell? ⟨M, 4, none⟩ = some (.map (some SB)) ∧ w1.cell? ⟨w.heap.size, 0, none⟩ = some (.int .i64 177) ∧ (Instr.lookup 94 (.map (some SB)) (.int .i64 177) false).run Tryz.prog w1 = .ok (.int .i64 1) w1 := ⟨H1.cells.2.2.2.2.1, B1.2.2.2.1, clook_sz H1.iz rfl⟩) | (go_at_call 117; refine (pceN (n := 2) (cload 1 _ (by omega)) rfl).mono ?_; rintro e w2 ⟨a2, b2, rfl, p2, g2⟩; have H2 := H1.keep g2; have B2 := B1.keep g2; have ⟨_, _, _, x0, x1, x2, x3⟩ := B2; have S2 : w2.cell? ⟨M, 4, none⟩ = some (.map (some SB)) ∧ w2.cell? ⟨w.heap.size, 0, none⟩ = some (.int .i64 177) ∧ (Instr.lookup 94 (.map (some SB)) (.int .i64 177) false).run Tryz.prog w2 = .ok (.int .i64 1) w2 := ⟨H2.cells.2.2.2.2.1, B2.2.2.2.1, clook_sz H2.iz rfl⟩)))
  all_goals
    clear S1 S2 HS
    go_wp2_with (go_at_call 116; refine (pceN (n := 5) (cpushWord (k) _ k0) rfl).mono ?_; rintro e w3 ⟨a3, b3, rfl, p3, g3⟩; have H3 := H2.keep g3; have B3 := B2.keep g3; have ⟨_, _, _, x0, x1, x2, x3⟩ := B3; go_wp2_with (go_at_call 119; refine (HW.out _ _ _ (H3.allo _) (pcs_new3 ((p1.keep g2).keep g3) p3 (p2.keep g3))).mono ?_; rintro e w4 ⟨rfl, cy, H4, BB⟩; have B4 := BB _ _ _ _ _ (B3.keep (World.grownBy_alloc _ _ none)); have ⟨_, _, _, x0, x1, x2, x3⟩ := B4; go_wp2_with (go_at_call 116; refine (pceN (n := 5) (cpushWord (15) _ (by omega)) rfl).mono ?_; rintro e w5 ⟨a5, b5, rfl, p5, g5⟩; have H5 := H4.keep g5; have B5 := B4.keep g5; have ⟨_, _, _, x0, x1, x2, x3⟩ := B5; go_wp2_with (go_at_call 121; refine (pceN (n := 2) (creckon 6 _ (by omega)) rfl).mono ?_; rintro e w6 ⟨a6, b6, rfl, p6, g6⟩; have H6 := H5.keep g6; have B6 := B5.keep g6; have ⟨_, _, _, x0, x1, x2, x3⟩ := B6; go_wp2_with (go_at_call 116; refine (pceN (n := 5) (cpushWord (4) _ (by omega)) rfl).mono ?_; rintro e w7 ⟨a7, b7, rfl, p7, g7⟩; have H7 := H6.keep g7; have B7 := B6.keep g7; have ⟨_, _, _, x0, x1, x2, x3⟩ := B7; go_wp2_with (go_at_call 121; refine (pceN (n := 2) (creckon 2 _ (by omega)) rfl).mono ?_; rintro e w8 ⟨a8, b8, rfl, p8, g8⟩; have H8 := H7.keep g8; have B8 := B7.keep g8; have ⟨_, _, _, x0, x1, x2, x3⟩ := B8; go_wp2_with (go_at_call 120; refine (pceN (n := 2) (cpopCell (17) _ (by omega)) rfl).mono ?_; rintro e w9 ⟨a9, b9, rfl, p9, g9⟩; have H9 := H8.keep g9; have B9 := B8.keep g9; have ⟨_, _, _, x0, x1, x2, x3⟩ := B9; go_wp2_with (go_at_call 119; refine (HV.out _ _ _ (H9.allo _) (pcs_new5 ((((p5.keep g6).keep g7).keep g8).keep g9) (((p6.keep g7).keep g8).keep g9) ((p7.keep g8).keep g9) (p8.keep g9) p9)).mono ?_; rintro e wz ⟨rfl, cz, Hz, _⟩))))))))
    go_end0
    exact ⟨rfl, cz, by rw [List.append_assoc] at Hz; exact Hz⟩

end Go.Proofs.YtgmimakoliifdaaGreatDoor

namespace Go.Proofs.YtgmimakoliifdaaGreatDoor
open Go.RowKit
set_option linter.unusedVariables false
set_option linter.unusedSimpArgs false

set_option maxRecDepth 100000 in
set_option maxHeartbeats 1000000 in
theorem cf_4 (w0 w : World) (M KB SB OB UB : Nat) (cv sv gv : Value) (l ss : List Int) (gs : List (Int × Int)) (jt jf k : Int) (h : CM w0 w M KB SB OB UB cv sv gv l ss gs) (hl : l.length ≤ 80000) (uk : U32 k) :
    Calls Tryz.prog 91 #[.pointer (some ⟨M, 0, none⟩), .agg #[.int .i64 4, .int .i64 jt, .int .i64 jf, .int .i64 k]] w fun e w' => e = .returned (.tuple #[]) ∧ ∃ cv', CM w0 w' M KB SB OB UB cv' sv gv (l ++ piece (kd 4) k 0 0) ss gs := by
  obtain ⟨c0, c1, c2, c3, c4, c5, c6⟩ := h.cells
  have lM := h.m.lt
  obtain ⟨k0, k1⟩ := uk
  have H0 := h.allo (.cells #[.int .i64 4, .int .i64 jt, .int .i64 jf, .int .i64 k] 51)
  have B0 := box_new h (.int .i64 4) (.int .i64 jt) (.int .i64 jf) (.int .i64 k) 51
  have HW : Hid (∀ (B : Nat) (cv : Value) w', CM w0 w' M KB SB OB UB cv sv gv (l) ss gs → Pcs w' B [pC (16), pW (k), [4, 0], oC (16)] → Calls Tryz.prog 119 #[.pointer (some ⟨M, 0, none⟩), .slice (some ⟨B, 0, none⟩) 4 4] w' fun e w'' => e = .returned (.tuple #[]) ∧ ∃ cv', CM w0 w'' M KB SB OB UB cv' sv gv (l ++ piece (kd 4) k 0 0) ss gs ∧ ∀ B a b c d, BoxS w' M cv gv B a b c d → BoxS w'' M cv' gv B a b c d) := fun B cv w' h1 h2 => cwriteB w0 w' M KB SB OB UB cv sv gv (l) ss gs B 4 [pC (16), pW (k), [4, 0], oC (16)] h1 (by simp) (by simp) (by simp [pW, pC, oC]) (by simp [pW, pC, oC]) (by first | omega | (simp [pW, pC, oC]; omega)) h2
  clear h
  go_enter Tryz.func91, Tryz.ntmps91
  go_wp2_with (go_at_call 116; refine (pceN (n := 5) (cpushWord (k) _ k0) rfl).mono ?_; rintro e w1 ⟨a1, b1, rfl, p1, g1⟩; have H1 := H0.keep g1; have B1 := B0.keep g1; have ⟨_, _, _, x0, x1, x2, x3⟩ := B1)
  have HS : w1.drew.cell? ⟨M, 5, none⟩ = some (.map (some OB)) ∧ w1.drew.cell? ⟨w.heap.size, 0, none⟩ = some (.int .i64 4) ∧ (Instr.lookup 96 (.map (some OB)) (.int .i64 4) false).run Tryz.prog w1.drew = .ok (.int .i64 0) w1.drew := ⟨H1.drew.cells.2.2.2.2.2.1, (B1.keep (grown_drew (grown_refl _ _))).2.2.2.1, clook_op H1.drew.io rfl⟩
  go_region_held3 (fun w' => w'.cell? ⟨M, 5, none⟩ = some (.map (some OB)) ∧ w'.cell? ⟨w.heap.size, 0, none⟩ = some (.int .i64 4) ∧ (Instr.lookup 96 (.map (some OB)) (.int .i64 4) false).run Tryz.prog w' = .ok (.int .i64 0) w')
    (first | exact HS | assumption | exact ⟨(H4.allo _).cells.2.2.2.2.2.1, (B4.keep (World.grownBy_alloc _ _ none)).2.2.2.1, clook_op (H4.allo _).io rfl⟩)
    ((first | (go_at_call 118; refine (pceN (n := 2) (cpushCell (16) _ (by omega)) rfl).mono ?_; rintro e w2 ⟨a2, b2, rfl, p2, g2⟩; have H2 := H1.drew.keep g2; have B2 := (B1.keep (grown_drew (grown_refl _ _))).keep g2; have ⟨_, _, _, x0, x1, x2, x3⟩ := B2; have S2 : w2.cell? ⟨M, 5, none⟩ = some (.map (some OB)) ∧ w2.cell? ⟨w.heap.size, 0, none⟩ = some (.int .i64 4) ∧ (Instr.lookup 96 (.map (some OB)) (.int .i64 4) false).run Tryz.prog w2 = .ok (.int .i64 0) w2 := ⟨H2.cells.2.2.2.2.2.1, B2.2.2.2.1, clook_op H2.io rfl⟩) | (go_at_call 121; refine (pceN (n := 2) (creckon 0 _ (by omega)) rfl).mono ?_; rintro e w3 ⟨a3, b3, rfl, p3, g3⟩; have H3 := H2.keep g3; have B3 := B2.keep g3; have ⟨_, _, _, x0, x1, x2, x3⟩ := B3; have S3 : w3.cell? ⟨M, 5, none⟩ = some (.map (some OB)) ∧ w3.cell? ⟨w.heap.size, 0, none⟩ = some (.int .i64 4) ∧ (Instr.lookup 96 (.map (some OB)) (.int .i64 4) false).run Tryz.prog w3 = .ok (.int .i64 0) w3 := ⟨H3.cells.2.2.2.2.2.1, B3.2.2.2.1, clook_op H3.io rfl⟩) | (go_at_call 120; refine (pceN (n := 2) (cpopCell (16) _ (by omega)) rfl).mono ?_; rintro e w4 ⟨a4, b4, rfl, p4, g4⟩; have H4 := H3.keep g4; have B4 := B3.keep g4; have ⟨_, _, _, x0, x1, x2, x3⟩ := B4; have S4 : w4.cell? ⟨M, 5, none⟩ = some (.map (some OB)) ∧ w4.cell? ⟨w.heap.size, 0, none⟩ = some (.int .i64 4) ∧ (Instr.lookup 96 (.map (some OB)) (.int .i64 4) false).run Tryz.prog w4 = .ok (.int .i64 0) w4 := ⟨H4.cells.2.2.2.2.2.1, B4.2.2.2.1, clook_op H4.io rfl⟩) | (go_at_call 119; refine (HW.out _ _ _ (H4.allo _) (pcs_new4 ((p2.keep g3).keep g4) ((((p1.keep (grown_drew (grown_refl _ _))).keep g2).keep g3).keep g4) (p3.keep g4) p4)).mono ?_; rintro e wz ⟨rfl, cz, Hz, BB⟩; have Bz := BB _ _ _ _ _ (B4.keep (World.grownBy_alloc _ _ none)); have Sz : wz.cell? ⟨M, 5, none⟩ = some (.map (some OB)) ∧ wz.cell? ⟨w.heap.size, 0, none⟩ = some (.int .i64 4) ∧ (Instr.lookup 96 (.map (some OB)) (.int .i64 4) false).run Tryz.prog wz = .ok (.int .i64 0) wz := ⟨Hz.cells.2.2.2.2.2.1, Bz.2.2.2.1, clook_op Hz.io rfl⟩)))
  all_goals go_wp2
  all_goals go_end0
  all_goals exact ⟨rfl, cz, Hz⟩

set_option maxRecDepth 100000 in
set_option maxHeartbeats 1000000 in
theorem cf_20 (w0 w : World) (M KB SB OB UB : Nat) (cv sv gv : Value) (l ss : List Int) (gs : List (Int × Int)) (jt jf k : Int) (h : CM w0 w M KB SB OB UB cv sv gv l ss gs) (hl : l.length ≤ 80000) (uk : U32 k) :
    Calls Tryz.prog 91 #[.pointer (some ⟨M, 0, none⟩), .agg #[.int .i64 20, .int .i64 jt, .int .i64 jf, .int .i64 k]] w fun e w' => e = .returned (.tuple #[]) ∧ ∃ cv', CM w0 w' M KB SB OB UB cv' sv gv (l ++ piece (kd 20) k 0 0) ss gs := by
  obtain ⟨c0, c1, c2, c3, c4, c5, c6⟩ := h.cells
  have lM := h.m.lt
  obtain ⟨k0, k1⟩ := uk
  have H0 := h.allo (.cells #[.int .i64 20, .int .i64 jt, .int .i64 jf, .int .i64 k] 51)
  have B0 := box_new h (.int .i64 20) (.int .i64 jt) (.int .i64 jf) (.int .i64 k) 51
  have HW : Hid (∀ (B : Nat) (cv : Value) w', CM w0 w' M KB SB OB UB cv sv gv (l) ss gs → Pcs w' B [pC (16), pW (k), [4, 1], oC (16)] → Calls Tryz.prog 119 #[.pointer (some ⟨M, 0, none⟩), .slice (some ⟨B, 0, none⟩) 4 4] w' fun e w'' => e = .returned (.tuple #[]) ∧ ∃ cv', CM w0 w'' M KB SB OB UB cv' sv gv (l ++ piece (kd 20) k 0 0) ss gs ∧ ∀ B a b c d, BoxS w' M cv gv B a b c d → BoxS w'' M cv' gv B a b c d) := fun B cv w' h1 h2 => cwriteB w0 w' M KB SB OB UB cv sv gv (l) ss gs B 4 [pC (16), pW (k), [4, 1], oC (16)] h1 (by simp) (by simp) (by simp [pW, pC, oC]) (by simp [pW, pC, oC]) (by first | omega | (simp [pW, pC, oC]; omega)) h2
  clear h
  go_enter Tryz.func91, Tryz.ntmps91
  go_wp2_with (go_at_call 116; refine (pceN (n := 5) (cpushWord (k) _ k0) rfl).mono ?_; rintro e w1 ⟨a1, b1, rfl, p1, g1⟩; have H1 := H0.keep g1; have B1 := B0.keep g1; have ⟨_, _, _, x0, x1, x2, x3⟩ := B1)
  have HS : w1.drew.cell? ⟨M, 5, none⟩ = some (.map (some OB)) ∧ w1.drew.cell? ⟨w.heap.size, 0, none⟩ = some (.int .i64 20) ∧ (Instr.lookup 96 (.map (some OB)) (.int .i64 20) false).run Tryz.prog w1.drew = .ok (.int .i64 1) w1.drew := ⟨H1.drew.cells.2.2.2.2.2.1, (B1.keep (grown_drew (grown_refl _ _))).2.2.2.1, clook_op H1.drew.io rfl⟩
  go_region_held3 (fun w' => w'.cell? ⟨M, 5, none⟩ = some (.map (some OB)) ∧ w'.cell? ⟨w.heap.size, 0, none⟩ = some (.int .i64 20) ∧ (Instr.lookup 96 (.map (some OB)) (.int .i64 20) false).run Tryz.prog w' = .ok (.int .i64 1) w')
    (first | exact HS | assumption | exact ⟨(H4.allo _).cells.2.2.2.2.2.1, (B4.keep (World.grownBy_alloc _ _ none)).2.2.2.1, clook_op (H4.allo _).io rfl⟩)
    ((first | (go_at_call 118; refine (pceN (n := 2) (cpushCell (16) _ (by omega)) rfl).mono ?_; rintro e w2 ⟨a2, b2, rfl, p2, g2⟩; have H2 := H1.drew.keep g2; have B2 := (B1.keep (grown_drew (grown_refl _ _))).keep g2; have ⟨_, _, _, x0, x1, x2, x3⟩ := B2; have S2 : w2.cell? ⟨M, 5, none⟩ = some (.map (some OB)) ∧ w2.cell? ⟨w.heap.size, 0, none⟩ = some (.int .i64 20) ∧ (Instr.lookup 96 (.map (some OB)) (.int .i64 20) false).run Tryz.prog w2 = .ok (.int .i64 1) w2 := ⟨H2.cells.2.2.2.2.2.1, B2.2.2.2.1, clook_op H2.io rfl⟩) | (go_at_call 121; refine (pceN (n := 2) (creckon 1 _ (by omega)) rfl).mono ?_; rintro e w3 ⟨a3, b3, rfl, p3, g3⟩; have H3 := H2.keep g3; have B3 := B2.keep g3; have ⟨_, _, _, x0, x1, x2, x3⟩ := B3; have S3 : w3.cell? ⟨M, 5, none⟩ = some (.map (some OB)) ∧ w3.cell? ⟨w.heap.size, 0, none⟩ = some (.int .i64 20) ∧ (Instr.lookup 96 (.map (some OB)) (.int .i64 20) false).run Tryz.prog w3 = .ok (.int .i64 1) w3 := ⟨H3.cells.2.2.2.2.2.1, B3.2.2.2.1, clook_op H3.io rfl⟩) | (go_at_call 120; refine (pceN (n := 2) (cpopCell (16) _ (by omega)) rfl).mono ?_; rintro e w4 ⟨a4, b4, rfl, p4, g4⟩; have H4 := H3.keep g4; have B4 := B3.keep g4; have ⟨_, _, _, x0, x1, x2, x3⟩ := B4; have S4 : w4.cell? ⟨M, 5, none⟩ = some (.map (some OB)) ∧ w4.cell? ⟨w.heap.size, 0, none⟩ = some (.int .i64 20) ∧ (Instr.lookup 96 (.map (some OB)) (.int .i64 20) false).run Tryz.prog w4 = .ok (.int .i64 1) w4 := ⟨H4.cells.2.2.2.2.2.1, B4.2.2.2.1, clook_op H4.io rfl⟩) | (go_at_call 119; refine (HW.out _ _ _ (H4.allo _) (pcs_new4 ((p2.keep g3).keep g4) ((((p1.keep (grown_drew (grown_refl _ _))).keep g2).keep g3).keep g4) (p3.keep g4) p4)).mono ?_; rintro e wz ⟨rfl, cz, Hz, BB⟩; have Bz := BB _ _ _ _ _ (B4.keep (World.grownBy_alloc _ _ none)); have Sz : wz.cell? ⟨M, 5, none⟩ = some (.map (some OB)) ∧ wz.cell? ⟨w.heap.size, 0, none⟩ = some (.int .i64 20) ∧ (Instr.lookup 96 (.map (some OB)) (.int .i64 20) false).run Tryz.prog wz = .ok (.int .i64 1) wz := ⟨Hz.cells.2.2.2.2.2.1, Bz.2.2.2.1, clook_op Hz.io rfl⟩)))
  all_goals go_wp2
  all_goals go_end0
  all_goals exact ⟨rfl, cz, Hz⟩

set_option maxRecDepth 100000 in
set_option maxHeartbeats 1000000 in
theorem cf_36 (w0 w : World) (M KB SB OB UB : Nat) (cv sv gv : Value) (l ss : List Int) (gs : List (Int × Int)) (jt jf k : Int) (h : CM w0 w M KB SB OB UB cv sv gv l ss gs) (hl : l.length ≤ 80000) (uk : U32 k) :
    Calls Tryz.prog 91 #[.pointer (some ⟨M, 0, none⟩), .agg #[.int .i64 36, .int .i64 jt, .int .i64 jf, .int .i64 k]] w fun e w' => e = .returned (.tuple #[]) ∧ ∃ cv', CM w0 w' M KB SB OB UB cv' sv gv (l ++ piece (kd 36) k 0 0) ss gs := by
  obtain ⟨c0, c1, c2, c3, c4, c5, c6⟩ := h.cells
  have lM := h.m.lt
  obtain ⟨k0, k1⟩ := uk
  have H0 := h.allo (.cells #[.int .i64 36, .int .i64 jt, .int .i64 jf, .int .i64 k] 51)
  have B0 := box_new h (.int .i64 36) (.int .i64 jt) (.int .i64 jf) (.int .i64 k) 51
  have HW : Hid (∀ (B : Nat) (cv : Value) w', CM w0 w' M KB SB OB UB cv sv gv (l) ss gs → Pcs w' B [pC (16), pW (k), [4, 2], oC (16)] → Calls Tryz.prog 119 #[.pointer (some ⟨M, 0, none⟩), .slice (some ⟨B, 0, none⟩) 4 4] w' fun e w'' => e = .returned (.tuple #[]) ∧ ∃ cv', CM w0 w'' M KB SB OB UB cv' sv gv (l ++ piece (kd 36) k 0 0) ss gs ∧ ∀ B a b c d, BoxS w' M cv gv B a b c d → BoxS w'' M cv' gv B a b c d) := fun B cv w' h1 h2 => cwriteB w0 w' M KB SB OB UB cv sv gv (l) ss gs B 4 [pC (16), pW (k), [4, 2], oC (16)] h1 (by simp) (by simp) (by simp [pW, pC, oC]) (by simp [pW, pC, oC]) (by first | omega | (simp [pW, pC, oC]; omega)) h2
  clear h
  go_enter Tryz.func91, Tryz.ntmps91
  go_wp2_with (go_at_call 116; refine (pceN (n := 5) (cpushWord (k) _ k0) rfl).mono ?_; rintro e w1 ⟨a1, b1, rfl, p1, g1⟩; have H1 := H0.keep g1; have B1 := B0.keep g1; have ⟨_, _, _, x0, x1, x2, x3⟩ := B1)
  have HS : w1.drew.cell? ⟨M, 5, none⟩ = some (.map (some OB)) ∧ w1.drew.cell? ⟨w.heap.size, 0, none⟩ = some (.int .i64 36) ∧ (Instr.lookup 96 (.map (some OB)) (.int .i64 36) false).run Tryz.prog w1.drew = .ok (.int .i64 2) w1.drew := ⟨H1.drew.cells.2.2.2.2.2.1, (B1.keep (grown_drew (grown_refl _ _))).2.2.2.1, clook_op H1.drew.io rfl⟩
  go_region_held3 (fun w' => w'.cell? ⟨M, 5, none⟩ = some (.map (some OB)) ∧ w'.cell? ⟨w.heap.size, 0, none⟩ = some (.int .i64 36) ∧ (Instr.lookup 96 (.map (some OB)) (.int .i64 36) false).run Tryz.prog w' = .ok (.int .i64 2) w')
    (first | exact HS | assumption | exact ⟨(H4.allo _).cells.2.2.2.2.2.1, (B4.keep (World.grownBy_alloc _ _ none)).2.2.2.1, clook_op (H4.allo _).io rfl⟩)
    ((first | (go_at_call 118; refine (pceN (n := 2) (cpushCell (16) _ (by omega)) rfl).mono ?_; rintro e w2 ⟨a2, b2, rfl, p2, g2⟩; have H2 := H1.drew.keep g2; have B2 := (B1.keep (grown_drew (grown_refl _ _))).keep g2; have ⟨_, _, _, x0, x1, x2, x3⟩ := B2; have S2 : w2.cell? ⟨M, 5, none⟩ = some (.map (some OB)) ∧ w2.cell? ⟨w.heap.size, 0, none⟩ = some (.int .i64 36) ∧ (Instr.lookup 96 (.map (some OB)) (.int .i64 36) false).run Tryz.prog w2 = .ok (.int .i64 2) w2 := ⟨H2.cells.2.2.2.2.2.1, B2.2.2.2.1, clook_op H2.io rfl⟩) | (go_at_call 121; refine (pceN (n := 2) (creckon 2 _ (by omega)) rfl).mono ?_; rintro e w3 ⟨a3, b3, rfl, p3, g3⟩; have H3 := H2.keep g3; have B3 := B2.keep g3; have ⟨_, _, _, x0, x1, x2, x3⟩ := B3; have S3 : w3.cell? ⟨M, 5, none⟩ = some (.map (some OB)) ∧ w3.cell? ⟨w.heap.size, 0, none⟩ = some (.int .i64 36) ∧ (Instr.lookup 96 (.map (some OB)) (.int .i64 36) false).run Tryz.prog w3 = .ok (.int .i64 2) w3 := ⟨H3.cells.2.2.2.2.2.1, B3.2.2.2.1, clook_op H3.io rfl⟩) | (go_at_call 120; refine (pceN (n := 2) (cpopCell (16) _ (by omega)) rfl).mono ?_; rintro e w4 ⟨a4, b4, rfl, p4, g4⟩; have H4 := H3.keep g4; have B4 := B3.keep g4; have ⟨_, _, _, x0, x1, x2, x3⟩ := B4; have S4 : w4.cell? ⟨M, 5, none⟩ = some (.map (some OB)) ∧ w4.cell? ⟨w.heap.size, 0, none⟩ = some (.int .i64 36) ∧ (Instr.lookup 96 (.map (some OB)) (.int .i64 36) false).run Tryz.prog w4 = .ok (.int .i64 2) w4 := ⟨H4.cells.2.2.2.2.2.1, B4.2.2.2.1, clook_op H4.io rfl⟩) | (go_at_call 119; refine (HW.out _ _ _ (H4.allo _) (pcs_new4 ((p2.keep g3).keep g4) ((((p1.keep (grown_drew (grown_refl _ _))).keep g2).keep g3).keep g4) (p3.keep g4) p4)).mono ?_; rintro e wz ⟨rfl, cz, Hz, BB⟩; have Bz := BB _ _ _ _ _ (B4.keep (World.grownBy_alloc _ _ none)); have Sz : wz.cell? ⟨M, 5, none⟩ = some (.map (some OB)) ∧ wz.cell? ⟨w.heap.size, 0, none⟩ = some (.int .i64 36) ∧ (Instr.lookup 96 (.map (some OB)) (.int .i64 36) false).run Tryz.prog wz = .ok (.int .i64 2) wz := ⟨Hz.cells.2.2.2.2.2.1, Bz.2.2.2.1, clook_op Hz.io rfl⟩)))
  all_goals go_wp2
  all_goals go_end0
  all_goals exact ⟨rfl, cz, Hz⟩

set_option maxRecDepth 100000 in
set_option maxHeartbeats 1000000 in
theorem cf_52 (w0 w : World) (M KB SB OB UB : Nat) (cv sv gv : Value) (l ss : List Int) (gs : List (Int × Int)) (jt jf k : Int) (h : CM w0 w M KB SB OB UB cv sv gv l ss gs) (hl : l.length ≤ 80000) (uk : U32 k) :
    Calls Tryz.prog 91 #[.pointer (some ⟨M, 0, none⟩), .agg #[.int .i64 52, .int .i64 jt, .int .i64 jf, .int .i64 k]] w fun e w' => e = .returned (.tuple #[]) ∧ ∃ cv', CM w0 w' M KB SB OB UB cv' sv gv (l ++ piece (kd 52) k 0 0) ss gs := by
  obtain ⟨c0, c1, c2, c3, c4, c5, c6⟩ := h.cells
  have lM := h.m.lt
  obtain ⟨k0, k1⟩ := uk
  have H0 := h.allo (.cells #[.int .i64 52, .int .i64 jt, .int .i64 jf, .int .i64 k] 51)
  have B0 := box_new h (.int .i64 52) (.int .i64 jt) (.int .i64 jf) (.int .i64 k) 51
  have HW : Hid (∀ (B : Nat) (cv : Value) w', CM w0 w' M KB SB OB UB cv sv gv (l) ss gs → Pcs w' B [pC (16), pW (k), [4, 3], oC (16)] → Calls Tryz.prog 119 #[.pointer (some ⟨M, 0, none⟩), .slice (some ⟨B, 0, none⟩) 4 4] w' fun e w'' => e = .returned (.tuple #[]) ∧ ∃ cv', CM w0 w'' M KB SB OB UB cv' sv gv (l ++ piece (kd 52) k 0 0) ss gs ∧ ∀ B a b c d, BoxS w' M cv gv B a b c d → BoxS w'' M cv' gv B a b c d) := fun B cv w' h1 h2 => cwriteB w0 w' M KB SB OB UB cv sv gv (l) ss gs B 4 [pC (16), pW (k), [4, 3], oC (16)] h1 (by simp) (by simp) (by simp [pW, pC, oC]) (by simp [pW, pC, oC]) (by first | omega | (simp [pW, pC, oC]; omega)) h2
  clear h
  go_enter Tryz.func91, Tryz.ntmps91
  go_wp2_with (go_at_call 116; refine (pceN (n := 5) (cpushWord (k) _ k0) rfl).mono ?_; rintro e w1 ⟨a1, b1, rfl, p1, g1⟩; have H1 := H0.keep g1; have B1 := B0.keep g1; have ⟨_, _, _, x0, x1, x2, x3⟩ := B1)
  have HS : w1.drew.cell? ⟨M, 5, none⟩ = some (.map (some OB)) ∧ w1.drew.cell? ⟨w.heap.size, 0, none⟩ = some (.int .i64 52) ∧ (Instr.lookup 96 (.map (some OB)) (.int .i64 52) false).run Tryz.prog w1.drew = .ok (.int .i64 3) w1.drew := ⟨H1.drew.cells.2.2.2.2.2.1, (B1.keep (grown_drew (grown_refl _ _))).2.2.2.1, clook_op H1.drew.io rfl⟩
  go_region_held3 (fun w' => w'.cell? ⟨M, 5, none⟩ = some (.map (some OB)) ∧ w'.cell? ⟨w.heap.size, 0, none⟩ = some (.int .i64 52) ∧ (Instr.lookup 96 (.map (some OB)) (.int .i64 52) false).run Tryz.prog w' = .ok (.int .i64 3) w')
    (first | exact HS | assumption | exact ⟨(H4.allo _).cells.2.2.2.2.2.1, (B4.keep (World.grownBy_alloc _ _ none)).2.2.2.1, clook_op (H4.allo _).io rfl⟩)
    ((first | (go_at_call 118; refine (pceN (n := 2) (cpushCell (16) _ (by omega)) rfl).mono ?_; rintro e w2 ⟨a2, b2, rfl, p2, g2⟩; have H2 := H1.drew.keep g2; have B2 := (B1.keep (grown_drew (grown_refl _ _))).keep g2; have ⟨_, _, _, x0, x1, x2, x3⟩ := B2; have S2 : w2.cell? ⟨M, 5, none⟩ = some (.map (some OB)) ∧ w2.cell? ⟨w.heap.size, 0, none⟩ = some (.int .i64 52) ∧ (Instr.lookup 96 (.map (some OB)) (.int .i64 52) false).run Tryz.prog w2 = .ok (.int .i64 3) w2 := ⟨H2.cells.2.2.2.2.2.1, B2.2.2.2.1, clook_op H2.io rfl⟩) | (go_at_call 121; refine (pceN (n := 2) (creckon 3 _ (by omega)) rfl).mono ?_; rintro e w3 ⟨a3, b3, rfl, p3, g3⟩; have H3 := H2.keep g3; have B3 := B2.keep g3; have ⟨_, _, _, x0, x1, x2, x3⟩ := B3; have S3 : w3.cell? ⟨M, 5, none⟩ = some (.map (some OB)) ∧ w3.cell? ⟨w.heap.size, 0, none⟩ = some (.int .i64 52) ∧ (Instr.lookup 96 (.map (some OB)) (.int .i64 52) false).run Tryz.prog w3 = .ok (.int .i64 3) w3 := ⟨H3.cells.2.2.2.2.2.1, B3.2.2.2.1, clook_op H3.io rfl⟩) | (go_at_call 120; refine (pceN (n := 2) (cpopCell (16) _ (by omega)) rfl).mono ?_; rintro e w4 ⟨a4, b4, rfl, p4, g4⟩; have H4 := H3.keep g4; have B4 := B3.keep g4; have ⟨_, _, _, x0, x1, x2, x3⟩ := B4; have S4 : w4.cell? ⟨M, 5, none⟩ = some (.map (some OB)) ∧ w4.cell? ⟨w.heap.size, 0, none⟩ = some (.int .i64 52) ∧ (Instr.lookup 96 (.map (some OB)) (.int .i64 52) false).run Tryz.prog w4 = .ok (.int .i64 3) w4 := ⟨H4.cells.2.2.2.2.2.1, B4.2.2.2.1, clook_op H4.io rfl⟩) | (go_at_call 119; refine (HW.out _ _ _ (H4.allo _) (pcs_new4 ((p2.keep g3).keep g4) ((((p1.keep (grown_drew (grown_refl _ _))).keep g2).keep g3).keep g4) (p3.keep g4) p4)).mono ?_; rintro e wz ⟨rfl, cz, Hz, BB⟩; have Bz := BB _ _ _ _ _ (B4.keep (World.grownBy_alloc _ _ none)); have Sz : wz.cell? ⟨M, 5, none⟩ = some (.map (some OB)) ∧ wz.cell? ⟨w.heap.size, 0, none⟩ = some (.int .i64 52) ∧ (Instr.lookup 96 (.map (some OB)) (.int .i64 52) false).run Tryz.prog wz = .ok (.int .i64 3) wz := ⟨Hz.cells.2.2.2.2.2.1, Bz.2.2.2.1, clook_op Hz.io rfl⟩)))
  all_goals go_wp2
  all_goals go_end0
  all_goals exact ⟨rfl, cz, Hz⟩

set_option maxRecDepth 100000 in
set_option maxHeartbeats 1000000 in
theorem cf_148 (w0 w : World) (M KB SB OB UB : Nat) (cv sv gv : Value) (l ss : List Int) (gs : List (Int × Int)) (jt jf k : Int) (h : CM w0 w M KB SB OB UB cv sv gv l ss gs) (hl : l.length ≤ 80000) (uk : U32 k) :
    Calls Tryz.prog 91 #[.pointer (some ⟨M, 0, none⟩), .agg #[.int .i64 148, .int .i64 jt, .int .i64 jf, .int .i64 k]] w fun e w' => e = .returned (.tuple #[]) ∧ ∃ cv', CM w0 w' M KB SB OB UB cv' sv gv (l ++ piece (kd 148) k 0 0) ss gs := by
  obtain ⟨c0, c1, c2, c3, c4, c5, c6⟩ := h.cells
  have lM := h.m.lt
  obtain ⟨k0, k1⟩ := uk
  have H0 := h.allo (.cells #[.int .i64 148, .int .i64 jt, .int .i64 jf, .int .i64 k] 51)
  have B0 := box_new h (.int .i64 148) (.int .i64 jt) (.int .i64 jf) (.int .i64 k) 51
  have HW : Hid (∀ (B : Nat) (cv : Value) w', CM w0 w' M KB SB OB UB cv sv gv (l) ss gs → Pcs w' B [pC (16), pW (k), [4, 4], oC (16)] → Calls Tryz.prog 119 #[.pointer (some ⟨M, 0, none⟩), .slice (some ⟨B, 0, none⟩) 4 4] w' fun e w'' => e = .returned (.tuple #[]) ∧ ∃ cv', CM w0 w'' M KB SB OB UB cv' sv gv (l ++ piece (kd 148) k 0 0) ss gs ∧ ∀ B a b c d, BoxS w' M cv gv B a b c d → BoxS w'' M cv' gv B a b c d) := fun B cv w' h1 h2 => cwriteB w0 w' M KB SB OB UB cv sv gv (l) ss gs B 4 [pC (16), pW (k), [4, 4], oC (16)] h1 (by simp) (by simp) (by simp [pW, pC, oC]) (by simp [pW, pC, oC]) (by first | omega | (simp [pW, pC, oC]; omega)) h2
  clear h
  go_enter Tryz.func91, Tryz.ntmps91
  go_wp2_with (go_at_call 116; refine (pceN (n := 5) (cpushWord (k) _ k0) rfl).mono ?_; rintro e w1 ⟨a1, b1, rfl, p1, g1⟩; have H1 := H0.keep g1; have B1 := B0.keep g1; have ⟨_, _, _, x0, x1, x2, x3⟩ := B1)
  have HS : w1.drew.cell? ⟨M, 5, none⟩ = some (.map (some OB)) ∧ w1.drew.cell? ⟨w.heap.size, 0, none⟩ = some (.int .i64 148) ∧ (Instr.lookup 96 (.map (some OB)) (.int .i64 148) false).run Tryz.prog w1.drew = .ok (.int .i64 4) w1.drew := ⟨H1.drew.cells.2.2.2.2.2.1, (B1.keep (grown_drew (grown_refl _ _))).2.2.2.1, clook_op H1.drew.io rfl⟩
  go_region_held3 (fun w' => w'.cell? ⟨M, 5, none⟩ = some (.map (some OB)) ∧ w'.cell? ⟨w.heap.size, 0, none⟩ = some (.int .i64 148) ∧ (Instr.lookup 96 (.map (some OB)) (.int .i64 148) false).run Tryz.prog w' = .ok (.int .i64 4) w')
    (first | exact HS | assumption | exact ⟨(H4.allo _).cells.2.2.2.2.2.1, (B4.keep (World.grownBy_alloc _ _ none)).2.2.2.1, clook_op (H4.allo _).io rfl⟩)
    ((first | (go_at_call 118; refine (pceN (n := 2) (cpushCell (16) _ (by omega)) rfl).mono ?_; rintro e w2 ⟨a2, b2, rfl, p2, g2⟩; have H2 := H1.drew.keep g2; have B2 := (B1.keep (grown_drew (grown_refl _ _))).keep g2; have ⟨_, _, _, x0, x1, x2, x3⟩ := B2; have S2 : w2.cell? ⟨M, 5, none⟩ = some (.map (some OB)) ∧ w2.cell? ⟨w.heap.size, 0, none⟩ = some (.int .i64 148) ∧ (Instr.lookup 96 (.map (some OB)) (.int .i64 148) false).run Tryz.prog w2 = .ok (.int .i64 4) w2 := ⟨H2.cells.2.2.2.2.2.1, B2.2.2.2.1, clook_op H2.io rfl⟩) | (go_at_call 121; refine (pceN (n := 2) (creckon 4 _ (by omega)) rfl).mono ?_; rintro e w3 ⟨a3, b3, rfl, p3, g3⟩; have H3 := H2.keep g3; have B3 := B2.keep g3; have ⟨_, _, _, x0, x1, x2, x3⟩ := B3; have S3 : w3.cell? ⟨M, 5, none⟩ = some (.map (some OB)) ∧ w3.cell? ⟨w.heap.size, 0, none⟩ = some (.int .i64 148) ∧ (Instr.lookup 96 (.map (some OB)) (.int .i64 148) false).run Tryz.prog w3 = .ok (.int .i64 4) w3 := ⟨H3.cells.2.2.2.2.2.1, B3.2.2.2.1, clook_op H3.io rfl⟩) | (go_at_call 120; refine (pceN (n := 2) (cpopCell (16) _ (by omega)) rfl).mono ?_; rintro e w4 ⟨a4, b4, rfl, p4, g4⟩; have H4 := H3.keep g4; have B4 := B3.keep g4; have ⟨_, _, _, x0, x1, x2, x3⟩ := B4; have S4 : w4.cell? ⟨M, 5, none⟩ = some (.map (some OB)) ∧ w4.cell? ⟨w.heap.size, 0, none⟩ = some (.int .i64 148) ∧ (Instr.lookup 96 (.map (some OB)) (.int .i64 148) false).run Tryz.prog w4 = .ok (.int .i64 4) w4 := ⟨H4.cells.2.2.2.2.2.1, B4.2.2.2.1, clook_op H4.io rfl⟩) | (go_at_call 119; refine (HW.out _ _ _ (H4.allo _) (pcs_new4 ((p2.keep g3).keep g4) ((((p1.keep (grown_drew (grown_refl _ _))).keep g2).keep g3).keep g4) (p3.keep g4) p4)).mono ?_; rintro e wz ⟨rfl, cz, Hz, BB⟩; have Bz := BB _ _ _ _ _ (B4.keep (World.grownBy_alloc _ _ none)); have Sz : wz.cell? ⟨M, 5, none⟩ = some (.map (some OB)) ∧ wz.cell? ⟨w.heap.size, 0, none⟩ = some (.int .i64 148) ∧ (Instr.lookup 96 (.map (some OB)) (.int .i64 148) false).run Tryz.prog wz = .ok (.int .i64 4) wz := ⟨Hz.cells.2.2.2.2.2.1, Bz.2.2.2.1, clook_op Hz.io rfl⟩)))
  all_goals go_wp2
  all_goals go_end0
  all_goals exact ⟨rfl, cz, Hz⟩

end Go.Proofs.YtgmimakoliifdaaGreatDoor
