import Derived.OpenShut
import Derived.Test.YthbcfepbkkbjiaaGreatDoorJKO
namespace Go.Proofs.YthbcfepbkkbjiaaGreatDoor
open Go.RowKit
set_option linter.unusedVariables false
set_option linter.unusedSimpArgs false
theorem u32_of {c : Int} (h : (Lit.int .u32 c).wf = true) : U32 c := by
  have := bounds_u32 h
  exact ⟨this.1, by omega⟩
theorem rcode_oct {x y : Int} {k : Nat} (hk : k < 10) : Oct (fun j => (rcode x y k).getD j 0) := fun j => by
  have h : j < 13 ∨ 13 ≤ j := by omega
  rcases h with h | h
  · match j, h with
    | 0, _ => simp [rcode, pW]
    | 1, _ => simp [rcode, pW]; omega
    | 2, _ => simp [rcode, pW]; omega
    | 3, _ => simp [rcode, pW]; omega
    | 4, _ => simp [rcode, pW]; omega
    | 5, _ => simp [rcode, pW]
    | 6, _ => simp [rcode, pW]; omega
    | 7, _ => simp [rcode, pW]; omega
    | 8, _ => simp [rcode, pW]; omega
    | 9, _ => simp [rcode, pW]; omega
    | 10, _ => simp [rcode, pW]
    | 11, _ => simp [rcode, pW]; omega
    | 12, _ => simp [rcode, pW]
  · have : (rcode x y k).getD j 0 = 0 := by
      rw [List.getD_eq_getElem?_getD, List.getElem?_eq_none (by simp [rcode, pW]; omega)]; rfl
    show 0 ≤ (rcode x y k).getD j 0 ∧ (rcode x y k).getD j 0 ≤ 255
    rw [this]; decide
theorem rcode_src {x y : Int} {k : Nat} (hx : U32 x) (hy : U32 y) (w : World) (e : TypeId) : Src (w.alloc (.cells #[.int .u8 1, .int .u8 (x / 16777216), .int .u8 (x / 65536 % 256), .int .u8 (x / 256 % 256), .int .u8 (x % 256), .int .u8 1, .int .u8 (y / 16777216), .int .u8 (y / 65536 % 256), .int .u8 (y / 256 % 256), .int .u8 (y % 256), .int .u8 4, .int .u8 (k : Int), .int .u8 9] e)) .u8 (some ⟨w.heap.size, 0, none⟩) 13 (fun j => (rcode x y k).getD j 0) := fun _ => ⟨w.heap.size, 0, rfl, fun j hj => by
  obtain ⟨x0, x1⟩ := hx
  obtain ⟨y0, y1⟩ := hy
  have ex : x / 16777216 % 256 = x / 16777216 := by omega
  have ey : y / 16777216 % 256 = y / 16777216 := by omega
  rw [Nat.zero_add, World.cell?_alloc_new]
  match j, hj with
  | 0, _ => rfl
  | 1, _ => show some _ = some (Value.int .u8 (x / 16777216 % 256)); rw [ex]; rfl
  | 2, _ => rfl
  | 3, _ => rfl
  | 4, _ => rfl
  | 5, _ => rfl
  | 6, _ => show some _ = some (Value.int .u8 (y / 16777216 % 256)); rw [ey]; rfl
  | 7, _ => rfl
  | 8, _ => rfl
  | 9, _ => rfl
  | 10, _ => rfl
  | 11, _ => rfl
  | 12, _ => rfl⟩
set_option maxRecDepth 100000 in
theorem krc_exec {x y : Int} {k : Nat} (hk : k < 10) (hx : U32 x) (hy : U32 y) (w : World) : Calls Tryz.prog 33 #[.slice (some ⟨w.heap.size, 0, none⟩) 13 13, .slice none 0 0] (w.alloc (.cells #[.int .u8 1, .int .u8 (x / 16777216), .int .u8 (x / 65536 % 256), .int .u8 (x / 256 % 256), .int .u8 (x % 256), .int .u8 1, .int .u8 (y / 16777216), .int .u8 (y / 65536 % 256), .int .u8 (y / 256 % 256), .int .u8 (y % 256), .int .u8 4, .int .u8 (k : Int), .int .u8 9] 5)) fun e w' => e = .returned (.tuple #[.int .i64 (opr k x y), .int .i64 ((if div0 k y = true then 3 else 4 : Nat) : Int), .int .i64 0]) ∧ w.grownBy w' none := by
  have := gexec_any (some ⟨w.heap.size, 0, none⟩) 13 13 (fun j => (rcode x y k).getD j 0) none 0 0 (fun _ => 0) _ (by omega) (by omega) (by omega) (by omega) (rcode_oct hk) (fun _ => by show (0 : Int) ≤ 0 ∧ (0 : Int) ≤ 255; decide) (rcode_src (k := k) hx hy w 5) (fun h => by omega)
  rw [rcode_exec hk hx hy (fun r hr => by simp)] at this
  exact this.mono fun e w' ⟨he, hg⟩ => ⟨he, grown_trans (World.grownBy_alloc w _ none) hg⟩
set_option maxRecDepth 100000 in
set_option maxHeartbeats 2000000 in
theorem law_reckons (o x y : Int) (tb : TypeId) (pb : Value) (w : World) (ho : I64 o) (hx : U32 x) (hy : U32 y) (hL : Laid w tb pb) :
    Calls Tryz.prog 7 #[.int .i64 o, .int .u32 x, .int .u32 y] w fun e w' => e = .returned (.bool true) ∧ w.grownBy w' none := by
  have HL : Hid (Laid w tb pb) := hL
  have HX : Hid (U32 x) := hx
  have HY : Hid (U32 y) := hy
  clear hL
  obtain ⟨x0, x1⟩ := hx
  obtain ⟨y0, y1⟩ := hy
  go_enter Tryz.func7, Tryz.ntmps7
  go_wp2_with (first | (go_at_call 26; refine (kknown tb pb w HL.out).mono ?_; rintro e w1 ⟨rfl, hg1⟩) | (go_at_call 30; refine (kpick _ _ _ ho ?_ ?_).mono ?_; omega; omega; rintro e w4 ⟨⟨k, rfl, hk⟩, rfl⟩))
  have hk' : k < 10 := by omega
  obtain ⟨cl, hK1, hcl⟩ := kd_sum k hk'
  obtain ⟨cx, hK2, hcx⟩ := kd_sumx k hk'
  have HK1 : Hid (kd (sums k) = ⟨sums k, 8, 0, false, (k : Int), cl⟩) := hK1
  have HK2 : Hid (kd (sums k + 8) = ⟨sums k + 8, 8, 0, true, (k : Int), cx⟩) := hK2
  have hsb := sums_bd k
  have cC : (w4.alloc (.cells #[.int .i64 4, .int .i64 20, .int .i64 36, .int .i64 52, .int .i64 148, .int .i64 68, .int .i64 84, .int .i64 164, .int .i64 100, .int .i64 116] 3)).cell? ⟨w4.heap.size, k, none⟩ = some (.int .i64 (sums k)) := sums_cell (e := 3) (heap_top _ _ _ rfl) k hk'
  have A5 := World.grownBy_alloc w4 (.cells #[.int .i64 4, .int .i64 20, .int .i64 36, .int .i64 52, .int .i64 148, .int .i64 68, .int .i64 84, .int .i64 164, .int .i64 100, .int .i64 116] 3) none
  have hz5 : w4.heap.size < (w4.alloc (.cells #[.int .i64 4, .int .i64 20, .int .i64 36, .int .i64 52, .int .i64 148, .int .i64 68, .int .i64 84, .int .i64 164, .int .i64 100, .int .i64 116] 3)).heap.size := by simp
  generalize w4.alloc (.cells #[.int .i64 4, .int .i64 20, .int .i64 36, .int .i64 52, .int .i64 148, .int .i64 68, .int .i64 84, .int .i64 164, .int .i64 100, .int .i64 116] 3) = w5 at *
  have G5 := grown_trans hg1 A5
  clear hg1 A5 hK1 hK2
  generalize hCB : w4.heap.size = CB at *
  obtain ⟨W, hW⟩ : ∃ W, Hid (W = opr k x y) := ⟨_, rfl⟩
  obtain ⟨W0, W1⟩ : U32 W := by rw [hW.out]; exact opr_u32 HX.out HY.out
  generalize hC : sums k = C at *
  have c1 : ∀ o1, (w5.alloc o1).cell? ⟨CB, k, none⟩ = some (.int .i64 C) := fun o1 => (World.grownBy_alloc w5 o1 none).cell cC (by simp)
  have c2 : ∀ o1 o2, ((w5.alloc o1).alloc o2).cell? ⟨CB, k, none⟩ = some (.int .i64 C) := fun o1 o2 => (World.grownBy_alloc _ o2 none).cell (c1 o1) (by simp)
  by_cases hd : div0 (k : Int) y = true
  · have HR : Hid (∀ w', Calls Tryz.prog 31 #[.int .i64 (k : Int), .int .u32 x, .int .u32 y] w' fun e w'' => e = .returned (.tuple #[.int .u32 W, .bool false]) ∧ w'' = w') := fun w' => by
      have := kreckoned k x y w' hk' HX.out HY.out
      rw [hd, ← hW.out] at this
      exact this
    have hW0 : W = 0 := by rw [hW.out]; unfold opr; rw [if_pos hd]
    go_wp2_with (first | (go_at_call 31; refine (HR.out _).mono ?_; rintro e w6 ⟨rfl, rfl⟩) | (go_at_call 32; refine (kfilter4 _ _ _ _ _ _ _ _ _ _ _ _ _ _ _ _ _).mono ?_; rintro e w7 ⟨⟨f1, cap1, rfl, hc1, hs1⟩, hg7⟩; have G7 := grown_trans G5 hg7; have d1 : ∀ o1, (w7.alloc o1).cell? ⟨CB, k, none⟩ = some (.int .i64 C) := (fun o1 => (World.grownBy_alloc w7 o1 none).cell (hg7.cell cC (by simp)) (by simp)); clear c1 c2 cC; go_wp2_with (go_at_call 32; refine (kfilter3 _ _ _ _ _ _ _ _ _ _ _ _ _).mono ?_; rintro e w8 ⟨⟨f2, cap2, rfl, hc2, hs2⟩, hg8⟩; have G8 := grown_trans G7 hg8; clear d1)))
    have HE : Hid (Calls Tryz.prog 33 #[.slice (some ⟨w8.heap.size, 0, none⟩) 13 13, .slice none 0 0] (w8.alloc (.cells #[.int .u8 1, .int .u8 (x / 16777216), .int .u8 (x / 65536 % 256), .int .u8 (x / 256 % 256), .int .u8 (x % 256), .int .u8 1, .int .u8 (y / 16777216), .int .u8 (y / 65536 % 256), .int .u8 (y / 256 % 256), .int .u8 (y % 256), .int .u8 4, .int .u8 (k : Int), .int .u8 9] 5)) fun e w' => e = .returned (.tuple #[.int .i64 0, .int .i64 3, .int .i64 0]) ∧ w8.grownBy w' none) := by
      have := krc_exec hk' HX.out HY.out w8
      rw [← hW.out, hW0, if_pos hd] at this
      exact this
    have uC : 0 ≤ C ∧ C < 65536 := by omega
    have uX : 0 ≤ C + 8 ∧ C + 8 < 65536 := by omega
    have HV : Hid (∀ w', w7.grownBy w' none → Ver f1 32 cap1 none 0 0 w' 0) := fun w' hg' => ver_of (j := 4) (u := xq (C + 8) x y) (g := fun _ => 0) (by decide) (by decide) rfl hc1 (by decide) (by decide) (fun _ => by show (0 : Int) ≤ 0 ∧ (0 : Int) ≤ 255; decide) (Src.keep hs1 hg') (fun h => by omega) HL.out (grown_trans G7 hg') (xq_chk HK2.out hcx uX HX.out HY.out) (by rw [xq_run HK2.out uX HX.out HY.out, ← hW.out, hW0])
    have HC : Hid (∀ w', w8.grownBy w' none → Calls Tryz.prog 35 #[.slice (some ⟨f2, 0, none⟩) 24 cap2] w' fun e w'' => e = .returned (.tuple #[.int .i64 3, .int .i64 1]) ∧ w'.grownBy w'' none) := fun w' hg' => by
      refine (check_any _ 24 cap2 (encs (yq C x y)) tb pb w' (by unfold maxLen; omega) hc2 (encs_oct _) (Src.keep hs2 hg') (HL.out.keep (grown_trans G8 hg'))).mono ?_
      rintro e w'' ⟨⟨E, p, rfl, hE⟩, hg''⟩
      obtain ⟨rfl, rfl⟩ := hE.one ((yq_chk HK1.out hcl uC HX.out HY.out).1 ((div0_iff _ _).1 hd))
      exact ⟨rfl, hg''⟩
    clear hs1 hs2 HR
    go_wp2_with (first | (go_at_call 33; refine HE.out.mono ?_; rintro e w9 ⟨rfl, hg9⟩) | (go_at_call 34; refine (HV.out _ (grown_trans hg8 hg9)).mono ?_; rintro e w10 ⟨rfl, hg10⟩) | (go_at_call 35; refine (HC.out _ (grown_trans hg9 hg10)).mono ?_; rintro e w11 ⟨rfl, hg11⟩))
    go_ret
    exact ⟨rfl, grown_trans G8 (grown_trans (grown_trans hg9 hg10) hg11)⟩
  · have hd' : div0 (k : Int) y = false := by simpa using hd
    have hdn : ¬ (((k : Int) = 3 ∨ (k : Int) = 4) ∧ y = 0) := fun h => hd ((div0_iff _ _).2 h)
    have HR : Hid (∀ w', Calls Tryz.prog 31 #[.int .i64 (k : Int), .int .u32 x, .int .u32 y] w' fun e w'' => e = .returned (.tuple #[.int .u32 W, .bool true]) ∧ w'' = w') := fun w' => by
      have := kreckoned k x y w' hk' HX.out HY.out
      rw [hd', ← hW.out] at this
      exact this
    go_wp2_with (first | (go_at_call 31; refine (HR.out _).mono ?_; rintro e w6 ⟨rfl, rfl⟩) | (go_at_call 32; refine (kfilter4 _ _ _ _ _ _ _ _ _ _ _ _ _ _ _ _ _).mono ?_; rintro e w7 ⟨⟨f1, cap1, rfl, hc1, hs1⟩, hg7⟩; have G7 := grown_trans G5 hg7; have d1 : ∀ o1, (w7.alloc o1).cell? ⟨CB, k, none⟩ = some (.int .i64 C) := (fun o1 => (World.grownBy_alloc w7 o1 none).cell (hg7.cell cC (by simp)) (by simp)); clear c1 c2 cC; go_wp2_with (go_at_call 32; refine (kfilter3 _ _ _ _ _ _ _ _ _ _ _ _ _).mono ?_; rintro e w8 ⟨⟨f2, cap2, rfl, hc2, hs2⟩, hg8⟩; have G8 := grown_trans G7 hg8; clear d1)))
    have HE : Hid (Calls Tryz.prog 33 #[.slice (some ⟨w8.heap.size, 0, none⟩) 13 13, .slice none 0 0] (w8.alloc (.cells #[.int .u8 1, .int .u8 (x / 16777216), .int .u8 (x / 65536 % 256), .int .u8 (x / 256 % 256), .int .u8 (x % 256), .int .u8 1, .int .u8 (y / 16777216), .int .u8 (y / 65536 % 256), .int .u8 (y / 256 % 256), .int .u8 (y % 256), .int .u8 4, .int .u8 (k : Int), .int .u8 9] 5)) fun e w' => e = .returned (.tuple #[.int .i64 W, .int .i64 4, .int .i64 0]) ∧ w8.grownBy w' none) := by
      have := krc_exec hk' HX.out HY.out w8
      rw [← hW.out, if_neg hd] at this
      exact this
    have uC : 0 ≤ C ∧ C < 65536 := by omega
    have uX : 0 ≤ C + 8 ∧ C + 8 < 65536 := by omega
    have HV : Hid (∀ w', w7.grownBy w' none → Ver f1 32 cap1 none 0 0 w' W) := fun w' hg' => ver_of (j := 4) (u := xq (C + 8) x y) (g := fun _ => 0) (by decide) (by decide) rfl hc1 (by decide) (by decide) (fun _ => by show (0 : Int) ≤ 0 ∧ (0 : Int) ≤ 255; decide) (Src.keep hs1 hg') (fun h => by omega) HL.out (grown_trans G7 hg') (xq_chk HK2.out hcx uX HX.out HY.out) (by rw [xq_run HK2.out uX HX.out HY.out, ← hW.out])
    by_cases h8 : 8 ≤ k ∧ 31 < y
    · obtain ⟨h8, h31⟩ := h8
      have t8 : (8 : Int) ≤ (k : Int) := by omega
      have HC : Hid (∀ w', w8.grownBy w' none → Calls Tryz.prog 35 #[.slice (some ⟨f2, 0, none⟩) 24 cap2] w' fun e w'' => e = .returned (.tuple #[.int .i64 4, .int .i64 1]) ∧ w'.grownBy w'' none) := fun w' hg' => by
        refine (check_any _ 24 cap2 (encs (yq C x y)) tb pb w' (by unfold maxLen; omega) hc2 (encs_oct _) (Src.keep hs2 hg') (HL.out.keep (grown_trans G8 hg'))).mono ?_
        rintro e w'' ⟨⟨E, p, rfl, hE⟩, hg''⟩
        obtain ⟨rfl, rfl⟩ := hE.one ((yq_chk HK1.out hcl uC HX.out HY.out).2.1 hdn ⟨t8, h31⟩)
        exact ⟨rfl, hg''⟩
      clear hs1 hs2 HR
      go_wp2_with (first | (go_at_call 33; refine HE.out.mono ?_; rintro e w9 ⟨rfl, hg9⟩) | (go_at_call 34; refine (HV.out _ (grown_trans hg8 hg9)).mono ?_; rintro e w10 ⟨rfl, hg10⟩) | (go_at_call 35; refine (HC.out _ (grown_trans hg9 hg10)).mono ?_; rintro e w11 ⟨rfl, hg11⟩))
      go_ret
      exact ⟨rfl, grown_trans G8 (grown_trans (grown_trans hg9 hg10) hg11)⟩
    · have h8' : ¬ (8 ≤ (k : Int) ∧ 31 < y) := fun h => h8 ⟨by omega, h.2⟩
      have HC : Hid (∀ w', w8.grownBy w' none → Calls Tryz.prog 35 #[.slice (some ⟨f2, 0, none⟩) 24 cap2] w' fun e w'' => e = .returned (.tuple #[.int .i64 0, .int .i64 0]) ∧ w'.grownBy w'' none) := fun w' hg' => by
        refine (check_any _ 24 cap2 (encs (yq C x y)) tb pb w' (by unfold maxLen; omega) hc2 (encs_oct _) (Src.keep hs2 hg') (HL.out.keep (grown_trans G8 hg'))).mono ?_
        rintro e w'' ⟨⟨E, p, rfl, hE⟩, hg''⟩
        obtain ⟨rfl, rfl⟩ := hE.one ((yq_chk HK1.out hcl uC HX.out HY.out).2.2 hdn h8')
        exact ⟨rfl, hg''⟩
      have HVk : Hid (∀ w', w8.grownBy w' none → Ver f2 24 cap2 none 0 0 w' W) := fun w' hg' => ver_of (j := 3) (u := yq C x y) (g := fun _ => 0) (by decide) (by decide) rfl hc2 (by decide) (by decide) (fun _ => by show (0 : Int) ≤ 0 ∧ (0 : Int) ≤ 255; decide) (Src.keep hs2 hg') (fun h => by omega) HL.out (grown_trans G8 hg') ((yq_chk HK1.out hcl uC HX.out HY.out).2.2 hdn h8') (by rw [yq_run HK1.out uC HX.out HY.out, ← hW.out])
      clear hs1 hs2 HR
      by_cases h8k : 8 ≤ k
      · have t8 : (8 : Int) ≤ (k : Int) := by omega
        have t31 : ¬ (31 < y) := fun h => h8 ⟨h8k, h⟩
        go_wp2_with (first | (go_at_call 33; refine HE.out.mono ?_; rintro e w9 ⟨rfl, hg9⟩) | (go_at_call 34; refine (HV.out _ (grown_trans hg8 hg9)).mono ?_; rintro e w10 ⟨rfl, hg10⟩; clear HV; go_wp2_with (first | (go_at_call 35; refine (HC.out _ (grown_trans hg9 hg10)).mono ?_; rintro e w11 ⟨rfl, hg11⟩) | (go_at_call 34; refine (HVk.out _ (grown_trans (grown_trans hg9 hg10) hg11)).mono ?_; rintro e w12 ⟨rfl, hg12⟩))))
        go_ret
        exact ⟨rfl, grown_trans G8 (grown_trans (grown_trans (grown_trans hg9 hg10) hg11) hg12)⟩
      · have t8 : ¬ ((8 : Int) ≤ (k : Int)) := by omega
        go_wp2_with (first | (go_at_call 33; refine HE.out.mono ?_; rintro e w9 ⟨rfl, hg9⟩) | (go_at_call 34; refine (HV.out _ (grown_trans hg8 hg9)).mono ?_; rintro e w10 ⟨rfl, hg10⟩; clear HV; go_wp2_with (first | (go_at_call 35; refine (HC.out _ (grown_trans hg9 hg10)).mono ?_; rintro e w11 ⟨rfl, hg11⟩) | (go_at_call 34; refine (HVk.out _ (grown_trans (grown_trans hg9 hg10) hg11)).mono ?_; rintro e w12 ⟨rfl, hg12⟩))))
        go_ret
        exact ⟨rfl, grown_trans G8 (grown_trans (grown_trans (grown_trans hg9 hg10) hg11) hg12)⟩
end Go.Proofs.YthbcfepbkkbjiaaGreatDoor
