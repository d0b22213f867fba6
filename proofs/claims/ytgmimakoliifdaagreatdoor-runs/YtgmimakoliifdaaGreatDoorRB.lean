/- Package run: bytes, the look-ups. -/
import Derived.Test.YtgmimakoliifdaaGreatDoorR6
import Derived.Test.YtgmimakoliifdaaGreatDoorA7
import Derived.Test.YtgmimakoliifdaaGreatDoorZ2
namespace Go.Proofs.YtgmimakoliifdaaGreatDoor
open Go.RowKit
set_option linter.unusedVariables false
set_option linter.unusedSimpArgs false

theorem Tryz.zeroInt' (w : World) : (zeroValue 3).run Tryz.prog w = .ok (.int .i64 0) w := by kernel_rfl
theorem Tryz.zeroOp (w : World) : (zeroValue 148).run Tryz.prog w = .ok (.int .i64 0) w := by kernel_rfl
theorem Tryz.zeroQu (w : World) : (zeroValue 149).run Tryz.prog w = .ok (.int .i64 0) w := by kernel_rfl

theorem look_sz {w : World} {SB : Nat} (h : IMap w SB szmap) {C v : Int} (hz : szmap C = some (.int .i64 v)) : (Instr.lookup 94 (.map (some SB)) (.int .i64 C) false).run Tryz.prog w = .ok (.int .i64 v) w := by
  have := h.look (P := Tryz.prog) Tryz.underlying94 Tryz.underlying3 (Tryz.zeroInt' _) C false
  rw [this, hz]; rfl
theorem look_op {w : World} {SB : Nat} (h : IMap w SB opmap) {C v : Int} (hz : opmap C = some (.int .i64 v)) : (Instr.lookup 96 (.map (some SB)) (.int .i64 C) false).run Tryz.prog w = .ok (.int .i64 v) w := by
  have := h.look (P := Tryz.prog) Tryz.underlying96 Tryz.underlying3 (Tryz.zeroOp _) C false
  rw [this, hz]; rfl
theorem look_qu {w : World} {SB : Nat} (h : IMap w SB qumap) {C v : Int} (hz : qumap C = some (.int .i64 v)) : (Instr.lookup 98 (.map (some SB)) (.int .i64 C) false).run Tryz.prog w = .ok (.int .i64 v) w := by
  have := h.look (P := Tryz.prog) Tryz.underlying98 Tryz.underlying3 (Tryz.zeroQu _) C false
  rw [this, hz]; rfl
theorem look_kd {w : World} {SB : Nat} (h : IMap w SB kmap) {C : Int} {K : Nat} (hz : (kd C).cls = K) : (Instr.lookup 92 (.map (some SB)) (.int .i64 C) false).run Tryz.prog w = .ok (.int .i64 K) w := by
  have := h.look (P := Tryz.prog) Tryz.underlying92 Tryz.underlying3 (Tryz.zeroKind _) C false
  rw [this, kmap_get, hz]; rfl

set_option maxRecDepth 100000 in
set_option maxHeartbeats 1000000 in
theorem qbytes_ok (w0 w : World) (M KB SB OB UB : Nat) (po : Option Addr) (m pcap : Nat) (p : Nat → Int) (S : Flt) (en : Bool) (vd C F' : Int) (sz F : Nat) (h : QM w0 w M KB SB OB UB (.slice po m pcap) S en vd) (hz : szmap C = some (.int .i64 sz)) (hs : Siz sz) (h1 : 1 ≤ sz) (hm : m ≤ 2000) (hmc : m ≤ pcap) (hp : Oct p) (hsrc : Src w0 .u8 po m p) (hF : F' = F) (hf : F + sz ≤ m) :
    Calls Tryz.prog 112 #[.pointer (some ⟨M, 0, none⟩), .int .i64 F', .int .i64 C] w fun e w' => e = .returned (.int .u32 (be p F sz)) ∧ QM w0 w' M KB SB OB UB (.slice po m pcap) S en vd := by
  obtain ⟨c0, c1, c2, c3, c4, c5, c6, c7, c8, c9⟩ := h.cells
  have HH : Hid (QM w0 w M KB SB OB UB (.slice po m pcap) S en vd) := h
  have hl : ∀ k, (Instr.lookup 94 (.map (some SB)) (.int .i64 C) false).run Tryz.prog (w.drewN k) = .ok (.int .i64 sz) (w.drewN k) := fun k => look_sz (h.drewN k).iz hz
  have hl0 := hl 0
  have HA : Hid (∀ k, Calls Tryz.prog 97 #[.slice po m pcap, .int .i64 F', .int .i64 sz] (w.drewN k) fun e w' => e = .returned (.tuple #[.int .u32 (be p F sz), .bool true]) ∧ w' = w.drewN k) := fun k => Load_src w0 _ po m pcap F sz p F' hs h1 hm hmc hf hp hsrc (h.drewN k).gr hF
  generalize be p F sz = V at *
  clear h hz hs hsrc hf hF hp
  go_enter Tryz.func112, Tryz.ntmps112
  go_wp2
  go_quiet ((go_at_call 97; refine Calls.quiet_of_same (HA.out _)))
  go_wp2
  go_ret
  exact ⟨rfl, by repeat (first | exact HH.out | refine QM.drew ?_ | refine QM.drewN ?_ _)⟩

set_option maxRecDepth 100000 in
set_option maxHeartbeats 1000000 in
theorem qbytes_no (w0 w : World) (M KB SB OB UB : Nat) (po : Option Addr) (m pcap : Nat) (p : Nat → Int) (S : Flt) (en : Bool) (vd C F' : Int) (sz F : Nat) (h : QM w0 w M KB SB OB UB (.slice po m pcap) S en vd) (hz : szmap C = some (.int .i64 sz)) (hs : sz ≤ 4) (hm : m ≤ 2000) (hF : F' = F) (hFb : F ≤ 4611686018427387904) (hf : ¬ F + sz ≤ m) :
    Calls Tryz.prog 112 #[.pointer (some ⟨M, 0, none⟩), .int .i64 F', .int .i64 C] w fun e w' => e = .returned (.int .u32 0) ∧ QM w0 w' M KB SB OB UB (.slice po m pcap) S true 0 := by
  obtain ⟨c0, c1, c2, c3, c4, c5, c6, c7, c8, c9⟩ := h.cells
  have HH : Hid (QM w0 w M KB SB OB UB (.slice po m pcap) S en vd) := h
  have hl : ∀ k, (Instr.lookup 94 (.map (some SB)) (.int .i64 C) false).run Tryz.prog (w.drewN k) = .ok (.int .i64 sz) (w.drewN k) := fun k => look_sz (h.drewN k).iz hz
  have hl0 := hl 0
  have HA : Hid (∀ k, Calls Tryz.prog 97 #[.slice po m pcap, .int .i64 F', .int .i64 sz] (w.drewN k) fun e w' => e = .returned (.tuple #[.int .u32 0, .bool false]) ∧ w' = w.drewN k) := fun k => Load_sno po m pcap F sz F' _ hm hFb hs hf hF
  clear h hz hf hF
  go_enter Tryz.func112, Tryz.ntmps112
  go_wp2
  go_quiet ((go_at_call 97; refine Calls.quiet_of_same (HA.out _)))
  go_wp2_with (go_at_call 115; refine (end_any w0 _ M KB SB OB UB (.slice po m pcap) S en vd 0 (by repeat (first | exact HH.out | refine QM.drew ?_ | refine QM.drewN ?_ _))).mono ?_; rintro e w2 ⟨rfl, h2⟩)
  go_ret
  exact ⟨rfl, h2⟩

end Go.Proofs.YtgmimakoliifdaaGreatDoor
