/- The statement Execs, proved: every Exec of any bytes and packet. -/
import Derived.Test.YthbcfepbkkbjiaaB3
import Derived.Test.YthbcfepbkkbjiaaO
namespace Go.Proofs.Ythbcfepbkkbjiaa
open Go.ChangeShapes Go.WideShapes Go.ChangeAt Go.RowKit

set_option maxRecDepth 100000 in
theorem execs_lifted (os : Os) (started : os.Started) (H : Type) (enc : TypeId × Value → H) :
    ReturnsInHanded {} Try.checked os 4 .any (Rows.execsSpec.pre6 enc Try.prog Try.f4 Rows.execsRow.domain false) (Rows.execsSpec.post enc Try.prog Try.f4 false true false false) := by
  refine returnsInHanded_of_change_sized (C := Try.checked) Try.own started (by kernel_rfl) Try.func4
    (ChangeSpec.witness6 (enc := enc) (C := Try.checked) false ⟨#[], #[.slice none 0 0, .slice none 0 0], []⟩ 8 (by kernel_rfl) (by kernel_rfl) (by kernel_rfl) (by kernel_rfl)) ?_
  intro W base args ds gs before hval0 hW _ hsz0 _
  have hsz : (DataW.weightsEach Try.prog (Try.f4.params.toList ++ Rows.execsSpec.plain.varTypes Try.prog) (ds ++ gs)).all (· ≤ reachBytes) = true := hsz0
  clear hsz0
  have hval : ∀ (j : Nat) t v, Try.f4.params[j]? = some t → args[j]? = some v → Value.okWide Try.prog W .any base t v := hval0
  have hW' := hW
  obtain ⟨p, q, hA0, hV, rfl, hfz, hnd⟩ := hW
  have hA : DataW.TrodAll enc Try.prog W 0 (fun _ => true) true Try.f4.params.toList args.toList ds p := hA0
  rw [Try.params4] at hA hval hsz
  obtain ⟨v0, v1, d0, d1, p0, p1, rfl, rfl, rfl, h0, h1⟩ := trodAll_two hA
  obtain ⟨rfl, rfl⟩ := trodVars_none hV
  obtain ⟨bo, bn, bc, rfl⟩ := okWide_slice Try.underlying22 (hval 0 22 v0 rfl rfl)
  obtain ⟨po, pn, pc, rfl⟩ := okWide_slice Try.underlying22 (hval 1 22 v1 rfl rfl)
  have k0 := h0
  have k1 := h1
  have lt0 : ∀ x ∈ p0, x.block < W.heap.size := by obtain ⟨m, hm⟩ := k0; exact DataW.trod_lt m _ _ _ hm
  have lt1 : ∀ x ∈ p1, x.block < W.heap.size := by obtain ⟨m, hm⟩ := k1; exact DataW.trod_lt m _ _ _ hm
  obtain ⟨f0, hf0⟩ := h0
  obtain ⟨f1, hf1⟩ := h1
  obtain ⟨g, hg, hb, hbs⟩ := open_bytes hf0
  obtain ⟨u, hu, hp, hps⟩ := open_bytes hf1
  have hcap := open_bytes_cap hf0
  have hbn : bn ≤ 140737488351232 := by
    rcases hbs with h | ⟨es, sp, h, hle⟩
    · omega
    · have := sized_slice hsz (j := 0) (t := 22) (e := 5) rfl (by simpa using h) Try.underlying22
      rw [Try.bytesByte] at this
      simp only [reachBytes] at this
      omega
  have hpn : pn ≤ 140737488351232 := by
    rcases hps with h | ⟨es, sp, h, hle⟩
    · omega
    · have := sized_slice hsz (j := 1) (t := 22) (e := 5) rfl (by simpa using h) Try.underlying22
      rw [Try.bytesByte] at this
      simp only [reachBytes] at this
      omega
  clear hA0 hval0
  refine (law_execs bo bn bc g po pn pc u W hbn hpn hcap hg hu hb hp).mono fun e W' ⟨he, gr⟩ => ?_
  subst he
  have bel := grown_below gr
  exact ⟨_, rfl, _, _, _, [], _, [], hW', trodAll_mk1 (shut_bool Try.underlying4 _), trodAll_mk2 (Below.trod Try.laidOut (by kernel_rfl) (of_decide_eq_true (by kernel_rfl)) k0 bel lt0) (Below.trod Try.laidOut (by kernel_rfl) (of_decide_eq_true (by kernel_rfl)) k1 bel lt1), rfl, bel.frame _, fun h => by cases h⟩

theorem execs_holds : Rows.ExecsSaid :=
  OpenClaim.holds_of_wide 4 Try.f4 rfl rfl rfl rfl rfl rfl rfl ⟨rfl, rfl, rfl, rfl, rfl⟩ rfl rfl rfl rfl rfl (by kernel_rfl) Try.func4 (by kernel_rfl)
    (of_decide_eq_true (by kernel_rfl)) (by unfold Func.isWrapper; first | (rw [if_pos (by decide +kernel)]; kernel_rfl) | (rw [if_neg (by decide +kernel)]; exact ⟨rfl, rfl⟩))
    (fun os started H enc _ => execs_lifted os started H enc)

#print axioms execs_holds

end Go.Proofs.Ythbcfepbkkbjiaa
