import Derived.Orders
import Derived.Test.YthbcfepbkkbjiabGreatDoorIWA
import Derived.Test.YthbcfepbkkbjiabGreatDoorIKD
import Derived.Test.YthbcfepbkkbjiabGreatDoorIOM
import Derived.Test.YthbcfepbkkbjiabGreatDoorIKQ
namespace Go.Proofs.YthbcfepbkkbjiabGreatDoor
open Go.RowKit
set_option linter.unusedVariables false
set_option linter.unusedSimpArgs false
theorem kd48 : kd 48 = ⟨48, 1, 1, false, 0, 1⟩ := rfl
theorem kd84 : kd 84 = ⟨84, 8, 0, false, 6, 6⟩ := rfl
theorem kd128 : kd 128 = ⟨128, 4, 0, false, 0, 2⟩ := rfl
theorem kd21m : kd 21 = ⟨21, 11, 0, false, 0, 10⟩ := rfl
theorem kd22m : kd 22 = ⟨22, 12, 0, true, 0, 11⟩ := rfl
def mq (k n : Int) : Nat → Int := fun j => [48, 0, 0, 0, 84, 0, 0, 3, 21, 0, 2, k, 128, 0, 0, 0, 22, 0, 0, 0, 6, 0, 0, n].getD j 0
theorem mq_room {k n : Int} (hk : 0 ≤ k ∧ k < 4) (hn : 0 ≤ n ∧ n < 4) : ∀ i, i < 6 → Room (mq k n) i := fun i hi => by
  obtain ⟨k1, k2⟩ := hk
  obtain ⟨n1, n2⟩ := hn
  match i, hi with
  | 0, _ => simp [Room, mq]
  | 1, _ => simp [Room, mq]
  | 2, _ => simp [Room, mq]; omega
  | 3, _ => simp [Room, mq]
  | 4, _ => simp [Room, mq]
  | 5, _ => simp [Room, mq]; omega
theorem mq_chk {k n : Int} (hk : 0 ≤ k ∧ k < 4) (hn : 0 ≤ n ∧ n < 4) : Chk (encs (mq k n)) (8 * 6) 0 0 := by
  have D := decs_all (mq_room hk hn)
  refine chk_of (by decide) (by decide) (fun j hj => ?_) ?_ (fun j hj hb => ?_)
  · unfold wrong nx
    rw [D (4 * j) (by omega), D (4 * j + 1) (by omega), D (4 * j + 2) (by omega), D (4 * j + 3) (by omega)]
    match j, hj with
    | 0, _ => show wrg (kd 48) true 0 _ _ = 0; simp [kd48, wrg]
    | 1, _ => show wrg (kd 84) true 3 _ _ = 0; simp [kd84, wrg]
    | 2, _ => show wrg (kd 21) true k (if (kd 21).kind = 12 then _ else if (kd 21).kind = 10 then _ else if (kd 21).kind = 11 then [((2 : Nat) : Int) + 1 + 0, ((2 : Nat) : Int) + 1 + 2] else _) ((6 : Nat) : Int) = 0; simp [kd21m, wrg]
    | 3, _ => show wrg (kd 128) true 0 _ _ = 0; simp [kd128, wrg]
    | 4, _ => show wrg (kd 22) true 0 _ _ = 0; simp [kd22m, wrg]
    | 5, _ => show wrg (kd 6) true n _ _ = 0; simp [kd6, wrg]
  · rw [D _ (by decide)]; show (kd 6).kind = 12; rw [kd6]
  · have h1 := hb.1
    rw [D _ (by omega)] at h1
    match j, hj with
    | 0, _ => have h2 : (kd 48).kind = 3 := h1; rw [kd48] at h2; exact absurd h2 (by decide)
    | 1, _ => have h2 : (kd 84).kind = 3 := h1; rw [kd84] at h2; exact absurd h2 (by decide)
    | 2, _ => have h2 : (kd 21).kind = 3 := h1; rw [kd21m] at h2; exact absurd h2 (by decide)
    | 3, _ => have h2 : (kd 128).kind = 3 := h1; rw [kd128] at h2; exact absurd h2 (by decide)
    | 4, _ => have h2 : (kd 22).kind = 3 := h1; rw [kd22m] at h2; exact absurd h2 (by decide)
    | 5, _ => have h2 : (kd 6).kind = 3 := h1; rw [kd6] at h2; exact absurd h2 (by decide)
def TwoSt (w0 w : World) (x y : Nat) (Tx Ty : Nat → Ab) : Prop := w0.grownBy w none ∧ ∃ U V, NSt w x U Tx ∧ NSt w y V Ty ∧ (∀ k, U k → ¬ V k) ∧ (∀ k, U k → w0.heap.size ≤ k) ∧ (∀ k, V k → w0.heap.size ≤ k)
theorem TwoSt.swap {w0 w : World} {x y : Nat} {Tx Ty : Nat → Ab} (h : TwoSt w0 w x y Tx Ty) : TwoSt w0 w y x Ty Tx := by
  obtain ⟨g, U, V, h1, h2, h3, h4, h5⟩ := h
  exact ⟨g, V, U, h2, h1, fun k hv hu => h3 k hu hv, h5, h4⟩
theorem TwoSt.keep {w0 w w' : World} {x y : Nat} {Tx Ty : Nat → Ab} (h : TwoSt w0 w x y Tx Ty) (hg : w.grownBy w' none) : TwoSt w0 w' x y Tx Ty := by
  obtain ⟨g, U, V, h1, h2, h3, h4, h5⟩ := h
  exact ⟨grown_trans g hg, U, V, h1.keep hg, h2.keep hg, h3, h4, h5⟩
theorem two_first {w0 w w' : World} {x y : Nat} {U U' V : Nat → Prop} {Tx' Ty : Nat → Ab} (g : w0.grownBy w none) (h2 : NSt w y V Ty) (h3 : ∀ k, U k → ¬ V k) (h4 : ∀ k, U k → w0.heap.size ≤ k) (h5 : ∀ k, V k → w0.heap.size ≤ k) (hN : NSt w' x U' Tx') (hU : ∀ k, U' k → Gr U w w' k) (hF : Fr U w w') : TwoSt w0 w' x y Tx' Ty := by
  refine ⟨hF.grown g h4, U', V, hN, h2.frame hF (fun k hv hu => h3 k hu hv), fun k hk hv => ?_, fun k hk => ?_, h5⟩
  · rcases hU k hk with h | h
    · exact h3 k h hv
    · have := h2.1 k hv
      omega
  · rcases hU k hk with h | h
    · exact h4 k h
    · exact Nat.le_trans g.size h.1
theorem two_both {w0 w w1 w2 : World} {x y : Nat} {U U' V V' : Nat → Prop} {Tx Ty Tx' Ty' : Nat → Ab} (g : w0.grownBy w none) (hx : NSt w x U Tx) (hy : NSt w y V Ty) (h3 : ∀ k, U k → ¬ V k) (h4 : ∀ k, U k → w0.heap.size ≤ k) (h5 : ∀ k, V k → w0.heap.size ≤ k) (hN : NSt w1 x U' Tx') (hU : ∀ k, U' k → Gr U w w1 k) (hF : Fr U w w1) (hN2 : NSt w2 y V' Ty') (hV : ∀ k, V' k → Gr V w1 w2 k) (hF2 : Fr V w1 w2) : TwoSt w0 w2 x y Tx' Ty' := by
  have d1 : ∀ k, U' k → ¬ V k := fun k hk hv => by
    rcases hU k hk with h | h
    · exact h3 k h hv
    · have := hy.1 k hv
      omega
  refine ⟨hF2.grown (hF.grown g h4) h5, U', V', hN.frame hF2 d1, hN2, fun k hk hv => ?_, fun k hk => ?_, fun k hk => ?_⟩
  · rcases hV k hv with h | h
    · exact d1 k hk h
    · have := hN.1 k hk
      omega
  · rcases hU k hk with h | h
    · exact h4 k h
    · exact Nat.le_trans g.size h.1
  · rcases hV k hk with h | h
    · exact h5 k h
    · exact Nat.le_trans (Nat.le_trans g.size hF.size) h.1
section
variable {w0 w w1 : World} {x y : Nat} {Tx Ty : Nat → Ab} {a1 a2 a3 a4 : Addr} {tb : TypeId} {pb : Value}
theorem two_frame (h : TwoSt w0 w x y Tx Ty) (hS : Sent w0 a1 a2 a3 a4) (hl : Laid w0 tb pb) (po : Option Addr) (m pc : Nat) (p : Nat → Int) (hm : m ≤ maxLen) (hmc : m ≤ pc) (hp : Oct p) (hq : Src w .u8 po m p) (hpo : 0 < m → ∀ k, own? po = some k → k < w0.heap.size) (hd : ∀ i, i < 8 → (Tx i).d < 9223372036854775807) :
    Calls Tryz.prog 11 #[.pointer (some ⟨x, 0, none⟩), .slice po m pc] w fun e w' => e = .returned (.int .i64 (frmE m)) ∧ TwoSt w0 w' x y (frmT Tx p m) Ty := by
  obtain ⟨gr, U, V, h1, h2, h3, h4, h5⟩ := h
  refine (nframe h1 ⟨hS, hl, gr, h4⟩ po m pc p hm hmc hp hq (fun h0 k hk hu => ?_) hd).mono ?_
  · have := hpo h0 k hk
    have := h4 k hu
    omega
  · rintro e w' ⟨rfl, hN, hF⟩
    exact ⟨rfl, two_first gr h2 h3 h4 h5 hN (fun k hk => hk) hF⟩
theorem two_dropped (h : TwoSt w0 w x y Tx Ty) (hS : Sent w0 a1 a2 a3 a4) (hl : Laid w0 tb pb) (s : Int) :
    Calls Tryz.prog 12 #[.pointer (some ⟨x, 0, none⟩), .int .i64 s] w fun e w' => e = .returned (.int .i64 (drpV s Tx)) ∧ TwoSt w0 w' x y Tx Ty := by
  have h0 := h
  obtain ⟨gr, U, V, h1, h2, h3, h4, h5⟩ := h
  refine (ndropped h1 ⟨hS, hl, gr, h4⟩ s).mono ?_
  rintro e w' ⟨rfl, g'⟩
  exact ⟨rfl, h0.keep g'⟩
end
end Go.Proofs.YthbcfepbkkbjiabGreatDoor
namespace Go.Proofs.YthbcfepbkkbjiabGreatDoor
open Go.RowKit
set_option linter.unusedVariables false
set_option linter.unusedSimpArgs false
theorem count_set_true : ∀ (l : List Bool) (i : Nat), l[i]? = some false → (l.set i true).count false + 1 = l.count false
  | [], i, h => by simp at h
  | b :: l, 0, h => by
    simp at h
    subst h
    simp
  | b :: l, i + 1, h => by
    simp at h
    have := count_set_true l i (by simpa using h)
    simp only [List.set_cons_succ, List.count_cons]
    omega
theorem wpAny_inv {P : Program} {ops : Array Oper} {Q : Exit → Act → World → Prop} (I : Array Bool → Act → World → Prop)
    (hq : ∀ l a w, l.size = ops.size → I l a w → (∀ i, i < ops.size → l.getD i true = true) → Q .normal a w)
    (hr : ∀ l : Array Bool, l.size = ops.size → Region.ready .any ops l = [] → ∀ i, i < ops.size → l.getD i true = true)
    (hs : ∀ l a w, l.size = ops.size → I l a w → ∀ i, i ∈ Region.ready .any ops l → wpOp P ops Q i (I (l.setIfInBounds i true)) a w) :
    ∀ (fuel : Nat) (l : Array Bool) (a : Act) (w : World), l.size = ops.size → l.toList.count false ≤ fuel → I l a w → wpAny P .any ops Q fuel l a w
  | 0, l, a, w, hz, hc, hI => by
    have hall : ∀ i, i < ops.size → l.getD i true = true := fun i hi => by
      have hn : false ∉ l.toList := List.count_eq_zero.1 (by omega)
      have hil : i < l.size := by omega
      have hm : l[i] ∈ l.toList := Array.getElem_mem_toList hil
      cases hb : l[i] with
      | false => rw [hb] at hm; exact absurd hm hn
      | true => simp [Array.getD, hil, hb]
    refine ⟨?_, hq l a w hz hI hall⟩
    unfold Region.ready
    refine List.filter_eq_nil_iff.2 fun i hi => ?_
    have := hall i (List.mem_range.1 hi)
    simp [this]
  | fuel + 1, l, a, w, hz, hc, hI => by
    refine ⟨fun h => hq l a w hz hI (hr l hz h), fun i hi => wpOp_mono (fun a' w' hI' => ?_) (hs l a w hz hI i hi)⟩
    refine wpAny_inv I hq hr hs fuel _ a' w' (by simpa using hz) ?_ hI'
    unfold Region.ready at hi
    obtain ⟨h1, h2⟩ := List.mem_filter.1 hi
    have hil : i < l.size := by rw [hz]; exact List.mem_range.1 h1
    have hf : l.toList[i]? = some false := by
      simp only [Bool.and_eq_true, Bool.not_eq_true'] at h2
      have := h2.1
      simp [Array.getD, hil] at this
      simp [hil, this]
    have := count_set_true l.toList i hf
    rw [Array.toList_setIfInBounds]
    omega
theorem region_by {P : Program} {id : Nat} {ops : Array Oper} {Q : Exit → Act → World → Prop} {a : Act} {w : World} (hm : P.follows .mixedOrders = true) (I : Act → Array Bool → Act → World → Prop)
    (h0 : I a (Array.replicate ops.size false) a w.drew)
    (hr : ∀ l : Array Bool, l.size = ops.size → Region.ready .any ops l = [] → ∀ i, i < ops.size → l.getD i true = true)
    (hq : ∀ l a' w', l.size = ops.size → I a l a' w' → (∀ i, i < ops.size → l.getD i true = true) → Q .normal a' w')
    (hs : ∀ l a' w', l.size = ops.size → I a l a' w' → ∀ i, i ∈ Region.ready .any ops l → wpOp P ops Q i (I a (l.setIfInBounds i true)) a' w') : (Code.region id ops true).wp P Q a w :=
  wp_region_any hm (wpAny_inv (I a) hq hr hs ops.size _ a _ (by simp) (by simp) h0)
theorem region_gen {P : Program} {id : Nat} {ops : Array Oper} {Q : Exit → Act → World → Prop} {a : Act} {w : World} (h : ∀ a0 : Act, a0.eval (.tmp 0) = a.eval (.tmp 0) → a0.eval (.tmp 10) = a.eval (.tmp 10) → a0.tmps.size = a.tmps.size → Hid (a0 = a) → (Code.region id ops true).wp P Q a0 w) : (Code.region id ops true).wp P Q a w := h a rfl rfl rfl rfl
def putAll (a : Act) : List (Nat × Value) → Act
  | [] => a
  | (d, v) :: r => putAll (a.put (some d) v) r
theorem put_put (a : Act) (d : Nat) (v u : Value) : (a.put (some d) v).put (some d) u = a.put (some d) u := by
  simp [Act.put]
theorem put_own (a : Act) (d : Nat) : a.put (some d) (a.tmps.getD d undef) = a := by
  obtain ⟨t, f⟩ := a
  simp only [Act.put]
  congr 1
  apply Array.ext_getElem?
  intro j
  rw [Array.getElem?_setIfInBounds]
  split
  · subst_vars
    split
    · simp [Array.getD, *]
    · rw [Array.getElem?_eq_none (by omega)]
  · rfl
theorem putAll_out : ∀ (r : List (Nat × Value)) (a : Act) (d : Nat) (x : Value), d ∉ r.map (·.1) → (putAll a r).put (some d) x = putAll (a.put (some d) x) r
  | [], a, d, x, _ => rfl
  | (d0, v0) :: r, a, d, x, h => by
    simp at h
    show (putAll (a.put (some d0) v0) r).put (some d) x = putAll ((a.put (some d) x).put (some d0) v0) r
    rw [putAll_out r _ d x (by simpa using h.2), Act.put_comm a v0 x (fun e he => by cases he; exact fun e2 => h.1 (Option.some.inj e2))]
theorem putAll_at : ∀ (r : List (Nat × Value)) (a : Act) (d : Nat) (x : Value), (r.map (·.1)).Nodup → d ∈ r.map (·.1) → (putAll a r).put (some d) x = putAll a (r.map fun p => if p.1 = d then (d, x) else p)
  | [], a, d, x, _, h => by simp at h
  | (d0, v0) :: r, a, d, x, hn, h => by
    simp only [List.map_cons, List.nodup_cons] at hn
    by_cases e : d0 = d
    · subst e
      have hr : r.map (fun p => if p.1 = d0 then (d0, x) else p) = r := by
        conv => rhs; rw [← List.map_id r]
        refine List.map_congr_left fun p hp => ?_
        rw [if_neg (fun e : p.1 = d0 => hn.1 (by rw [← e]; exact List.mem_map_of_mem (f := (·.1)) hp))]
        rfl
      show (putAll (a.put (some d0) v0) r).put (some d0) x = putAll a ((if d0 = d0 then (d0, x) else (d0, v0)) :: r.map fun p => if p.1 = d0 then (d0, x) else p)
      rw [putAll_out r _ d0 x hn.1, put_put, hr, if_pos rfl]
      rfl
    · have hd : d ∈ r.map (·.1) := by
        simp only [List.map_cons, List.mem_cons] at h
        exact h.resolve_left fun h => e h.symm
      show (putAll (a.put (some d0) v0) r).put (some d) x = putAll a ((if d0 = d then (d, x) else (d0, v0)) :: r.map fun p => if p.1 = d then (d, x) else p)
      rw [if_neg e, putAll_at r _ d x hn.2 hd]
      rfl
theorem putAll_own : ∀ (ds : List Nat) (a : Act), putAll a (ds.map fun d => (d, a.tmps.getD d undef)) = a
  | [], a => rfl
  | d :: ds, a => by
    show putAll (a.put (some d) (a.tmps.getD d undef)) _ = a
    rw [put_own]
    exact putAll_own ds a
def updV (v : Nat → Value) (i : Nat) (x : Value) : Nat → Value := fun j => if j = i then x else v j
def mslots : List Nat := [45, 46, 47, 48, 49, 50, 51, 52, 53, 54, 55, 56, 57, 58, 59, 60, 61, 62, 11]
def mput (a : Act) (v : Nat → Value) : Act := putAll a ((List.range 19).map fun i => (mslots.getD i 0, v i))
theorem mput_at (a : Act) (v : Nat → Value) (i : Nat) (hi : i < 19) (x : Value) : (mput a v).put (some (mslots.getD i 0)) x = mput a (updV v i x) := by
  unfold mput
  have hk : (((List.range 19).map fun i => (mslots.getD i 0, v i)).map (·.1)) = mslots := by
    rw [List.map_map]; rfl
  rw [putAll_at _ a _ x (by rw [hk]; decide) (by rw [hk]; simp [List.getD]; rw [List.getElem?_eq_getElem (by show i < 19; exact hi)]; exact List.getElem_mem _), List.map_map]
  congr 1
  refine List.map_congr_left fun j hj => ?_
  have hj' := List.mem_range.1 hj
  have hinj : ∀ (i j : Fin 19), mslots.getD j 0 = mslots.getD i 0 → j = i := by decide
  show (if mslots.getD j 0 = mslots.getD i 0 then (mslots.getD i 0, x) else (mslots.getD j 0, v j)) = (mslots.getD j 0, updV v i x j)
  by_cases e : j = i
  · subst e; rw [if_pos rfl]; simp [updV]
  · rw [if_neg (fun h => e (by have := hinj ⟨i, hi⟩ ⟨j, hj'⟩ h; exact congrArg Fin.val this))]
    simp [updV, e]
theorem mput_own (a : Act) : mput a (fun i => a.tmps.getD (mslots.getD i 0) undef) = a := by
  have := putAll_own mslots a
  exact this
def Sl (w : World) (x : Value) (a b c d : Int) : Prop := ∃ B, x = .slice (some ⟨B, 0, none⟩) 4 4 ∧ w.cell? ⟨B, 0, none⟩ = some (.int .i64 a) ∧ w.cell? ⟨B, 1, none⟩ = some (.int .i64 b) ∧ w.cell? ⟨B, 2, none⟩ = some (.int .i64 c) ∧ w.cell? ⟨B, 3, none⟩ = some (.int .i64 d)
theorem sl_new (w : World) (a b c d : Int) : Sl (w.alloc (.cells #[.int .i64 a, .int .i64 b, .int .i64 c, .int .i64 d] 3)) (.slice (some ⟨w.heap.size, 0, none⟩) 4 4) a b c d :=
  ⟨w.heap.size, rfl, by rw [World.cell?_alloc_new]; rfl, by rw [World.cell?_alloc_new]; rfl, by rw [World.cell?_alloc_new]; rfl, by rw [World.cell?_alloc_new]; rfl⟩
theorem Sl.keep {w w' : World} {x : Value} {a b c d : Int} (h : Sl w x a b c d) (g : w.grownBy w' none) : Sl w' x a b c d := by
  obtain ⟨B, h0, h1, h2, h3, h4⟩ := h
  exact ⟨B, h0, g.cell h1 (by simp), g.cell h2 (by simp), g.cell h3 (by simp), g.cell h4 (by simp)⟩
def MFil (w0 w : World) (x : Value) : Prop := ∃ fg cap, ∃ r1 r2 : Nat, x = .slice (some ⟨fg, 0, none⟩) 48 cap ∧ 48 ≤ cap ∧ w0.heap.size ≤ fg ∧ r1 < 4 ∧ r2 < 4 ∧ Src w .u8 (some ⟨fg, 0, none⟩) 48 (encs (mq r1 r2))
def MF (w0 : World) (tv pv : Value) (k g : Int) (i : Nat) (x : Value) (w : World) : Prop :=
  match i with
  | 0 => Sl w x 48 0 0 0
  | 1 => Sl w x 84 0 0 3
  | 2 => x = tv
  | 3 => x = .int .i64 k
  | 4 => x = pv
  | 5 => x = .int .i64 g
  | 6 => ∃ r : Nat, r < 4 ∧ x = .int .i64 (r : Int)
  | 7 => ∃ r : Nat, r < 4 ∧ Sl w x 21 0 2 (r : Int)
  | 8 => Sl w x 128 0 0 0
  | 9 => Sl w x 22 0 0 0
  | 10 => x = tv
  | 11 => x = .int .i64 k
  | 12 => x = pv
  | 13 => x = .int .i64 g
  | 14 => ∃ r : Nat, r < 4 ∧ x = .int .i64 (r : Int)
  | 15 => ∃ r : Nat, r < 4 ∧ Sl w x 6 0 0 (r : Int)
  | 16 => ∃ B, ∃ r1 r2 : Nat, r1 < 4 ∧ r2 < 4 ∧ x = .slice (some ⟨B, 0, none⟩) 6 6 ∧ Quads w B 6 (mq r1 r2)
  | _ => MFil w0 w x
theorem MF.keep {w0 w w' : World} {tv pv x : Value} {k g : Int} (gr : w.grownBy w' none) : ∀ {i : Nat}, MF w0 tv pv k g i x w → MF w0 tv pv k g i x w' := fun {i} h => by
  match i, h with
  | 0, h => exact Sl.keep h gr
  | 1, h => exact Sl.keep h gr
  | 2, h => exact h
  | 3, h => exact h
  | 4, h => exact h
  | 5, h => exact h
  | 6, h => exact h
  | 7, h =>
    obtain ⟨r, h1, h2⟩ := h
    exact ⟨r, h1, h2.keep gr⟩
  | 8, h => exact Sl.keep h gr
  | 9, h => exact Sl.keep h gr
  | 10, h => exact h
  | 11, h => exact h
  | 12, h => exact h
  | 13, h => exact h
  | 14, h => exact h
  | 15, h =>
    obtain ⟨r, h1, h2⟩ := h
    exact ⟨r, h1, h2.keep gr⟩
  | 16, h =>
    obtain ⟨B, r1, r2, h1, h2, h3, h4⟩ := h
    exact ⟨B, r1, r2, h1, h2, h3, fun i hi => by
      obtain ⟨b, c0, c1, c2, c3, c4⟩ := h4 i hi
      exact ⟨b, gr.cell c0 (by simp), gr.cell c1 (by simp), gr.cell c2 (by simp), gr.cell c3 (by simp), gr.cell c4 (by simp)⟩⟩
  | n + 17, h =>
    obtain ⟨fg, cap, r1, r2, h1, h2, h3, h4, h5, h6⟩ := h
    exact ⟨fg, cap, r1, r2, h1, h2, h3, h4, h5, h6.keep gr⟩
def MI (w0 : World) (tv pv : Value) (k g : Int) (a0 : Act) (l : Array Bool) (a : Act) (w : World) : Prop :=
  ∃ v, a = mput a0 v ∧ w0.grownBy w none ∧ ∀ i, i < 19 → l.getD i true = true → MF w0 tv pv k g i (v i) w
theorem MI.step {w0 w w' : World} {tv pv : Value} {k g : Int} {a0 : Act} {l : Array Bool} {v : Nat → Value} {i : Nat} {x : Value} (hl : l.size = 19) (hi : i < 19) (gr0 : w0.grownBy w none) (h : ∀ i, i < 19 → l.getD i true = true → MF w0 tv pv k g i (v i) w) (gr : w.grownBy w' none) (hx : MF w0 tv pv k g i x w') :
    MI w0 tv pv k g a0 (l.setIfInBounds i true) ((mput a0 v).put (some (mslots.getD i 0)) x) w' := by
  refine ⟨updV v i x, mput_at a0 v i hi x, grown_trans gr0 gr, fun j hj hlj => ?_⟩
  by_cases e : j = i
  · subst e; simpa [updV] using hx
  · have : l.getD j true = true := by
      rw [Array.getD_eq_getD_getElem?, Array.getElem?_setIfInBounds_ne (fun h => e h.symm)] at hlj
      rw [Array.getD_eq_getD_getElem?]
      exact hlj
    simpa [updV, e] using (h j hj this).keep gr
theorem ready_all {ops : Array Oper} (ht : (List.range ops.size).all (fun i => ((ops[i]?).map fun o => o.after.all fun e => decide (e.on < i)).getD true) = true) (l : Array Bool) (hl : l.size = ops.size) (h : Region.ready .any ops l = []) : ∀ i, i < ops.size → l.getD i true = true := by
  intro i
  induction i using Nat.strongRecOn with
  | _ i ih =>
    intro hi
    have hr := List.filter_eq_nil_iff.1 h i (List.mem_range.2 hi)
    have ht' := List.all_eq_true.1 ht i (List.mem_range.2 hi)
    cases hb : l.getD i true with
    | true => rfl
    | false =>
      exfalso
      refine hr ?_
      rw [hb]
      rw [Array.getElem?_eq_getElem hi] at ht' ⊢
      simp only [Option.map_some, Option.getD_some, Array.all_eq_true, Bool.not_false, Bool.true_and, decide_eq_true_eq, Bool.or_eq_true] at ht' ⊢
      intro j hj
      have h1 := ht' j hj
      have h2 := ih _ h1 (by omega)
      refine Or.inr ?_
      have hlt : (ops[i].after[j]).on < l.size := by omega
      simpa [Array.getD, hlt] using h2
theorem getD_ft {l : Array Bool} {j : Nat} (h : l.getD j false = true) : l.getD j true = true := by
  by_cases hj : j < l.size
  · simpa [Array.getD, hj] using h
  · simp [Array.getD, hj] at h
theorem ready_at {ops : Array Oper} {l : Array Bool} {i : Nat} {o : Oper} (hi : i ∈ Region.ready .any ops l) (ho : ops[i]? = some o) : ∀ e ∈ o.after.toList, Region.binds .any e = true → l.getD e.on true = true := fun e he hb => by
  have h := (List.mem_filter.1 hi).2
  simp only [ho, Option.map_some, Option.getD_some, Bool.and_eq_true, Array.all_eq_true'] at h
  have := h.2 e (by simpa using he)
  simp only [hb, Bool.not_true, Bool.false_or] at this
  exact getD_ft this
theorem wpOp_at {P : Program} {ops : Array Oper} {Q : Exit → Act → World → Prop} {i : Nat} {o : Oper} {K : Act → World → Prop} {a : Act} {w : World} (ho : ops[i]? = some o) (hg : o.guard = none) (h : o.wp P a w K Q) : wpOp P ops Q i K a w := by
  unfold wpOp
  simp only [ho]
  rw [if_pos (by simp [Region.wanted, hg])]
  exact Or.inl h
theorem putAll_old : ∀ (r : List (Nat × Value)) (a : Act) (t : Nat), t ∉ r.map (·.1) → (putAll a r).eval (.tmp t) = a.eval (.tmp t)
  | [], a, t, _ => rfl
  | (d, v) :: r, a, t, h => by
    simp at h
    show (putAll (a.put (some d) v) r).eval (.tmp t) = _
    rw [putAll_old r _ t (by simpa using h.2), Act.eval_put (fun d' hd e => by cases hd; cases e; exact h.1 rfl)]
theorem mput_old (a : Act) (v : Nat → Value) (t : Nat) (h : t ∉ mslots) : (mput a v).eval (.tmp t) = a.eval (.tmp t) := putAll_old _ a t (by
  have hk : (((List.range 19).map fun i => (mslots.getD i 0, v i)).map (·.1)) = mslots := by
    rw [List.map_map]; rfl
  rw [hk]; exact h)
theorem put_eval (a : Act) (d : Nat) (x : Value) (h : d < a.tmps.size) : (a.put (some d) x).eval (.tmp d) = x := by
  simp [Act.put, Act.eval, h]
theorem put_size (a : Act) (d : Option Nat) (x : Value) : (a.put d x).tmps.size = a.tmps.size := by
  cases d <;> simp [Act.put]
theorem putAll_size : ∀ (r : List (Nat × Value)) (a : Act), (putAll a r).tmps.size = a.tmps.size
  | [], a => rfl
  | (d, v) :: r, a => by
    show (putAll (a.put (some d) v) r).tmps.size = _
    rw [putAll_size, put_size]
theorem mput_tmp (a : Act) (v : Nat → Value) (j : Nat) (hj : j < 19) (hs : mslots.getD j 0 < a.tmps.size) : (mput a v).eval (.tmp (mslots.getD j 0)) = v j := by
  have h := mput_at a v j hj (v j)
  have e : updV v j (v j) = v := funext fun i => by unfold updV; split <;> simp_all
  rw [e] at h
  rw [← h]
  exact put_eval _ _ _ (by rw [show (mput a v).tmps.size = a.tmps.size from putAll_size _ _]; exact hs)
theorem mput_get (a : Act) (v : Nat → Value) (j : Nat) (hj : j < 19) (hs : a.tmps.size = 152) : (mput a v).tmps[mslots.getD j 0]?.getD undef = v j := by
  have : ∀ j : Fin 19, mslots.getD j 0 < 63 := by decide
  have h1 := this ⟨j, hj⟩
  have h := mput_tmp a v j hj (by simp only at h1; omega)
  simpa [Act.eval] using h
theorem mput_get0 (a : Act) (v : Nat → Value) (t : Nat) (h : t ∉ mslots) : (mput a v).tmps[t]?.getD undef = a.tmps[t]?.getD undef := by
  have h := mput_old a v t h
  simpa [Act.eval] using h
theorem mput_eq (a : Act) (v : Nat → Value) : mput a v = ((((((((((((((((((a.put (some 45) (v 0)).put (some 46) (v 1)).put (some 47) (v 2)).put (some 48) (v 3)).put (some 49) (v 4)).put (some 50) (v 5)).put (some 51) (v 6)).put (some 52) (v 7)).put (some 53) (v 8)).put (some 54) (v 9)).put (some 55) (v 10)).put (some 56) (v 11)).put (some 57) (v 12)).put (some 58) (v 13)).put (some 59) (v 14)).put (some 60) (v 15)).put (some 61) (v 16)).put (some 62) (v 17)).put (some 11) (v 18) := rfl
theorem quads_new {w : World} {q0 q1 q2 q3 q4 q5 : Value} {r1 r2 : Int} {e : TypeId} (h0 : Sl w q0 48 0 0 0) (h1 : Sl w q1 84 0 0 3) (h2 : Sl w q2 21 0 2 r1) (h3 : Sl w q3 128 0 0 0) (h4 : Sl w q4 22 0 0 0) (h5 : Sl w q5 6 0 0 r2) : Quads (w.alloc (.cells #[q0, q1, q2, q3, q4, q5] e)) w.heap.size 6 (mq r1 r2) := fun i hi => by
  have g := World.grownBy_alloc w (.cells #[q0, q1, q2, q3, q4, q5] e) none
  match i, hi with
  | 0, _ =>
    obtain ⟨B, rfl, c0, c1, c2, c3⟩ := h0.keep g
    exact ⟨B, by rw [World.cell?_alloc_new]; rfl, c0, c1, c2, c3⟩
  | 1, _ =>
    obtain ⟨B, rfl, c0, c1, c2, c3⟩ := h1.keep g
    exact ⟨B, by rw [World.cell?_alloc_new]; rfl, c0, c1, c2, c3⟩
  | 2, _ =>
    obtain ⟨B, rfl, c0, c1, c2, c3⟩ := h2.keep g
    exact ⟨B, by rw [World.cell?_alloc_new]; rfl, c0, c1, c2, c3⟩
  | 3, _ =>
    obtain ⟨B, rfl, c0, c1, c2, c3⟩ := h3.keep g
    exact ⟨B, by rw [World.cell?_alloc_new]; rfl, c0, c1, c2, c3⟩
  | 4, _ =>
    obtain ⟨B, rfl, c0, c1, c2, c3⟩ := h4.keep g
    exact ⟨B, by rw [World.cell?_alloc_new]; rfl, c0, c1, c2, c3⟩
  | 5, _ =>
    obtain ⟨B, rfl, c0, c1, c2, c3⟩ := h5.keep g
    exact ⟨B, by rw [World.cell?_alloc_new]; rfl, c0, c1, c2, c3⟩
end Go.Proofs.YthbcfepbkkbjiabGreatDoor
