import Derived.Test.YthbcfepbkkbjiaaGreatDoorCards
import Derived.Test.YthbcfepbkkbjiaaGreatDoorTie
import Derived.Deep.DeepHandedRow
import Derived.Lib.LaidTab
import Derived.Lib.SmallJoins
import Derived.LaidHandle
import Derived.LaidLaws
import Derived.Stop.LaidTwo
import Derived.SevenTiedAt
import Derived.Test.YthbcfepbkkbjiaaGreatDoorISA
import Derived.Test.YthbcfepbkkbjiaaGreatDoorIOM
set_option linter.unusedVariables false
namespace Go.Proofs.YthbcfepbkkbjiaaGreatDoor
open Go.ChangeShapes Go.WideShapes Go.ChangeAt Go.RowKit Go.Deep
theorem Tryz.gPow : Tryz.prog.globalNamed "internal/strconv.uint64pow10" = some 6 := by kernel_rfl
theorem Tryz.gPowType:(Tryz.prog.globals[6]?).map (·.type)=some 273:=by kernel_rfl
theorem Tryz.cellsPow:Tryz.prog.cellsOf 273=20:=by kernel_rfl
theorem Tryz.cellsU64:Tryz.prog.cellsOf 267=1:=by kernel_rfl
theorem Tryz.gBad : Tryz.prog.globalNamed "gauge/gauge.Bad" = some 1 := by kernel_rfl
theorem Tryz.gBadType:(Tryz.prog.globals[1]?).map (·.type)=some 117:=by kernel_rfl
theorem Tryz.gErr : Tryz.prog.globalNamed "errors.errorType" = some 0 := by kernel_rfl
theorem Tryz.gRt : (Tryz.prog.cutTypes.find? (·.1 == "internal/reflectlite.rtype")).map (·.2) = some 214 := by kernel_rfl
theorem Tryz.nTypes:Tryz.prog.types.size=310:=by kernel_rfl
theorem Tryz.oneError:((List.range 310).filter fun t=>Tryz.prog.rowNamed t [101,114,114,111,114])=[117]:=by kernel_rfl
theorem Tryz.star : "*" ++ "errors.errorString" = "*errors.errorString" := by decide
theorem Tryz.rowES (u : TypeId) (h : Tryz.prog.typeName? 3 u = some "*errors.errorString") : u = 279 :=
 typeName_ptr_named (nm := "errors.errorString") (by rw [Tryz.star]; kernel_rfl) (by kernel_rfl) (by decide) u (by rw [Tryz.star]; exact h)
theorem Tryz.cellsES:Tryz.prog.cellsOf 299=1:=by kernel_rfl
theorem Tryz.cellsStr:Tryz.prog.cellsOf 9=1:=by kernel_rfl
theorem Tryz.gNoSocket : Tryz.prog.globalNamed "gauge/sockets.NoSocket" = some 2 := by kernel_rfl
theorem Tryz.gNoSocketType:(Tryz.prog.globals[2]?).map (·.type)=some 117:=by kernel_rfl
theorem Tryz.gTooLong : Tryz.prog.globalNamed "gauge/sockets.TooLong" = some 3 := by kernel_rfl
theorem Tryz.gTooLongType:(Tryz.prog.globals[3]?).map (·.type)=some 117:=by kernel_rfl
theorem Tryz.gNoFilter : Tryz.prog.globalNamed "gauge/sockets.NoFilter" = some 4 := by kernel_rfl
theorem Tryz.gNoFilterType:(Tryz.prog.globals[4]?).map (·.type)=some 117:=by kernel_rfl
theorem Tryz.gNothing : Tryz.prog.globalNamed "gauge/sockets.Nothing" = some 5 := by kernel_rfl
theorem Tryz.gNothingType:(Tryz.prog.globals[5]?).map (·.type)=some 117:=by kernel_rfl
theorem tab_of_laid {W:World} (h:laidMetH Tryz.prog Rows.netsRow.laid W):Tab W:=by
 have h' : laidMet Tryz.prog [("math/bits.deBruijn32tab", Rows.laid_math_bits_deBruijn32tab), ("math/bits.deBruijn64tab", Rows.laid_math_bits_deBruijn64tab), ("internal/strconv.uint64pow10", Lib.tabData .u64 Lib.pow10Tab), ("gauge/sockets.NoSocket", Rows.laid_gauge_sockets_NoSocket), ("gauge/sockets.TooLong", Rows.laid_gauge_sockets_TooLong), ("gauge/sockets.NoFilter", Rows.laid_gauge_sockets_NoFilter), ("gauge/sockets.Nothing", Rows.laid_gauge_sockets_Nothing), ("gauge/gauge.Bad", Rows.laid_gauge_gauge_Bad)] W ∧ handlesMet Tryz.prog [("errors.errorType", Rows.laid_errors_errorType)] W := h
 exact Lib.tabIs_of_head Tryz.gPow Tryz.gPowType Tryz.underlying273 Tryz.underlying267 Tryz.cellsU64 Tryz.cellsPow h'.1.tail.tail
theorem err_of_laid {W:World} (h:laidMetH Tryz.prog Rows.netsRow.laid W):ErrT W:=by
 have h' : laidMet Tryz.prog [("math/bits.deBruijn32tab", Rows.laid_math_bits_deBruijn32tab), ("math/bits.deBruijn64tab", Rows.laid_math_bits_deBruijn64tab), ("internal/strconv.uint64pow10", Rows.laid_internal_strconv_uint64pow10), ("gauge/sockets.NoSocket", Rows.laid_gauge_sockets_NoSocket), ("gauge/sockets.TooLong", Rows.laid_gauge_sockets_TooLong), ("gauge/sockets.NoFilter", Rows.laid_gauge_sockets_NoFilter), ("gauge/sockets.Nothing", Rows.laid_gauge_sockets_Nothing), ("gauge/gauge.Bad", Rows.laid_gauge_gauge_Bad)] W ∧ handlesMet Tryz.prog [("errors.errorType", Rows.laid_errors_errorType)] W := h
 obtain ⟨name,u,ty,e1,e2,e3,e4,e5⟩:=h'.2 _ (List.mem_singleton.2 rfl)
 have en:name=[101,114,114,111,114]:=(Option.some.inj e1).symm
 subst en
 obtain rfl:=Option.some.inj (Tryz.gRt.symm.trans e2)
 have hm:ty ∈ (List.range 310).filter fun t=>Tryz.prog.rowNamed t [101,114,114,111,114]:=List.mem_filter.2 ⟨List.mem_range.2 (by rw [← Tryz.nTypes];exact e3),e4⟩
 rw [Tryz.oneError] at hm
 obtain rfl:=List.mem_singleton.1 hm
 have hh:typeHandle Tryz.prog 117=.pointer (some ⟨9,117,none⟩):=by kernel_rfl
 rw [hh] at e5
 unfold ErrT
 simpa using World.var?_cell Tryz.gErr e5 0
theorem bad_of_laid {W:World} (h:laidMetH Tryz.prog Rows.netsRow.laid W):∃ a,W.cell? ⟨1,0,none⟩=some (.iface 279 (.pointer (some a))):=by
 have h' : laidMet Tryz.prog [("math/bits.deBruijn32tab", Rows.laid_math_bits_deBruijn32tab), ("math/bits.deBruijn64tab", Rows.laid_math_bits_deBruijn64tab), ("internal/strconv.uint64pow10", Rows.laid_internal_strconv_uint64pow10), ("gauge/sockets.NoSocket", Rows.laid_gauge_sockets_NoSocket), ("gauge/sockets.TooLong", Rows.laid_gauge_sockets_TooLong), ("gauge/sockets.NoFilter", Rows.laid_gauge_sockets_NoFilter), ("gauge/sockets.Nothing", Rows.laid_gauge_sockets_Nothing), ("gauge/gauge.Bad", Rows.laid_gauge_gauge_Bad)] W ∧ handlesMet Tryz.prog [("errors.errorType", Rows.laid_errors_errorType)] W := h
 obtain ⟨a,s,hv,_⟩:=laid_sentinel (tp:=279) (te:=299) (ts:=9) h'.1.tail.tail.tail.tail.tail.tail.tail Tryz.gBad Tryz.gBadType Tryz.underlying117 Tryz.rowES Tryz.underlying279 Tryz.underlying299 rfl rfl Tryz.underlying9 Tryz.cellsES Tryz.cellsStr
 ·exact ⟨a,by simpa using World.var?_cell Tryz.gBad hv 0⟩
theorem sent_of_laid {W:World} (h:laidMetH Tryz.prog Rows.netsRow.laid W):∃ a1 a2 a3 a4,Sent W a1 a2 a3 a4:=by
 have h' : laidMet Tryz.prog [("math/bits.deBruijn32tab", Rows.laid_math_bits_deBruijn32tab), ("math/bits.deBruijn64tab", Rows.laid_math_bits_deBruijn64tab), ("internal/strconv.uint64pow10", Rows.laid_internal_strconv_uint64pow10), ("gauge/sockets.NoSocket", Rows.laid_gauge_sockets_NoSocket), ("gauge/sockets.TooLong", Rows.laid_gauge_sockets_TooLong), ("gauge/sockets.NoFilter", Rows.laid_gauge_sockets_NoFilter), ("gauge/sockets.Nothing", Rows.laid_gauge_sockets_Nothing), ("gauge/gauge.Bad", Rows.laid_gauge_gauge_Bad)] W ∧ handlesMet Tryz.prog [("errors.errorType", Rows.laid_errors_errorType)] W := h
 obtain ⟨a1,a2,s1,s2,c1,c2,t1,t2,v1,v2,e1,x1,_,e2,x2,_,n12,b1,b2⟩:=laid_sentinels2 (tp:=279) (te:=299) (ts:=9) h'.1.tail.tail.tail Tryz.gNoSocket Tryz.gNoSocketType Tryz.gTooLong Tryz.gTooLongType Tryz.underlying117 Tryz.rowES Tryz.underlying279 Tryz.underlying299 rfl rfl Tryz.underlying9 Tryz.cellsES Tryz.cellsStr
 obtain ⟨a3,a4,s3,s4,c3,c4,t3,t4,v3,v4,e3,x3,_,e4,x4,_,n34,b3,b4⟩:=laid_sentinels2 (tp:=279) (te:=299) (ts:=9) h'.1.tail.tail.tail.tail.tail Tryz.gNoFilter Tryz.gNoFilterType Tryz.gNothing Tryz.gNothingType Tryz.underlying117 Tryz.rowES Tryz.underlying279 Tryz.underlying299 rfl rfl Tryz.underlying9 Tryz.cellsES Tryz.cellsStr
 have ne:∀ {a b:Addr} {s s':ByteArray} {l l':List UInt8},W.cell? a=some (.string s)→W.cell? b=some (.string s')→s.data.toList=l→s'.data.toList=l'→l≠l'→b≠a:=fun ha hb hl hl' hne e=>by
  subst e
  have:=ha.symm.trans hb
  cases this
  exact hne (hl.symm.trans hl')
 exact ⟨a1,a2,a3,a4,by simpa using World.var?_cell Tryz.gNoSocket v1 0,by simpa using World.var?_cell Tryz.gTooLong v2 0,by simpa using World.var?_cell Tryz.gNoFilter v3 0,by simpa using World.var?_cell Tryz.gNothing v4 0,⟨c1,t1,b1⟩,⟨c2,t2,b2⟩,⟨c3,t3,b3⟩,⟨c4,t4,b4⟩,
  ne e1 e2 x1 x2 (by decide),ne e1 e3 x1 x3 (by decide),ne e1 e4 x1 x4 (by decide),ne e2 e3 x2 x3 (by decide),ne e2 e4 x2 x4 (by decide),ne e3 e4 x3 x4 (by decide)⟩
end Go.Proofs.YthbcfepbkkbjiaaGreatDoor
namespace Go.Proofs.YthbcfepbkkbjiaaGreatDoor
open Go.ChangeShapes Go.WideShapes Go.ChangeAt Go.RowKit Go.Deep
theorem laid_of {W:World} (h:laidMetH Tryz.prog Rows.netsRow.laid W):∃ a,Laid W 279 (.pointer (some a)):=by
 obtain ⟨a,ha⟩:=bad_of_laid h
 exact ⟨a,tab_of_laid h,err_of_laid h,ha⟩
def litCells:DataW Unit→Array Value
 | .agg ds=>(ds.filterMap fun
   | .lit (.int k z)=>some (Value.int k z)
   | _=>none).toArray
 | _=>#[]
def setObj (cs:Array Value):Obj→Obj
 | .cells _ t frozen=>.cells cs t frozen
 | o=>o
def lowOf (P:Program):Nat:=(World.holding P default ⟨#[],#[],[]⟩).heap.size
def badBytes:ByteArray:=⟨#[97,32,98,97,100,32,102,105,108,116,101,114]⟩
def senBytes (i:Nat):ByteArray:=if i=0 then ⟨#[97,32,115,111,99,107,101,116,32,116,104,97,116,32,116,104,101,114,101,32,105,115,32,110,111,116]⟩ else if i=1 then ⟨#[97,32,112,97,99,107,101,116,32,116,104,97,116,32,105,115,32,116,111,111,32,108,111,110,103]⟩ else if i=2 then ⟨#[97,32,115,111,99,107,101,116,32,119,105,116,104,111,117,116,32,97,32,102,105,108,116,101,114]⟩ else ⟨#[110,111,116,104,105,110,103,32,119,97,105,116,115]⟩
def laidIn (P:Program) (os:Os):World :=
 let w0:=World.holding P os ⟨#[.cells #[.string badBytes] 299,.cells #[.string (senBytes 0)] 299,.cells #[.string (senBytes 1)] 299,.cells #[.string (senBytes 2)] 299,.cells #[.string (senBytes 3)] 299],#[],[]⟩
 { w0 with heap:=((((((((w0.heap.modify 1 (setObj #[.iface 279 (.pointer (some ⟨lowOf P,0,none⟩))])).modify 0 (setObj #[.iface 214 (.agg #[.pointer (some ⟨9,117,none⟩)])])).modify 6 (setObj (litCells Rows.laid_internal_strconv_uint64pow10))).modify 7 (setObj (litCells Rows.laid_math_bits_deBruijn32tab))).modify 8 (setObj (litCells Rows.laid_math_bits_deBruijn64tab))).modify 2 (setObj #[.iface 279 (.pointer (some ⟨lowOf P+1,0,none⟩))])).modify 3 (setObj #[.iface 279 (.pointer (some ⟨lowOf P+2,0,none⟩))])).modify 4 (setObj #[.iface 279 (.pointer (some ⟨lowOf P+3,0,none⟩))])).modify 5 (setObj #[.iface 279 (.pointer (some ⟨lowOf P+4,0,none⟩))]) }
theorem laidWorld_met (os:Os) (args:Array Value):laidMetH Tryz.prog Rows.netsRow.laid ((laidIn Tryz.prog os).forCall (fun _ _=>0) ⟨#[],args,[]⟩).memory :=
 laidMetH_of_parts (laidMet_of_run' 8 (by kernel_rfl) (by kernel_rfl)) (by kernel_rfl)
theorem sz_head {P:Program} {H:Type} {t:TypeId} {ts:List TypeId} {d:DataW H} {ds:List (DataW H)} {f:Nat→Bool} (h:(DataW.weightsEach P (t::ts) (d::ds)).all f=true):(DataW.weightsEach P [t] [d]).all f=true:=by
 simp only [DataW.weightsEach,List.all_append,Bool.and_eq_true] at h ⊢
 exact ⟨h.1,rfl⟩
end Go.Proofs.YthbcfepbkkbjiaaGreatDoor
