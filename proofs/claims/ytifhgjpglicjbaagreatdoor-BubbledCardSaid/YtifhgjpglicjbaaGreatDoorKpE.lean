/-
  The statements of stagehandkeep: what the rows' list of variables gives the walk.
-/
import Derived.Test.YtifhgjpglicjbaaGreatDoorLkB
import Derived.Test.YtifhgjpglicjbaaGreatDoorRows
import Derived.Lib.LaidTab
import Derived.ProofKit
import Derived.LaidMore
import Derived.LaidHandle
import Derived.Stop.Joined
import Derived.Stop.ErrReads
import Derived.Stop.LaidTwo
namespace Go.Proofs.YtifhgjpglicjbaaGreatDoor
open Go.RowKit Go.ChangeShapes
theorem laidVars_sub {P:Program}{w:World}{l l':List (String×DataW Unit)}(h:l'.Sublist l):∀{ps},DataW.LaidVars P w l ps→∃ps',DataW.LaidVars P w l' ps'∧ps'.Sublist ps:=by
 induction h with
 | slnil=>intro ps hv;exact⟨ps,hv,List.Sublist.refl _⟩
 | cons a _ ih =>
  intro ps hv
  obtain⟨n,d⟩:=a
  obtain⟨g,t,cs,fuel,p,q,_,_,_,_,hq,rfl⟩:=hv
  obtain⟨ps',h1,h2⟩:=ih hq
  exact⟨ps',h1,h2.trans (List.sublist_append_right _ _)⟩
 | cons_cons a _ ih =>
  intro ps hv
  obtain⟨n,d⟩:=a
  obtain⟨g,t,cs,fuel,p,q,h1,h2,h3,h4,hq,rfl⟩:=hv
  obtain⟨q',k1,k2⟩:=ih hq
  exact⟨_,⟨g,t,cs,fuel,p,q',h1,h2,h3,h4,k1,rfl⟩,(List.Sublist.refl _).append k2⟩
theorem laidMet_sub {P:Program}{w:World}{l l':List (String×DataW Unit)}(h:laidMet P l w)(hs:l'.Sublist l):laidMet P l' w:=by
 obtain⟨ps,hv,hnd,hr⟩:=h
 obtain⟨ps',h1,h2⟩:=laidVars_sub hs hv
 exact⟨ps',h1,h2.nodup hnd,fun b off hm=>hr b off (h2.subset hm)⟩
theorem laidMet_two {P:Program}{w:World}{l:List (String×DataW Unit)}(h:laidMet P l w){i j:Nat}{x y:String×DataW Unit}(hi:l[i]?=some x)(hj:l[j]?=some y)(hij:i<j):laidMet P [x,y] w:=by
 refine laidMet_sub h ?_
 obtain⟨hlt,hx⟩:=List.getElem?_eq_some_iff.1 hi
 have e:l=l.take i++x::l.drop (i+1):=by
  rw[←hx,←List.drop_eq_getElem_cons hlt,List.take_append_drop]
 have hy:y∈l.drop (i+1):=List.mem_of_getElem? (i:=j-(i+1)) (by rw[List.getElem?_drop,show i+1+(j-(i+1))=j by omega];exact hj)
 rw[e]
 exact ((List.singleton_sublist.2 hy).cons_cons x).trans (List.sublist_append_right _ _)
theorem laid_parts {P:Program}{w:World}{l:List (String×DataW Unit)}(h:laidMetH P l w)(hs:(l.filter fun x=>x.2.handleName?.isSome).isEmpty=false):
  laidMet P (l.filter fun x=>x.2.handleName?.isNone) w∧handlesMet P (l.filter fun x=>x.2.handleName?.isSome) w:=by
 unfold laidMetH at h
 generalize (l.filter fun x=>x.2.handleName?.isSome)=fl at h hs ⊢
 cases fl with
 | nil=>cases hs
 | cons a r=>exact h
def plainL:List (String×DataW Unit):=Rows.backRow.laid.filter fun x=>x.2.handleName?.isNone
def gi:Nat→Nat
 | 1=>3
 | 2=>6
 | 3=>1
 | 4=>7
 | 5=>5
 | 6=>8
 | 7=>4
 | _=>0
theorem sent_at (i:Nat)(h1:1≤i)(h2:i≤8):∃n text,plainL[i+4]?=some (n,DataW.iface "*errors.errorString" (.ptr (.agg [.lit (.string text)])))∧Tryz.prog.globalNamed n=some (gi i)∧(Tryz.prog.globals[gi i]?).map (·.type)=some 28:=by
 match i,h1,h2 with
 | 1,_,_=>exact⟨ "stagehand/api.ErrLong", _,(show plainL[1+4]?=some ("stagehand/api.ErrLong", Rows.laid_stagehand_api_ErrLong) by kernel_rfl),by kernel_rfl,by kernel_rfl⟩
 | 2,_,_=>exact⟨ "stagehand/api.ErrText", _,(show plainL[2+4]?=some ("stagehand/api.ErrText", Rows.laid_stagehand_api_ErrText) by kernel_rfl),by kernel_rfl,by kernel_rfl⟩
 | 3,_,_=>exact⟨ "stagehand/api.ErrDeep", _,(show plainL[3+4]?=some ("stagehand/api.ErrDeep", Rows.laid_stagehand_api_ErrDeep) by kernel_rfl),by kernel_rfl,by kernel_rfl⟩
 | 4,_,_=>exact⟨ "stagehand/api.ErrName", _,(show plainL[4+4]?=some ("stagehand/api.ErrName", Rows.laid_stagehand_api_ErrName) by kernel_rfl),by kernel_rfl,by kernel_rfl⟩
 | 5,_,_=>exact⟨ "stagehand/api.ErrTwice", _,(show plainL[5+4]?=some ("stagehand/api.ErrTwice", Rows.laid_stagehand_api_ErrTwice) by kernel_rfl),by kernel_rfl,by kernel_rfl⟩
 | 6,_,_=>exact⟨ "stagehand/api.ErrArity", _,(show plainL[6+4]?=some ("stagehand/api.ErrArity", Rows.laid_stagehand_api_ErrArity) by kernel_rfl),by kernel_rfl,by kernel_rfl⟩
 | 7,_,_=>exact⟨ "stagehand/api.ErrMain", _,(show plainL[7+4]?=some ("stagehand/api.ErrMain", Rows.laid_stagehand_api_ErrMain) by kernel_rfl),by kernel_rfl,by kernel_rfl⟩
 | 8,_,_=>exact⟨ "stagehand/api.ErrFault", _,(show plainL[8+4]?=some ("stagehand/api.ErrFault", Rows.laid_stagehand_api_ErrFault) by kernel_rfl),by kernel_rfl,by kernel_rfl⟩
theorem starE : "*" ++ "errors.errorString" = "*errors.errorString" := by decide
theorem rowErr (u:TypeId)(h:Tryz.prog.typeName? 3 u=some "*errors.errorString"):u=402 :=
 typeName_ptr_named (nm := "errors.errorString") (by rw[starE];kernel_rfl) (by kernel_rfl) (by decide) u (by rw[starE];exact h)
theorem cellsES:Tryz.prog.cellsOf 404=1:=by kernel_rfl
theorem cellsStr:Tryz.prog.cellsOf 9=1:=by kernel_rfl
theorem rtRow:(Tryz.prog.cutTypes.find? (·.1 == "internal/reflectlite.rtype")).map (·.2)=some 135:=by kernel_rfl
theorem typesN:Tryz.prog.types.size=533-100:=by kernel_rfl
theorem oneError:((List.range (533-100)).filter fun t=>Tryz.prog.rowNamed t [101,114,114,111,114])=[28]:=by kernel_rfl
theorem gErr:Tryz.prog.globalNamed "errors.errorType" = some 9:=by kernel_rfl
theorem handle_of {W:World}(hh:handlesMet Tryz.prog (Rows.backRow.laid.filter fun x=>x.2.handleName?.isSome) W):
  W.cell? ⟨9,0,none⟩=some (.iface 135 (.agg #[.pointer (some ⟨15,28,none⟩)])):=by
 have hm:("errors.errorType", Rows.laid_errors_errorType)∈Rows.backRow.laid.filter fun x=>x.2.handleName?.isSome:=List.mem_of_getElem? (i:=0) (by kernel_rfl)
 have h0:=hh _ hm
 have hf:(Rows.laid_errors_errorType:DataW Unit).funcsIn?=none:=by kernel_rfl
 have hn:(Rows.laid_errors_errorType:DataW Unit).handleName?=some [101,114,114,111,114]:=by kernel_rfl
 simp only[hf] at h0
 obtain⟨name,u,ty,e1,e2,e3,e4,e5⟩:=h0
 have en:name=[101,114,114,111,114]:=Option.some.inj (e1.symm.trans hn)
 subst en
 obtain rfl:=Option.some.inj (rtRow.symm.trans e2)
 have hm:ty∈(List.range (533-100)).filter fun t=>Tryz.prog.rowNamed t [101,114,114,111,114]:=List.mem_filter.2 ⟨List.mem_range.2 (by rw[←typesN];exact e3),e4⟩
 rw[oneError] at hm
 obtain rfl:=List.mem_singleton.1 hm
 have hv:typeHandle Tryz.prog 28=.pointer (some ⟨15,28,none⟩):=by kernel_rfl
 rw[hv] at e5
 simpa using World.var?_cell gErr e5 0
theorem pair_of {W:World}(hp:laidMet Tryz.prog plainL W)(i j:Nat)(hi:1≤i)(hij:i<j)(hj:j≤8):
  ∃a0 a1,W.cell? ⟨gi i,0,none⟩=some (errVal a0)∧W.cell? ⟨gi j,0,none⟩=some (errVal a1)∧a0≠a1∧(∃c t,W.heap[a0.block]?=some (.cells c t (0,0)))∧∃c t,W.heap[a1.block]?=some (.cells c t (0,0)):=by
 obtain⟨n0,x0,e0,g0,t0⟩:=sent_at i hi (by omega)
 obtain⟨n1,x1,e1,g1,t1⟩:=sent_at j (by omega) hj
 obtain⟨a0,a1,s0,s1,c0,c1,u0,u1,v0,v1,_,_,_,_,_,_,hne,r0,r1⟩:=laid_sentinels2 (laidMet_two hp e0 e1 (by omega)) g0 t0 g1 t1 Tryz.underlying28 rowErr Tryz.underlying402 Tryz.underlying404 rfl rfl Tryz.underlying9 cellsES cellsStr
 exact⟨a0,a1,by simpa using World.var?_cell g0 v0 0,by simpa using World.var?_cell g1 v1 0,hne,⟨_,_,r0⟩,⟨_,_,r1⟩⟩
theorem big_of {W:World}(hp:laidMet Tryz.prog plainL W):15≤W.heap.size:=by
 have e:plainL[1]?=some ("math/bits.deBruijn64tab", Rows.laid_math_bits_deBruijn64tab):=by kernel_rfl
 obtain⟨hlt,hx⟩:=List.getElem?_eq_some_iff.1 e
 have h1:laidMet Tryz.prog [("math/bits.deBruijn64tab", Rows.laid_math_bits_deBruijn64tab)] W:=laidMet_sub hp (List.singleton_sublist.2 (List.mem_of_getElem? e))
 obtain⟨ps,⟨g,t,cs,f,p,q,hg,ht,hv,_⟩,_⟩:=h1
 have hg':Tryz.prog.globalNamed "math/bits.deBruijn64tab" = some 14:=by kernel_rfl
 obtain rfl:=Option.some.inj (hg'.symm.trans hg)
 unfold World.var? at hv
 rw[hg'] at hv
 rcases Nat.lt_or_ge 14 W.heap.size with h | h
 ·omega
 ·have hn:W.heap[14]?=none:=by simpa using h
  simp[hn] at hv
theorem gTab:Tryz.prog.globalNamed "internal/strconv.uint64pow10" = some 10:=by kernel_rfl
theorem tabType:∃t e,(Tryz.prog.globals[10]?).map (·.type)=some t∧Tryz.prog.underlying t=some (.array 20 e)∧Tryz.prog.underlying e=some (.int .u64)∧Tryz.prog.cellsOf e=1∧Tryz.prog.cellsOf t=20:=⟨348,319,by kernel_rfl,by kernel_rfl,by kernel_rfl,by kernel_rfl,by kernel_rfl⟩
theorem numG_of {W:World}(hL:laidMetH Tryz.prog Rows.backRow.laid W):NumG W:=by
 obtain⟨hp0,_⟩:=laid_parts hL (by kernel_rfl)
 have hp:laidMet Tryz.prog plainL W:=hp0
 obtain⟨t,e,h1,h2,h3,h4,h5⟩:=tabType
 have e2:plainL[2]?=some ("internal/strconv.uint64pow10", Lib.tabData .u64 Lib.pow10Tab):=by kernel_rfl
 have m2:laidMet Tryz.prog [("internal/strconv.uint64pow10", Lib.tabData .u64 Lib.pow10Tab)] W:=laidMet_sub hp (List.singleton_sublist.2 (List.mem_of_getElem? e2))
 have e3:plainL[3]?=some ("strconv.ErrRange", Rows.laid_strconv_ErrRange):=by kernel_rfl
 have e4:plainL[4]?=some ("strconv.ErrSyntax", Rows.laid_strconv_ErrSyntax):=by kernel_rfl
 have g0:Tryz.prog.globalNamed "strconv.ErrRange" = some 12:=by kernel_rfl
 have g1:Tryz.prog.globalNamed "strconv.ErrSyntax" = some 11:=by kernel_rfl
 obtain⟨a0,a1,s0,s1,c0,c1,u0,u1,v0,v1,_⟩:=laid_sentinels2 (laidMet_two hp e3 e4 (by omega)) g0 (ti:=28) (by kernel_rfl) g1 (by kernel_rfl) Tryz.underlying28 rowErr Tryz.underlying402 Tryz.underlying404 rfl rfl Tryz.underlying9 cellsES cellsStr
 exact⟨Lib.tabIs_of_head (rest:=[]) gTab h1 h2 h3 h4 h5 m2,⟨_,_,by simpa using World.var?_cell g1 v1 0⟩,⟨_,_,by simpa using World.var?_cell g0 v0 0⟩⟩
theorem g0_of {W:World}(hL:laidMetH Tryz.prog Rows.backRow.laid W):∃E,G0 W E:=by
 obtain⟨hp0,hh⟩:=laid_parts hL (by kernel_rfl)
 have hp:laidMet Tryz.prog plainL W:=hp0
 have one:∀i,∃a,1≤i→i≤8→W.cell? ⟨gi i,0,none⟩=some (errVal a):=by
  intro i
  by_cases h:1≤i∧i≤8
  ·by_cases h8:i≤7
   ·obtain⟨a0,a1,p0,p1,_⟩:=pair_of hp i 8 h.1 (by omega) (by omega)
    exact⟨a0,fun _ _=>p0⟩
   ·obtain⟨a0,a1,p0,p1,_⟩:=pair_of hp 1 i (by omega) (by omega) h.2
    exact⟨a1,fun _ _=>p1⟩
  ·exact⟨⟨0,0,none⟩,fun h1 h2=>absurd ⟨h1,h2⟩ h⟩
 obtain⟨E,hE⟩:=Classical.axiomOfChoice one
 refine⟨E,⟨hE 1 (by omega) (by omega),hE 2 (by omega) (by omega),hE 3 (by omega) (by omega),hE 4 (by omega) (by omega),hE 5 (by omega) (by omega),hE 6 (by omega) (by omega),hE 7 (by omega) (by omega)⟩,⟨handle_of hh,E 8,hE 8 (by omega) (by omega)⟩,numG_of hL,big_of hp⟩
end Go.Proofs.YtifhgjpglicjbaaGreatDoor
