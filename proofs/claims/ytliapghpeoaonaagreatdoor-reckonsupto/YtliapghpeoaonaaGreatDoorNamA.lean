/-
  The small functions of names.go: slices.Contains, wrongName, within, check.
-/
import Derived.Test.YtliapghpeoaonaaGreatDoorFun
import Derived.Deep.RegionLawGrows
import Derived.Test.YtliapghpeoaonaaGreatDoorPure
import Derived.Maps.OwnSet
import Derived.Deep.DeepCutAuto
set_option maxHeartbeats 1000000
set_option maxRecDepth 100000
namespace Go.Proofs.YtliapghpeoaonaaGreatDoor
open Go.Proofs.Tryz
open Go.RowKit
attribute [local go_sem ↓] Go.wp_at_zero Go.wp_at_succ
def Zcv (w:World)(D:Nat→Prop)(sv:Value)(bs:List ByteArray):Prop:=Zao w D 9 1 sv bs.length (bs.map Value.string)
def Zzv (bs:List ByteArray)(v:ByteArray):Bool:=bs.any fun b=>v.toList==b.toList
theorem hasB_iff (bs:List ByteArray)(v:ByteArray):Zzv bs v=true ↔ v.data.toList∈bs.map fun b=>b.data.toList:=by
 simp only[Zzv,List.any_eq_true,beq_iff_eq,List.mem_map,ByteArray.toList_eq]
 constructor
 ·rintro ⟨b,h1,h2⟩;exact⟨b,h1,h2.symm⟩
 ·rintro ⟨b,h1,h2⟩;exact⟨b,h1,h2.symm⟩
theorem Z2a (sv:Value)(bs:List ByteArray)(v:ByteArray)(w:World)(D:Nat→Prop)(h:Zcv w D sv bs)(hn:bs.length≤100000):
  Calls prog 214 #[sv,.string v] w fun e w'=>(∃i:Int,e=.returned (.int .i64 i)∧((0≤i) ↔ Zzv bs v=true))∧w'=w:=by
 rcases h.2 with ⟨rfl,h0⟩ | ⟨g,cap,cur,rfl,hg,hh,hc,hm,hz,ht⟩
 ·have:bs=[]:=List.eq_nil_of_length_eq_zero h0
  subst this
  go_enter func214,ntmps214
  go_wp2
  go_loop [8] (fun i=>i=.int .i64 0) (fun _=>0)
  case atStart=>rfl
  case round =>
   subst hrel
   go_wp2
   go_ret
   exact⟨⟨-1,rfl,by simp[Zzv]⟩,rfl⟩
 ·have hcell:∀j (hj:j<bs.length),w.cell? ⟨g,j,none⟩=some (.string bs[j]):=fun j hj=>by
   have:w.cell? ⟨g,j,none⟩=cur[j]?:=by unfold World.cell?;rw[hh];rfl
   rw[this,←Array.getElem?_toList]
   have h2:(cur.toList.take (bs.length*1))[j]?=(bs.map Value.string)[j]?:=by rw[ht]
   rw[List.getElem?_take,if_pos (by omega)] at h2
   rw[h2]
   simp[hj]
  clear ht hz hh h
  unfold maxLen at hm
  go_enter func214,ntmps214
  go_wp2
  go_loop [8] (fun i=>∃k:Nat,i=.int .i64 k∧k≤bs.length∧Hid (∀j (hj:j<k) (hl:j<bs.length),(v.toList==bs[j].toList)=false)) (fun i=>bs.length-(intOf i).toNat)
  case atStart=>exact⟨0,rfl,by omega,fun j hj _=>absurd hj (by omega)⟩
  case round =>
   obtain⟨k,rfl,hk,hall⟩:=hrel
   by_cases hlt:k<bs.length
   ·have hck:=hcell k hlt
    cases he:(v.toList==bs[k].toList)
    ·go_wp2
     go_round
     case rel =>
      refine⟨k+1,by go_num,by omega,fun j hj hl=>?_⟩
      by_cases e:j=k
      ·subst e;exact he
      ·exact hall.out j (by omega) hl
     case measure=>simp[intOf];omega
    ·go_wp2
     go_ret
     refine⟨⟨k,rfl,?_⟩,rfl⟩
     have:Zzv bs v=true:=by
      simp only[Zzv,List.any_eq_true]
      exact⟨bs[k],List.getElem_mem _,he⟩
     simp[this]
   ·go_wp2
    go_ret
    refine⟨⟨-1,rfl,?_⟩,rfl⟩
    have:Zzv bs v=false:=by
     simp only[Zzv,List.any_eq_false]
     intro b hb
     obtain⟨j,hj,rfl⟩:=List.getElem_of_mem hb
     have:=hall.out j (by omega) hj
     simp[this]
    simp[this]
theorem Zl1 (sv:Value)(bs:List ByteArray)(v:ByteArray)(w:World)(D:Nat→Prop)(h:Zcv w D sv bs)(hn:bs.length≤100000):
  Calls prog 190 #[sv,.string v] w fun e w'=>e=.returned (.bool (Zzv bs v))∧w'=w:=by
 have ci:=fun w h=>Z2a sv bs v w D h hn
 go_enter func190,ntmps190
 go_wp2_with (go_at_call 214;refine (ci _ h).mono ?_;rintro e w' ⟨⟨i,rfl,hi⟩,rfl⟩)
 go_ret
 exact⟨Zdn (Bool.eq_iff_iff.2 (by simp)),rfl⟩
theorem Ze3 (nb:ByteArray)(at_:Nat)(a:Addr)(w:World):
  Calls prog 189 #[Zd7 nb at_,Za8 a] w fun e w'=>e=.returned (Za2 at_ a)∧Below w.heap.size w w':=by
 go_enter func189,ntmps189
 go_wp2
 go_ret
 exact⟨rfl,Zab w _⟩
def clipV:Value→Value
 | .slice ad n _=>.slice ad n (if ad.isSome then n else 0)
 | v=>v
theorem Z27 (g n cap:Nat)(w:World)(hc:n≤cap)(_hm:cap≤maxLen):
  Calls prog 257 #[.slice (some ⟨g,0,none⟩) n cap] w fun e w'=>e=.returned (.slice (some ⟨g,0,none⟩) n n)∧w'=w:=by
 unfold maxLen at _hm
 go_enter func257,ntmps257
 go_wp2
 go_ret
 exact⟨rfl,rfl⟩
theorem Z28 (w:World):
  Calls prog 257 #[.slice none 0 0] w fun e w'=>e=.returned (.slice none 0 0)∧w'=w:=by
 go_enter func257,ntmps257
 go_wp2
 go_ret
 exact⟨rfl,rfl⟩
theorem Tryz.infoString:(prog.info? 9).map (fun i=>(i.zero,i.size,i.bytes))=some (some (.string ⟨#[]⟩),1,16):=by kernel_rfl
theorem Zq7 (w:World)(o:Obj)(x:Value)(t:TypeId):∀j u,[x][j]?=some u→((w.alloc o).alloc (.cells #[x] t)).cell? ((⟨w.heap.size+1,0,none⟩:Addr).add j)=some u:=by
 have:=cell_one_new (w.alloc o) x t
 simpa using this
set_option maxRecDepth 20000 in
theorem Zxi (sv:Value)(bs:List ByteArray)(nb:ByteArray)(at_:Nat)(w:World)(D:Nat→Prop)(h:Zcv w D sv bs)(hn:bs.length≤100000):
  Calls prog 226 #[sv,Zd7 nb at_] w fun e w'=>∃v',e=.returned v'∧Zcv w' (w.heap.size≤·) v' (bs++[nb])∧Below w.heap.size w w':=by
 obtain⟨n0,n1,n2⟩:=Zh5 w (.string nb) (.int .i64 ((at_:Nat):Int)) 138
 have fin:∀(v':Value) (w6:World),w6.ownsRow (w.heap.size+2) 9 1 v' (bs.length+1) (bs.map Value.string++[.string nb])→((w.alloc (Obj.cells #[.string nb,.int .i64 ((at_:Nat):Int)] 138)).alloc (Obj.cells #[.string nb] 9)).drew.grownBy w6 none→Zcv w6 (w.heap.size≤·) v' (bs++[nb])∧Below w.heap.size w w6:=by
  intro v' w6 hown hgrow
  refine⟨?_,?_⟩
  ·have:Zao w6 (w.heap.size≤·) 9 1 v' (bs.length+1) (bs.map Value.string++[.string nb]):=Zao.of_owns (Znw hown (by omega))
   unfold Zcv
   rw[List.length_append,List.map_append]
   exact this
  ·exact Below.grown ((((Below.refl _ _).alloc (Nat.le_refl _) _).alloc (by simp) _).drew) hgrow (by simp;omega) (fun k hk=>by cases hk)
 rcases h.2 with ⟨rfl,h0⟩ | ⟨g,cap,cur,rfl,hg,hh,hc,hm,hz,ht⟩
 ·have:bs=[]:=List.eq_nil_of_length_eq_zero h0
  subst this
  have FN:Hid (∀(v':Value) (w6:World),w6.ownsRow (w.heap.size+2) 9 1 v' (0+1) ([]++[.string nb])→((w.alloc (Obj.cells #[.string nb,.int .i64 ((at_:Nat):Int)] 138)).alloc (Obj.cells #[.string nb] 9)).drew.grownBy w6 none→Zcv w6 (w.heap.size≤·) v' ([]++[nb])∧Below w.heap.size w w6):=fin
  clear h h0 n1 n2 fin
  go_enter func226,ntmps226
  go_wp2
  go_region_held3 (fun w'=>w'.cell? ⟨w.heap.size,0,none⟩=some (.string nb)) (first | go_keep | (refine Zd0 hgrow ?_ (by simp);(first | assumption | (exact Zac n0))))
   ((first
    |(go_at_call 257;refine (Z28 _).mono ?_;rintro e w' ⟨rfl,rfl⟩)
    |(obtain⟨i0,hi,hz0,hz1,hz2⟩:=info_parts Tryz.infoString;refine step_append_grows ?_ (.tmp 6) (.tmp 9) 30 ?_ 9 i0 (.string ⟨#[]⟩) 1 16 underlying30 hi hz0 hz1 hz2 rfl (by decide) none 0 0 [] ?_ ?_ rfl ?_ ⟨w.heap.size+1,0,none⟩ 1 1 [.string nb] ?_ rfl ?_ ?_ (by decide) ?_ (by decide) ?_;(rfl);(rfl);(rfl);(exact fun _=>⟨rfl,rfl⟩);(exact fun b hb=>by cases hb);(rfl);(exact Zq7 w _ _ _);(intro u hu;simp at hu;subst hu;rfl);(unfold maxLen;decide);clear hi hz0 hz1 hz2;intro v' w6 hown' hgrow)))
  all_goals go_wp2
  all_goals go_ret
  all_goals refine⟨v',rfl,FN.out v' w6 ?_ hgrow⟩
  all_goals simpa using hown'
 ·have hcell:∀j u,(bs.map Value.string)[j]?=some u→w.cell? ⟨g,j,none⟩=some u:=fun j u hj=>by
   have:w.cell? ⟨g,j,none⟩=cur[j]?:=by unfold World.cell?;rw[hh];rfl
   rw[this,←Array.getElem?_toList]
   have hl:j<bs.length:=by
    have:=(List.getElem?_eq_some_iff.1 hj).1
    simpa using this
   have h2:(cur.toList.take (bs.length*1))[j]?=(bs.map Value.string)[j]?:=by rw[ht]
   rw[List.getElem?_take,if_pos (by omega)] at h2
   rw[h2]
   exact hj
  have hlt:=Zag hh
  have hcA:∀(b:Addr),some (⟨g,0,none⟩:Addr)=some b→∀j u,(bs.map Value.string)[j]?=some u→((w.alloc (Obj.cells #[.string nb,.int .i64 ((at_:Nat):Int)] 138)).alloc (Obj.cells #[.string nb] 9)).cell? (b.add j)=some u:=by
   intro b hb j u hj
   cases hb
   have:=Zac (o:=Obj.cells #[.string nb] 9) (Zac (o:=Obj.cells #[.string nb,.int .i64 ((at_:Nat):Int)] 138) (hcell j u hj))
   rw[show (⟨g,0,none⟩:Addr).add j=⟨g,j,none⟩ from by by_cases h:j=0<;>simp[Addr.add,h]]
   exact this
  have HC:Hid (∀(b:Addr),some (⟨g,0,none⟩:Addr)=some b→∀j u,(bs.map Value.string)[j]?=some u→((w.alloc (Obj.cells #[.string nb,.int .i64 ((at_:Nat):Int)] 138)).alloc (Obj.cells #[.string nb] 9)).cell? (b.add j)=some u):=hcA
  have FN:Hid (∀(v':Value) (w6:World),w6.ownsRow (w.heap.size+2) 9 1 v' (bs.length+1) (bs.map Value.string++[.string nb])→((w.alloc (Obj.cells #[.string nb,.int .i64 ((at_:Nat):Int)] 138)).alloc (Obj.cells #[.string nb] 9)).drew.grownBy w6 none→Zcv w6 (w.heap.size≤·) v' (bs++[nb])∧Below w.heap.size w w6):=fin
  clear h n1 n2 fin hcA hcell hz ht hh
  go_enter func226,ntmps226
  go_wp2
  go_region_held3 (fun w'=>w'.cell? ⟨w.heap.size,0,none⟩=some (.string nb)) (first | go_keep | (refine Zd0 hgrow ?_ (by simp);(first | assumption | (exact Zac n0))))
   ((first
    |(go_at_call 257;refine (Z27 g bs.length cap _ hc hm).mono ?_;rintro e w' ⟨rfl,rfl⟩)
    |(obtain⟨i0,hi,hz0,hz1,hz2⟩:=info_parts Tryz.infoString;refine step_append_grows ?_ (.tmp 6) (.tmp 9) 30 ?_ 9 i0 (.string ⟨#[]⟩) 1 16 underlying30 hi hz0 hz1 hz2 rfl (by decide) (some ⟨g,0,none⟩) bs.length bs.length (bs.map Value.string) ?_ ?_ ?_ ?_ ⟨w.heap.size+1,0,none⟩ 1 1 [.string nb] ?_ rfl ?_ ?_ ?_ ?_ ?_ ?_;(rfl);(rfl);(rfl);(exact fun h=>by cases h);(simp);(exact HC.out);(rfl);(exact Zq7 w _ _ _);(intro u hu;simp at hu;subst hu;rfl);(omega);(unfold maxLen;omega);(omega);clear hi hz0 hz1 hz2;intro v' w6 hown' hgrow)))
  all_goals go_wp2
  all_goals go_ret
  all_goals refine⟨v',rfl,FN.out v' w6 ?_ hgrow⟩
  all_goals simpa using hown'
end Go.Proofs.YtliapghpeoaonaaGreatDoor
namespace Go.Proofs.YtliapghpeoaonaaGreatDoor
open Go.Proofs.Tryz
open Go.RowKit Go.Maps
attribute [local go_sem ↓] Go.wp_at_zero Go.wp_at_succ
def Z35 (D:DataW Unit)(fs:List (List UInt8×Nat)):Prop :=
 ∀l:List UInt8,Maps.has D (.string l)=(Zc9 fs l).isSome∧D.atKey (.string l) (.lit (.int .i64 0))=.lit (.int .i64 (((Zc9 fs l).getD 0:Nat):Int))
theorem law:Keyed prog 9:=string_keyed underlying9
theorem Zzz (w:World):(zeroValue 3).run prog w=.ok (.int .i64 0) w:=by kernel_rfl
def Zcw (w:World)(B:Nat)(fs:List (List UInt8×Nat)):Prop :=
 ∃(n:Nat) (D:DataW Unit),w.ownsMap prog 9 (plainElem prog 3) B n D∧n≤fs.length∧Z35 D fs
theorem Zcw.below {w w':World}{B:Nat}{fs:List (List UInt8×Nat)}(h:Zcw w B fs)(hb:Below w.heap.size w w'):Zcw w' B fs:=by
 obtain⟨n,D,h1,h2,h3⟩:=h
 obtain⟨es,clock,g1,g2⟩:=h1
 exact⟨n,D,⟨es,clock,by rw[hb.block B (Zag g1)];exact g1,g2⟩,h2,h3⟩
theorem Zcw.alloc {w:World}{B:Nat}{fs:List (List UInt8×Nat)}(h:Zcw w B fs)(o:Obj):Zcw (w.alloc o) B fs:=h.below (Zab w o)
structure Zgl (w:World)(aN aA aW:Addr):Prop where
 eN:w.cell? ⟨5,0,none⟩=some (Za8 aN)
 eA:w.cell? ⟨7,0,none⟩=some (Za8 aA)
 eW:w.cell? ⟨6,0,none⟩=some (Za8 aW)
theorem Zgl.below {w w':World}{aN aA aW:Addr}(h:Zgl w aN aA aW)(hb:Below w.heap.size w w'):Zgl w' aN aA aW:=⟨Below.cellv hb h.eN,Below.cellv hb h.eA,Below.cellv hb h.eW⟩
def Zgn (o:Option (Nat×Nat))(aN aA aW:Addr):Value :=
 match o with
 | none=>.nilIface
 | some (c,p)=>Za2 p (if c=4 then aN else if c=6 then aA else aW)
theorem Zt7 (B:Nat)(fs:List (List UInt8×Nat))(nb:ByteArray)(at_ c:Nat)(w:World)(aN aA aW:Addr)(hA:Zcw w B fs)(hE:Zgl w aN aA aW)(hnb:nb.size≤2000):
  Calls prog 227 #[.map (some B),Zd7 nb at_,.int .i64 ((c:Nat):Int)] w fun e w'=>e=.returned (Zgn (Zcb fs nb.data.toList at_ c) aN aA aW)∧Below w.heap.size w w':=by
 obtain⟨n,D,hown,hn,hD⟩:=hA
 obtain⟨d1,d2⟩:=hD nb.data.toList
 have hkey:keyOf prog 9 (.string nb)=some (.string nb.data.toList):=WideMaps.keyOf_string_mk underlying9 (by unfold maxLen;omega)
 obtain⟨eN,eA,eW⟩:=hE
 have l1:=Zae eN
 have l2:=Zae eA
 cases hL:Zc9 fs nb.data.toList with
 | none =>
  rw[hL] at d1 d2
  have d1':Maps.has D (.string nb.data.toList)=false:=d1
  have e:Zcb fs nb.data.toList at_ c=some (4,at_):=by simp[Zcb,hL]
  rw[e]
  clear d1 hL e
  go_enter func227,ntmps227
  go_wp2_with (first
   |(at_lookup;refine wpList_lookup_own_ok_int _ rfl _ _ 316 rfl 9 3 .i64 law underlying316 underlying3 (Zzz _) B n D rfl (hown.alloc _) _ _ rfl hkey ?_;intro k hk _)
   |(go_at_call 189;refine (Ze3 nb at_ aN _).mono ?_;rintro e w' ⟨rfl,hb⟩))
  go_ret
  exact⟨rfl,(Zab w _).trans (hb.mono (by simp))⟩
 | some k =>
  rw[hL] at d1 d2
  have d1':Maps.has D (.string nb.data.toList)=true:=d1
  have D2:Hid (D.atKey (.string nb.data.toList) (.lit (.int .i64 0))=.lit (.int .i64 ((k:Nat):Int))):=d2
  have e:Zcb fs nb.data.toList at_ c=if k=c then none else some (6,at_):=by simp[Zcb,hL]
  rw[e]
  clear d1 d2 hL e
  by_cases hkc:k=c
  ·subst hkc
   rw[if_pos rfl]
   go_enter func227,ntmps227
   go_wp2_with (at_lookup;refine wpList_lookup_own_ok_int _ rfl _ _ 316 rfl 9 3 .i64 law underlying316 underlying3 (Zzz _) B n D rfl (hown.alloc _) _ _ rfl hkey ?_;intro k' hk hwf;clear hwf;have hkk:k'=((k:Nat):Int):=(by rw[D2.out] at hk;simpa using hk.symm);subst hkk;clear hk)
   go_ret
   exact⟨rfl,Zab w _⟩
  ·rw[if_neg hkc]
   have hne:((k:Nat):Int)≠((c:Nat):Int):=by omega
   clear hkc
   generalize ((k:Nat):Int)=ki at D2 hne
   generalize ((c:Nat):Int)=ci at hne ⊢
   go_enter func227,ntmps227
   go_upto_region 4 with (at_lookup;refine wpList_lookup_own_ok_int _ rfl _ _ 316 rfl 9 3 .i64 law underlying316 underlying3 (Zzz _) B n D rfl (hown.alloc _) _ _ rfl hkey ?_;intro k' hk hwf;clear hwf;have hkk:k'=ki:=(by rw[D2.out] at hk;simpa using hk.symm);subst hkk;clear hk)
   have hkc2:(k'==ci)=false:=by simpa using hne
   clear hown hkey D2 hD d1' hne
   go_wp2_with (go_at_call 189;refine (Ze3 nb at_ aA _).mono ?_;rintro e w' ⟨rfl,hb⟩)
   go_ret
   exact⟨rfl,(Zab w _).trans (hb.mono (by simp))⟩
end Go.Proofs.YtliapghpeoaonaaGreatDoor
namespace Go.Proofs.YtliapghpeoaonaaGreatDoor
open Go.Proofs.Tryz
open Go.RowKit
attribute [local go_sem ↓] Go.wp_at_zero Go.wp_at_succ
def Zat (bs:List ByteArray):List (List UInt8):=bs.map fun b=>b.data.toList
theorem Zit (bs:List ByteArray)(v:ByteArray):Zzv bs v=(Zat bs).contains v.data.toList:=by
 rw[Bool.eq_iff_iff,hasB_iff]
 simp[Zat]
def Zgk (k:Nat):Prop :=
 ∀(e:Ex) (v sv:Value) (bs:List ByteArray) (B:Nat) (fs:List (List UInt8×Nat)) (w:World) (D D2:Nat→Prop) (aN aA aW:Addr),szE e≤k→bs.length+szE e≤100000→Zc8 w D e v→Zcv w D2 sv bs→Zcw w B fs→Zgl w aN aA aW →
  Calls prog 191 #[v,sv,.map (some B)] w fun r w'=>r=.returned (Zgn (nmE fs (Zat bs) e) aN aA aW)∧Below w.heap.size w w'
theorem Zcv.below {w w':World}{D:Nat→Prop}{sv:Value}{bs:List ByteArray}(h:Zcv w D sv bs)(hb:Below w.heap.size w w'):Zcv w' D sv bs:=Zai h hb
theorem Zc8.below {w w':World}{D:Nat→Prop}{e:Ex}{v:Value}(h:Zc8 w D e v)(hb:Below w.heap.size w w'):Zc8 w' D e v:=h.map fun _ _ _ hr=>Zai hr hb
theorem Zbj.below {w w':World}{D:Nat→Prop}{e:List Ex}{v:List Value}(h:Zbj w D e v)(hb:Below w.heap.size w w'):Zbj w' D e v:=h.map fun _ _ _ hr=>Zai hr hb
theorem Zbj.at {w:World}{D:Nat→Prop}:∀{es:List Ex} {vs:List Value},Zbj w D es vs→∀j (hj:j<vs.length) (hj2:j<es.length),Zc8 w D es[j] vs[j]
 | [],vs,h,j,hj,hj2=>by simp at hj2
 | e::es,vs,h,j,hj,hj2=>by
  rw[Zbj] at h
  obtain⟨v,r,rfl,h2,h3⟩:=h
  cases j with
  | zero=>exact h2
  | succ j=>exact Zbj.at h3 j (by simpa using hj) (by simpa using hj2)
theorem Zd9 {k:Nat}(IH:Zgk k)(es:List Ex)(pv sv:Value)(vs:List Value)(bs:List ByteArray)(B:Nat)(fs:List (List UInt8×Nat))(w:World)(D D2 D3:Nat→Prop)(aN aA aW:Addr)(hsz:Zes es≤k+1)(hb:bs.length+Zes es≤100000)
  (hR:Zao w D3 141 1 pv vs.length vs) (hE:Zbj w D es vs) (hS:Zcv w D2 sv bs) (hA:Zcw w B fs) (hN:Zgl w aN aA aW) :
  Calls prog 228 #[pv,sv,.map (some B)] w fun r w'=>r=.returned (Zgn (Zfu fs (Zat bs) es) aN aA aW)∧Below w.heap.size w w':=by
 have hlen:=hE.length
 rcases Nat.eq_zero_or_pos vs.length with h0 | hpos
 ·have hv:vs=[]:=List.eq_nil_of_length_eq_zero h0
  have he:es=[]:=List.eq_nil_of_length_eq_zero (by omega)
  subst hv he
  obtain⟨ad,n,cap,rfl⟩:=Zgb hR
  have hn:n=0:=by
   rcases hR.2 with ⟨h,_⟩ | ⟨g,c,_,h,_⟩<;>(cases h;rfl)
  subst hn
  rw[Zfu]
  go_enter func228,ntmps228
  go_wp2
  go_loop [12] (fun i=>i=.int .i64 0) (fun _=>0)
  case atStart=>rfl
  case round =>
   subst hrel
   go_wp2
   go_ret
   exact⟨rfl,Below.refl _ _⟩
 ·obtain⟨g,cap,rfl,hg,hc1,hc2,hcell⟩:=hR.cell hpos
  unfold maxLen at hc2
  have hlt:g<w.heap.size:=by
   have:w.cell? ⟨g,0,none⟩=vs[0]?:=hcell 0 (by omega)
   rw[List.getElem?_eq_getElem hpos] at this
   exact Zae this
  have HL:Hid (vs.length=es.length):=hlen
  clear hlen
  have hvl:(vs.length:Int)≤100000:=by
   have h1:=Zmh es
   have h2:vs.length=es.length:=HL.out
   omega
  go_enter func228,ntmps228
  go_wp2
  go_loopg [12] vs.length (fun m i wr=>∃j:Nat,m=vs.length-j∧i=.int .i64 j∧j≤vs.length∧Below w.heap.size w wr∧Zfu fs (Zat bs) es=Zfu fs (Zat bs) (es.drop j))
  case atStart=>exact⟨0,by omega,rfl,by omega,Below.refl _ _,rfl⟩
  case round =>
   obtain⟨j,rfl,rfl,hj,hbw,heq⟩:=hrel
   have HQ:Aside (Zfu fs (Zat bs) es=Zfu fs (Zat bs) (es.drop j)):=heq
   clear heq
   by_cases hjl:j<vs.length
   ·have hje:j<es.length:=by have h2:vs.length=es.length:=HL.out;omega
    have cj:w.cell? ⟨g,j,none⟩=some vs[j]:=by rw[hcell j (by omega)];exact List.getElem?_eq_getElem hjl
    obtain⟨tj,xj,hv⟩:=(hE.at j hjl hje).iface
    have cw:wr.cell? ⟨g,j,none⟩=some (.iface tj xj):=by rw[←hv];exact Below.cellv hbw cj
    have hs1:=Zks es j hje
    have ce:=IH es[j] vs[j] sv bs B fs wr D D2 aN aA aW (by omega) (by omega) ((hE.at j hjl hje).below hbw) (hS.below hbw) (hA.below hbw) (hN.below hbw)
    rw[hv] at ce
    have hnd:=Z1q fs (Zat bs) es j hje
    have HQ2:Aside (Zfu fs (Zat bs) es=orE (nmE fs (Zat bs) es[j]) (Zfu fs (Zat bs) (es.drop (j+1)))):=by
     show _=_
     rw[HQ.out,hnd]
    have hbz:=hbw.size
    clear HQ hnd hcell hE hS hA hN cj IH hR
    cases hm:nmE fs (Zat bs) es[j] with
    | some x =>
     rw[hm] at ce
     obtain⟨c,p⟩:=x
     obtain⟨a,ha⟩:∃a,Zgn (some (c,p)) aN aA aW=Za2 p a:=⟨_,rfl⟩
     rw[ha] at ce
     have HP:Hid (Zgn (Zfu fs (Zat bs) es) aN aA aW=Za2 p a):=by show _=_;rw[HQ2.out,hm];exact ha
     clear HQ2 hm ha
     go_wp2_with (go_at_call 191;refine ce.mono ?_;rintro e w2 ⟨rfl,hb2⟩)
     go_ret
     exact⟨by rw[HP.out];rfl,hbw.trans (hb2.mono hbz)⟩
    | none =>
     rw[hm] at ce
     have HP:Aside (Zfu fs (Zat bs) es=Zfu fs (Zat bs) (es.drop (j+1))):=by show _=_;rw[HQ2.out,hm];rfl
     clear HQ2 hm
     go_wp2_with (go_at_call 191;refine ce.mono ?_;rintro e w2 ⟨rfl,hb2⟩;simp only[Zgn])
     go_roundg (vs.length-(j+1))
     case measure=>omega
     case rel=>exact⟨j+1,rfl,by go_num,by omega,hbw.trans (hb2.mono hbz),HP.out⟩
   ·have hP:Hid (Zfu fs (Zat bs) es=none):=by
     show _=_
     rw[HQ.out,List.drop_eq_nil_of_le (by have:=HL.out;omega),Zfu]
    go_wp2
    go_ret
    exact⟨by rw[hP.out];rfl,hbw⟩
theorem Zdq (x:Value)(w:World):(Instr.typeAssert (.iface 409 x) 141 409 true).run prog w=.ok (.tuple #[x,.bool true]) w:=by kernel_rfl
theorem Zfi (x:Value)(w:World):(Instr.typeAssert (.iface 411 x) 141 409 true).run prog w=.ok (.tuple #[.agg #[.int .i64 0,.string ⟨#[]⟩],.bool false]) w:=by kernel_rfl
theorem Zko (x:Value)(w:World):(Instr.typeAssert (.iface 411 x) 141 411 true).run prog w=.ok (.tuple #[x,.bool true]) w:=by kernel_rfl
theorem Zev (x:Value)(w:World):(Instr.typeAssert (.iface 414 x) 141 409 true).run prog w=.ok (.tuple #[.agg #[.int .i64 0,.string ⟨#[]⟩],.bool false]) w:=by kernel_rfl
theorem Zi2 (x:Value)(w:World):(Instr.typeAssert (.iface 414 x) 141 411 true).run prog w=.ok (.tuple #[.agg #[.int .i64 0,.string ⟨#[]⟩,.int .i64 0,.nilIface,.nilIface],.bool false]) w:=by kernel_rfl
theorem Zhg (x:Value)(w:World):(Instr.typeAssert (.iface 414 x) 141 414 true).run prog w=.ok (.tuple #[x,.bool true]) w:=by kernel_rfl
theorem Zfh (x:Value)(w:World):(Instr.typeAssert (.iface 418 x) 141 409 true).run prog w=.ok (.tuple #[.agg #[.int .i64 0,.string ⟨#[]⟩],.bool false]) w:=by kernel_rfl
theorem Zkn (x:Value)(w:World):(Instr.typeAssert (.iface 418 x) 141 411 true).run prog w=.ok (.tuple #[.agg #[.int .i64 0,.string ⟨#[]⟩,.int .i64 0,.nilIface,.nilIface],.bool false]) w:=by kernel_rfl
theorem Zi0 (x:Value)(w:World):(Instr.typeAssert (.iface 418 x) 141 414 true).run prog w=.ok (.tuple #[.agg #[.int .i64 0,.string ⟨#[]⟩,.int .i64 0,.slice none 0 0],.bool false]) w:=by kernel_rfl
theorem Zkm (x:Value)(w:World):(Instr.typeAssert (.iface 418 x) 141 418 true).run prog w=.ok (.tuple #[x,.bool true]) w:=by kernel_rfl
theorem Zeu (x:Value)(w:World):(Instr.typeAssert (.iface 420 x) 141 409 true).run prog w=.ok (.tuple #[.agg #[.int .i64 0,.string ⟨#[]⟩],.bool false]) w:=by kernel_rfl
theorem Zne (x:Value)(w:World):(Instr.typeAssert (.iface 420 x) 141 411 true).run prog w=.ok (.tuple #[.agg #[.int .i64 0,.string ⟨#[]⟩,.int .i64 0,.nilIface,.nilIface],.bool false]) w:=by kernel_rfl
theorem Zlj (x:Value)(w:World):(Instr.typeAssert (.iface 420 x) 141 414 true).run prog w=.ok (.tuple #[.agg #[.int .i64 0,.string ⟨#[]⟩,.int .i64 0,.slice none 0 0],.bool false]) w:=by kernel_rfl
theorem Znd (x:Value)(w:World):(Instr.typeAssert (.iface 420 x) 141 418 true).run prog w=.ok (.tuple #[.agg #[.int .i64 0,.string ⟨#[]⟩,.int .i64 0,.nilIface],.bool false]) w:=by kernel_rfl
theorem Zhf (x:Value)(w:World):(Instr.typeAssert (.iface 420 x) 141 420 true).run prog w=.ok (.tuple #[x,.bool true]) w:=by kernel_rfl
theorem Zf2 (x:Value)(w:World):(Instr.typeAssert (.iface 422 x) 141 409 true).run prog w=.ok (.tuple #[.agg #[.int .i64 0,.string ⟨#[]⟩],.bool false]) w:=by kernel_rfl
theorem Zsq (x:Value)(w:World):(Instr.typeAssert (.iface 422 x) 141 411 true).run prog w=.ok (.tuple #[.agg #[.int .i64 0,.string ⟨#[]⟩,.int .i64 0,.nilIface,.nilIface],.bool false]) w:=by kernel_rfl
theorem Zpm (x:Value)(w:World):(Instr.typeAssert (.iface 422 x) 141 414 true).run prog w=.ok (.tuple #[.agg #[.int .i64 0,.string ⟨#[]⟩,.int .i64 0,.slice none 0 0],.bool false]) w:=by kernel_rfl
theorem Zsp (x:Value)(w:World):(Instr.typeAssert (.iface 422 x) 141 418 true).run prog w=.ok (.tuple #[.agg #[.int .i64 0,.string ⟨#[]⟩,.int .i64 0,.nilIface],.bool false]) w:=by kernel_rfl
theorem Zkr (x:Value)(w:World):(Instr.typeAssert (.iface 422 x) 141 420 true).run prog w=.ok (.tuple #[.agg #[.int .i64 0,.slice none 0 0],.bool false]) w:=by kernel_rfl
theorem Zqm (x:Value)(w:World):(Instr.typeAssert (.iface 422 x) 141 422 true).run prog w=.ok (.tuple #[x,.bool true]) w:=by kernel_rfl
theorem Zfg (x:Value)(w:World):(Instr.typeAssert (.iface 424 x) 141 409 true).run prog w=.ok (.tuple #[.agg #[.int .i64 0,.string ⟨#[]⟩],.bool false]) w:=by kernel_rfl
theorem Zkl (x:Value)(w:World):(Instr.typeAssert (.iface 424 x) 141 411 true).run prog w=.ok (.tuple #[.agg #[.int .i64 0,.string ⟨#[]⟩,.int .i64 0,.nilIface,.nilIface],.bool false]) w:=by kernel_rfl
theorem Znc (x:Value)(w:World):(Instr.typeAssert (.iface 424 x) 141 414 true).run prog w=.ok (.tuple #[.agg #[.int .i64 0,.string ⟨#[]⟩,.int .i64 0,.slice none 0 0],.bool false]) w:=by kernel_rfl
theorem Zpj (x:Value)(w:World):(Instr.typeAssert (.iface 424 x) 141 418 true).run prog w=.ok (.tuple #[.agg #[.int .i64 0,.string ⟨#[]⟩,.int .i64 0,.nilIface],.bool false]) w:=by kernel_rfl
theorem Ziz (x:Value)(w:World):(Instr.typeAssert (.iface 424 x) 141 420 true).run prog w=.ok (.tuple #[.agg #[.int .i64 0,.slice none 0 0],.bool false]) w:=by kernel_rfl
theorem Znb (x:Value)(w:World):(Instr.typeAssert (.iface 424 x) 141 422 true).run prog w=.ok (.tuple #[.agg #[.int .i64 0,.nilIface,.nilIface,.nilIface],.bool false]) w:=by kernel_rfl
theorem Zkk (x:Value)(w:World):(Instr.typeAssert (.iface 424 x) 141 424 true).run prog w=.ok (.tuple #[x,.bool true]) w:=by kernel_rfl
theorem Zd3 (x:Value)(w:World):(Instr.typeAssert (.iface 427 x) 141 409 true).run prog w=.ok (.tuple #[.agg #[.int .i64 0,.string ⟨#[]⟩],.bool false]) w:=by kernel_rfl
theorem Zgs (x:Value)(w:World):(Instr.typeAssert (.iface 427 x) 141 411 true).run prog w=.ok (.tuple #[.agg #[.int .i64 0,.string ⟨#[]⟩,.int .i64 0,.nilIface,.nilIface],.bool false]) w:=by kernel_rfl
theorem Zin (x:Value)(w:World):(Instr.typeAssert (.iface 427 x) 141 414 true).run prog w=.ok (.tuple #[.agg #[.int .i64 0,.string ⟨#[]⟩,.int .i64 0,.slice none 0 0],.bool false]) w:=by kernel_rfl
theorem Zjn (x:Value)(w:World):(Instr.typeAssert (.iface 427 x) 141 418 true).run prog w=.ok (.tuple #[.agg #[.int .i64 0,.string ⟨#[]⟩,.int .i64 0,.nilIface],.bool false]) w:=by kernel_rfl
theorem Zf3 (x:Value)(w:World):(Instr.typeAssert (.iface 427 x) 141 420 true).run prog w=.ok (.tuple #[.agg #[.int .i64 0,.slice none 0 0],.bool false]) w:=by kernel_rfl
theorem Zhh (x:Value)(w:World):(Instr.typeAssert (.iface 427 x) 141 422 true).run prog w=.ok (.tuple #[.agg #[.int .i64 0,.nilIface,.nilIface,.nilIface],.bool false]) w:=by kernel_rfl
theorem Zjm (x:Value)(w:World):(Instr.typeAssert (.iface 427 x) 141 424 true).run prog w=.ok (.tuple #[.agg #[.int .i64 0,.nilIface,.nilIface,.nilIface],.bool false]) w:=by kernel_rfl
theorem Zew (x:Value)(w:World):(Instr.typeAssert (.iface 427 x) 141 427 true).run prog w=.ok (.tuple #[x,.bool true]) w:=by kernel_rfl
theorem Zfj (x:Value)(w:World):(Instr.typeAssert (.iface 429 x) 141 409 true).run prog w=.ok (.tuple #[.agg #[.int .i64 0,.string ⟨#[]⟩],.bool false]) w:=by kernel_rfl
theorem Zkp (x:Value)(w:World):(Instr.typeAssert (.iface 429 x) 141 411 true).run prog w=.ok (.tuple #[.agg #[.int .i64 0,.string ⟨#[]⟩,.int .i64 0,.nilIface,.nilIface],.bool false]) w:=by kernel_rfl
theorem Zng (x:Value)(w:World):(Instr.typeAssert (.iface 429 x) 141 414 true).run prog w=.ok (.tuple #[.agg #[.int .i64 0,.string ⟨#[]⟩,.int .i64 0,.slice none 0 0],.bool false]) w:=by kernel_rfl
theorem Zpl (x:Value)(w:World):(Instr.typeAssert (.iface 429 x) 141 418 true).run prog w=.ok (.tuple #[.agg #[.int .i64 0,.string ⟨#[]⟩,.int .i64 0,.nilIface],.bool false]) w:=by kernel_rfl
theorem Zi1 (x:Value)(w:World):(Instr.typeAssert (.iface 429 x) 141 420 true).run prog w=.ok (.tuple #[.agg #[.int .i64 0,.slice none 0 0],.bool false]) w:=by kernel_rfl
theorem Znf (x:Value)(w:World):(Instr.typeAssert (.iface 429 x) 141 422 true).run prog w=.ok (.tuple #[.agg #[.int .i64 0,.nilIface,.nilIface,.nilIface],.bool false]) w:=by kernel_rfl
theorem Zpk (x:Value)(w:World):(Instr.typeAssert (.iface 429 x) 141 424 true).run prog w=.ok (.tuple #[.agg #[.int .i64 0,.nilIface,.nilIface,.nilIface],.bool false]) w:=by kernel_rfl
theorem Zgr (x:Value)(w:World):(Instr.typeAssert (.iface 429 x) 141 427 true).run prog w=.ok (.tuple #[.agg #[.int .i64 0,.string ⟨#[]⟩,.nilIface,.nilIface],.bool false]) w:=by kernel_rfl
theorem Zkq (x:Value)(w:World):(Instr.typeAssert (.iface 429 x) 141 429 true).run prog w=.ok (.tuple #[x,.bool true]) w:=by kernel_rfl
theorem Zfz (x:Value)(w:World):(Instr.typeAssert (.iface 432 x) 141 409 true).run prog w=.ok (.tuple #[.agg #[.int .i64 0,.string ⟨#[]⟩],.bool false]) w:=by kernel_rfl
theorem Zjk (x:Value)(w:World):(Instr.typeAssert (.iface 432 x) 141 411 true).run prog w=.ok (.tuple #[.agg #[.int .i64 0,.string ⟨#[]⟩,.int .i64 0,.nilIface,.nilIface],.bool false]) w:=by kernel_rfl
theorem Zim (x:Value)(w:World):(Instr.typeAssert (.iface 432 x) 141 414 true).run prog w=.ok (.tuple #[.agg #[.int .i64 0,.string ⟨#[]⟩,.int .i64 0,.slice none 0 0],.bool false]) w:=by kernel_rfl
theorem Zjj (x:Value)(w:World):(Instr.typeAssert (.iface 432 x) 141 418 true).run prog w=.ok (.tuple #[.agg #[.int .i64 0,.string ⟨#[]⟩,.int .i64 0,.nilIface],.bool false]) w:=by kernel_rfl
theorem Zil (x:Value)(w:World):(Instr.typeAssert (.iface 432 x) 141 420 true).run prog w=.ok (.tuple #[.agg #[.int .i64 0,.slice none 0 0],.bool false]) w:=by kernel_rfl
theorem Zli (x:Value)(w:World):(Instr.typeAssert (.iface 432 x) 141 422 true).run prog w=.ok (.tuple #[.agg #[.int .i64 0,.nilIface,.nilIface,.nilIface],.bool false]) w:=by kernel_rfl
theorem Zji (x:Value)(w:World):(Instr.typeAssert (.iface 432 x) 141 424 true).run prog w=.ok (.tuple #[.agg #[.int .i64 0,.nilIface,.nilIface,.nilIface],.bool false]) w:=by kernel_rfl
theorem Zg4 (x:Value)(w:World):(Instr.typeAssert (.iface 432 x) 141 427 true).run prog w=.ok (.tuple #[.agg #[.int .i64 0,.string ⟨#[]⟩,.nilIface,.nilIface],.bool false]) w:=by kernel_rfl
theorem Zjl (x:Value)(w:World):(Instr.typeAssert (.iface 432 x) 141 429 true).run prog w=.ok (.tuple #[.agg #[.int .i64 0,.nilIface],.bool false]) w:=by kernel_rfl
theorem Zg3 (x:Value)(w:World):(Instr.typeAssert (.iface 434 x) 141 409 true).run prog w=.ok (.tuple #[.agg #[.int .i64 0,.string ⟨#[]⟩],.bool false]) w:=by kernel_rfl
theorem Zm9 (x:Value)(w:World):(Instr.typeAssert (.iface 434 x) 141 411 true).run prog w=.ok (.tuple #[.agg #[.int .i64 0,.string ⟨#[]⟩,.int .i64 0,.nilIface,.nilIface],.bool false]) w:=by kernel_rfl
theorem Zlh (x:Value)(w:World):(Instr.typeAssert (.iface 434 x) 141 414 true).run prog w=.ok (.tuple #[.agg #[.int .i64 0,.string ⟨#[]⟩,.int .i64 0,.slice none 0 0],.bool false]) w:=by kernel_rfl
theorem Zm8 (x:Value)(w:World):(Instr.typeAssert (.iface 434 x) 141 418 true).run prog w=.ok (.tuple #[.agg #[.int .i64 0,.string ⟨#[]⟩,.int .i64 0,.nilIface],.bool false]) w:=by kernel_rfl
theorem Zlg (x:Value)(w:World):(Instr.typeAssert (.iface 434 x) 141 420 true).run prog w=.ok (.tuple #[.agg #[.int .i64 0,.slice none 0 0],.bool false]) w:=by kernel_rfl
theorem Zpi (x:Value)(w:World):(Instr.typeAssert (.iface 434 x) 141 422 true).run prog w=.ok (.tuple #[.agg #[.int .i64 0,.nilIface,.nilIface,.nilIface],.bool false]) w:=by kernel_rfl
theorem Zm7 (x:Value)(w:World):(Instr.typeAssert (.iface 434 x) 141 424 true).run prog w=.ok (.tuple #[.agg #[.int .i64 0,.nilIface,.nilIface,.nilIface],.bool false]) w:=by kernel_rfl
theorem Zik (x:Value)(w:World):(Instr.typeAssert (.iface 434 x) 141 427 true).run prog w=.ok (.tuple #[.agg #[.int .i64 0,.string ⟨#[]⟩,.nilIface,.nilIface],.bool false]) w:=by kernel_rfl
theorem Zna (x:Value)(w:World):(Instr.typeAssert (.iface 434 x) 141 429 true).run prog w=.ok (.tuple #[.agg #[.int .i64 0,.nilIface],.bool false]) w:=by kernel_rfl
attribute [local go_sem] Zdq Zfi Zko Zev Zi2 Zhg Zfh Zkn Zi0 Zkm Zeu Zne Zlj Znd Zhf Zf2 Zsq Zpm Zsp Zkr Zqm Zfg Zkl Znc Zpj Ziz Znb Zkk Zd3 Zgs Zin Zjn Zf3 Zhh Zjm Zew Zfj Zkp Zng Zpl Zi1 Znf Zpk Zgr Zkq Zfz Zjk Zim Zjj Zil Zli Zji Zg4 Zjl Zg3 Zm9 Zlh Zm8 Zlg Zpi Zm7 Zik Zna
theorem ce_num (sp:Nat)(x:Int)(sv:Value)(B:Nat)(w:World):
  Calls prog 191 #[.iface 432 (.agg #[.int .i64 ((sp:Nat):Int),.int .i64 x]),sv,.map (some B)] w fun r w'=>r=.returned .nilIface∧w'=w:=by
 go_enter func191,ntmps191
 go_wp2
 go_ret
 exact⟨rfl,rfl⟩
theorem ce_txt (sp:Nat)(b:ByteArray)(sv:Value)(B:Nat)(w:World):
  Calls prog 191 #[.iface 434 (.agg #[.int .i64 ((sp:Nat):Int),.string b]),sv,.map (some B)] w fun r w'=>r=.returned .nilIface∧w'=w:=by
 go_enter func191,ntmps191
 go_wp2
 go_ret
 exact⟨rfl,rfl⟩
theorem Z0z (z:Int)(w:World):Calls prog 225 #[.int .i64 z] w fun e w'=>e=.returned (.int .i64 z)∧w'=w:=by
 go_enter func225,ntmps225
 go_wp2
 go_ret
 exact⟨rfl,rfl⟩
theorem ce_var (nb:ByteArray)(a:Nat)(sv:Value)(bs:List ByteArray)(B:Nat)(w:World)(D:Nat→Prop)(aN aA aW:Addr)(hS:Zcv w D sv bs)(hn:bs.length≤100000)(hN:Zgl w aN aA aW):
  Calls prog 191 #[.iface 409 (.agg #[.int .i64 ((a:Nat):Int),.string nb]),sv,.map (some B)] w fun r w'=>r=.returned (if Zzv bs nb then .nilIface else Za2 a aN)∧Below w.heap.size w w':=by
 have cc:=fun w h=>Zl1 sv bs nb w D h hn
 have eN:=hN.eN
 have hl:=Zae eN
 have hS':Zcv (w.alloc (Obj.cells #[.int .i64 ((a:Nat):Int),.string nb] 409)) D sv bs:=hS.below (Zab w _)
 cases hb:Zzv bs nb with
 | true =>
  rw[hb] at cc
  go_enter func191,ntmps191
  go_wp2_with (go_at_call 190;refine (cc _ hS').mono ?_;rintro e w1 ⟨rfl,rfl⟩)
  go_ret
  exact⟨rfl,Zab w _⟩
 | false =>
  rw[hb] at cc
  go_enter func191,ntmps191
  go_wp2_with (go_at_call 190;refine (cc _ hS').mono ?_;rintro e w1 ⟨rfl,rfl⟩)
  go_quiet ((go_at_call 225;refine Calls.quiet_of_same (Z0z _ _)))
  go_wp2
  go_ret
  exact⟨rfl,Zme (Zab w _) _⟩
end Go.Proofs.YtliapghpeoaonaaGreatDoor
