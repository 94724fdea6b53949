/-
  The reference: reckoning an expr, whichever.
-/
import Derived.Test.YtliapghpeoaonaaGreatDoorRwB
import Derived.Test.YtliapghpeoaonaaGreatDoorRwC
import Derived.Test.YtliapghpeoaonaaGreatDoorRefM
import Derived.Test.YtliapghpeoaonaaGreatDoorRefP0
import Derived.Test.YtliapghpeoaonaaGreatDoorTouch
set_option maxHeartbeats 8000000
set_option maxRecDepth 8000
namespace Go.Proofs.YtliapghpeoaonaaGreatDoor
open Go.Proofs.Tryz
open Go.RowKit Go.Lib
theorem Z2v {ns:List ByteArray}{vs:List PV}(h:∀v∈vs,Zec v):Zgj (Zds ns vs):=by
 intro x hx
 unfold Zds at hx
 rw[List.mem_reverse] at hx
 exact h _ (List.of_mem_zip hx).2
theorem Zk6 {ns:List ByteArray}{vs:List PV}(h:ns.length=vs.length):(Zds ns vs).map (·.1)=(ns.map (·.data.toList)).reverse:=by
 unfold Zds
 rw[List.map_reverse,List.map_fst_zip (by simp;omega)]
section
variable {w0:World} {rb prb:Nat} {fv pv:Value} {fs:List Ze8} {ps:List Zaw} {fns:List Fn}
theorem Zp8 (hP:Ze1 fns){E:Nat→Env→Ex→Option (PV×Nat)}{j:Nat}(IH:XE w0 rb prb fv pv fs ps fns E j){w:World}(hS:Zht w0 rb prb fv pv fs ps fns w){k:Nat}(hk:k≤j){psx:ByteArray}{m:Nat}(hfn:Zxf fns psx.data.toList m)(hm:m≤7000):Zv7 w rb prb k m psx (fun k vs=>evC E fns k psx.data.toList vs):=by
 intro X D k' vs sl cs hT hDr hDn hR hk' hseg hvs hvl hfine
 obtain⟨f,hf,hpl⟩:=hfn
 have hmem:f∈fns:=List.mem_of_find?_eq_some hf
 have hE:evC E fns k' psx.data.toList vs=E k' (Zdp f vs) f.body:=by unfold evC;rw[hf]
 show Calls _ _ _ _ (Zct rb prb D (evC E fns k' psx.data.toList vs) X)
 rw[hE]
 refine Z3d D hDr hDn (hS.touch hT) hR psx f hf vs sl cs hseg hvs (by rw[hpl,hvl]) (by omega) _ fun X2 D' qs x b hDr' hDn' hen hS2 hR2 hx hrep=>?_
 rw[←hen]
 have hql:qs.length=vs.length:=by
  obtain⟨_,_,_,_,_,_,_,h⟩:=hx
  exact h
 have hk2:=hR2.hk
 refine IH X2 D' k' f.body b qs vs x (by omega) hDr' hDn' hS2 hR2 hx hrep ⟨hql,hfine,by omega,hP.lit f hmem,hP.wf f hmem,by have:=hP.sz f hmem;omega,f.params.map (·.1),fun n hn=>?_,hP.sc f hmem⟩
 have h1:=Zlr (vs:=vs) (by rw[hpl,hvl]) n hn
 rw[←hen,Zk6 hql,List.mem_reverse] at h1
 exact h1
theorem Z2g (hP:Ze1 fns){E:Nat→Env→Ex→Option (PV×Nat)}(good:Zg2 E){j:Nat}(IH:XE w0 rb prb fv pv fs ps fns E j){w:World}(hS:Zht w0 rb prb fv pv fs ps fns w){p:Zaw}{js:List Nat}{kad:Option Addr}{kcap:Nat}(ekv:p.kv=.slice kad js.length kcap){wd n:List UInt8}(hop:p.op.data.toList=wd)(hps:p.s.data.toList=n){ks:List Ex}(hwf:∃b m,Za3 wd=some (b,m)∧(0≤m→(ks.length:Int)=m))(hfn:(wd=[99,97,108,108]∨wd=[109,97,112])→Zxf fns n ks.length)(hsz:ks.length≤7000)(h1:wd≠[105,102])(h2:wd≠[108,101,116]):
  FormDo w rb prb j ks.length (.agg #[.string p.op,.int .i64 p.n,.string p.s,.int .i64 ((p.at_:Nat):Int),p.kv]) (fun k1 us=>evF E fns k1 wd n us):=by
 intro X D k' vs sl cs hT hDr hDn hR hk' hseg hvs hvl hfine
 have hw6:∀v∈vs,wtV v≤600:=fun v hv=>(hfine v hv).2
 have hSX:=hS.touch hT
 rw[ekv]
 show Calls _ _ _ _ (Zct rb prb D (evF E fns k' wd n vs) X)
 by_cases l1:wd=[108,105,115,116]
 ·have e:evF E fns k' wd n vs=Zcu (some (vs,k')):=by unfold evF;rw[if_pos l1]
  rw[e]
  rw[l1] at hop
  rw[Zeo hop]
  exact rf_list D hR _ _ _ _ _ _ vs sl cs hseg hvs hw6 (by omega)
 by_cases l2:wd=[99,97,108,108]
 ·have e:evF E fns k' wd n vs=evC E fns k' n vs:=by unfold evF;rw[if_neg l1,if_pos l2]
  rw[e]
  have hfn':=hfn (Or.inl l2)
  rw[l2] at hop
  rw[Zeo hop]
  rw[←hps] at hfn' ⊢
  rw[←hvl] at hfn'
  exact rf_call D hDr hDn hR _ _ _ _ _ _ vs sl cs hseg hvs hfine _ (Zp8 hP IH hSX hk' hfn' (by omega))
 by_cases l3:wd=[109,97,112]
 ·have hl1:ks.length=1:=Zjp hwf (by rw[l3];decide:Za3 wd=some (true,((1:Nat):Int)))
  have hfn':=hfn (Or.inr l3)
  rw[hl1] at hfn' hvl
  obtain⟨a,rfl⟩:∃a,vs=[a]:=by
   match vs,hvl with
   | [a],_=>exact⟨a,rfl⟩
  have hop':p.op.data.toList=[109,97,112]:=by rw[hop,l3]
  rw[Zeo hop']
  rw[←hps] at hfn' ⊢
  have no:∀a,Zbe a≠108→evF E fns k' wd p.s.data.toList [a]=none:=fun a ha=>by
   unfold evF
   rw[if_neg l1,if_neg l2,if_pos l3]
   cases a with
   | num z=>rfl
   | txt b=>rfl
   | lst l=>exact absurd rfl ha
  cases a with
  | num z =>
   rw[no (.num z) (by simp[Zbe])]
   exact Zsw D hR _ _ _ _ _ _ (.num z) sl cs hseg hvs (by simp[Zbe])
  | txt b =>
   rw[no (.txt b) (by simp[Zbe])]
   exact Zsw D hR _ _ _ _ _ _ (.txt b) sl cs hseg hvs (by simp[Zbe])
  | lst l =>
   have hfl:=hfine (.lst l) (by simp)
   have e:evF E fns k' wd p.s.data.toList [.lst l]=Zcu (evM (fun k v=>(fun k vs=>evC E fns k p.s.data.toList vs) k [v]) k' l):=by unfold evF;rw[if_neg l1,if_neg l2,if_pos l3]
   rw[e]
   have hwl:=hfl.2
   rw[wtV] at hwl
   have hll:=Zdd l
   have hok:=hfl.1
   rw[okV] at hok
   refine rf_map D hDr hDn hR _ _ _ _ _ _ l sl cs hseg hvs (fun v hv=>?_) (by omega) _ (Zp8 hP IH hSX hk' hfn' (by omega)) (fun k2 v u k3 _ hv hc=>Zka good hP.lit (by simpa using hv) hc)
   obtain⟨q,hq,rfl⟩:=List.getElem_of_mem hv
   exact⟨Zq8 hq hok,by have:=Zix l q hq;omega⟩
 ·have e:evF E fns k' wd n vs=(Zeg (Za1 wd vs)).map fun v=>(v,k'):=by unfold evF;rw[if_neg l1,if_neg l2,if_neg l3]
  rw[e]
  have hsw:Zv4 wd vs.length:=by
   rw[hvl]
   have sl:=fun (b:Bool) (n:Nat) (e:Za3 wd=some (b,(n:Int)))=>Zjp hwf e
   rcases Zdx wd with h | h | h | h | h | h | h | h | h | h | h | h | h | h | ⟨h,_⟩
   ·exact absurd h l1
   ·exact absurd h l2
   ·exact absurd h l3
   ·exact absurd h h2
   ·exact absurd h h1
   ·exact Or.inr (Or.inl ⟨h,sl false 3 (by rw[h];decide)⟩)
   ·exact Or.inl ⟨h,sl false 1 (by rw[h];decide)⟩
   ·exact Or.inr (Or.inr ⟨sl false 2 (by rw[h];decide),by simp[h]⟩)
   ·exact Or.inr (Or.inr ⟨sl false 2 (by rw[h];decide),by simp[h]⟩)
   ·exact Or.inr (Or.inr ⟨sl false 2 (by rw[h];decide),by simp[h]⟩)
   ·exact Or.inr (Or.inr ⟨sl false 2 (by rw[h];decide),by simp[h]⟩)
   ·exact Or.inr (Or.inr ⟨sl false 2 (by rw[h];decide),by simp[h]⟩)
   ·exact Or.inr (Or.inr ⟨sl false 2 (by rw[h];decide),by simp[h]⟩)
   ·exact Or.inr (Or.inr ⟨sl false 2 (by rw[h];decide),by simp[h]⟩)
   ·obtain⟨b,m,hm,_⟩:=hwf
    rw[h] at hm
    cases hm
  have hne:∀l:List UInt8,wd≠l→(p.op.toList==l)=false:=fun l hl=>by
   rw[ByteArray.toList_eq,hop]
   simpa using hl
  have:=Z0p D hDn hR p.op p.n p.s p.at_ kad js.length kcap vs sl cs hseg hvs hw6 (by rw[hop];exact hsw) (hne _ l1) (hne _ l2) (hne _ l3)
  rw[hop] at this
  exact this
end
section
variable {w0:World} {rb prb:Nat} {fv pv:Value} {fs:List Ze8} {ps:List Zaw} {fns:List Fn}
theorem XOk.kid {ns:List ByteArray}{vs:List PV}{j:Nat}{wd n:List UInt8}{a:Nat}{ks:List Ex}(h:XOk fns ns vs (j+1) (.form wd n a ks))(h2:wd≠[108,101,116]):∀e∈ks,∀k'≤j,XOk fns ns vs k' e:=by
 intro e he k' hk
 obtain⟨l,f,b,lit,wf,sz,sc,hsc,hs⟩:=h
 rw[Zjd] at lit
 rw[WfE] at wf
 rw[szE] at sz
 rw[ScE] at hs
 exact⟨l,f,by omega,Zos lit e he,Zr7 wf.2 e he,by have:=Zwd he;omega,sc,hsc,Zxb (hs.2.2 h2) e he⟩
theorem rx_one (hP:Ze1 fns){E:Nat→Env→Ex→Option (PV×Nat)}(good:Zg2 E){j:Nat}(IH:XE w0 rb prb fv pv fs ps fns E j)(X:World)(D:Nat→Prop)(e:Ex)(i:Nat)(ns:List ByteArray)(vs:List PV)(x:Value)(hDr:¬ D rb)(hDn:∀g,X.heap.size≤g→D g)(hS:Zht w0 rb prb fv pv fs ps fns X)(hR:RK X rb prb (j+1))(hx:RS X D ns vs x)(hrep:Ze0 w0 (fun _=>True) ps 0 e i)(hok:XOk fns ns vs (j+1) e):
  Calls prog 125 #[.pointer (some ⟨rb,0,none⟩),.int .i64 ((i:Nat):Int),x] X (Zct rb prb D (evX E fns j (Zds ns vs) e) X):=by
 have hfin:=Z2v (ns:=ns) hok.fine
 have hbnd:=hok.bnd
 cases e with
 | num b =>
  rw[Ze0] at hrep
  obtain⟨_,p,hp,ho,hn,hkv⟩:=hrep
  obtain⟨nsl,vsl,cs,rfl,h2,h3,_,_⟩:=hx
  obtain⟨a,c,rfl⟩:=h2.slice
  obtain⟨b',d,rfl⟩:=h3.slice
  have:=Z0k D hS hR i p hp hkv _ _ a b' ns.length c vs.length d rfl rfl (.num p.n) (Or.inl ⟨ho,rfl⟩)
  rw[hn] at this
  exact this
 | txt b =>
  rw[Ze0] at hrep
  obtain⟨_,p,hp,ho,hn,hkv⟩:=hrep
  obtain⟨nsl,vsl,cs,rfl,h2,h3,_,_⟩:=hx
  obtain⟨a,c,rfl⟩:=h2.slice
  obtain⟨b',d,rfl⟩:=h3.slice
  have:=Z0k D hS hR i p hp hkv _ _ a b' ns.length c vs.length d rfl rfl (.txt p.s.data.toList) (Or.inr ⟨ho,rfl⟩)
  rw[hn] at this
  exact this
 | var n a =>
  rw[Ze0] at hrep
  obtain⟨_,p,hp,ho,hn,hat,hkv⟩:=hrep
  obtain⟨sc,hsc,hs⟩:=hok.sc
  rw[ScE] at hs
  obtain⟨v,hv⟩:=Zy9 (s:=Zds ns vs) (n:=n) (by rw[Zk6 hok.len,List.mem_reverse];exact hsc n hs)
  have hev:evX E fns j (Zds ns vs) (.var n a)=some (v,j):=by simp only[evX,hv,Option.map_some]
  rw[hev]
  exact rx_var D hDr hS hR i p hp hkv ns vs x hx (by omega) v ho (by rw[hn];exact hv)
 | form wd n a ks =>
  have hwf:=hok.wf
  rw[WfE] at hwf
  have hlit:=hok.lit
  rw[Zjd] at hlit
  have hsz:=hok.sz
  rw[szE] at hsz
  have hkl:=Zmh ks
  have hgood:∀e∈ks,∀k' v k'',k'≤j→E k' (Zds ns vs) e=some (v,k'')→Zec v∧k''≤k':=fun e he k' v k'' _ h=>good k' _ e v k'' hfin (Zos hlit e he) h
  rw[Ze0] at hrep
  obtain⟨_,p,js,hp,hop,hps,hat,hkv,hrs⟩:=hrep
  have hjl:=(Zqx hrs).1
  by_cases h1:wd=[105,102]
  ·have hl:ks.length=3:=Zjp hwf.1 (by rw[h1];decide:Za3 wd=some (false,((3:Nat):Int)))
   have hk:=hok.kid (by rw[h1];decide)
   obtain⟨c,t,f,rfl⟩:∃c t f,ks=[c,t,f]:=by
    match ks,hl with
    | [c,t,f],_=>exact⟨c,t,f,rfl⟩
   have hev:evX E fns j (Zds ns vs) (.form wd n a [c,t,f])=Zrw (fun k e=>E k (Zds ns vs) e) j [c,t,f]:=by simp only[evX,h1,if_true]
   rw[hev]
   exact rx_if D hDr hDn hS hR i p hp js hkv (by omega) ns vs x hx (by rw[hop,h1]) c t f hrs E IH hk (fun k' v k'' hk' h=>(hgood c (by simp) k' v k'' hk' h).2)
  by_cases h2:wd=[108,101,116]
  ·have hl:ks.length=2:=Zjp hwf.1 (by rw[h2];decide:Za3 wd=some (true,((2:Nat):Int)))
   obtain⟨v,b,rfl⟩:∃v b,ks=[v,b]:=by
    match ks,hl with
    | [v,b],_=>exact⟨v,b,rfl⟩
   have hev:evX E fns j (Zds ns vs) (.form wd n a [v,b])=Zk5 E j (Zds ns vs) p.s.data.toList [v,b]:=by simp only[evX,h2,if_true,hps];rfl
   rw[hev]
   obtain⟨sc,hsc,hs⟩:=hok.sc
   rw[ScE] at hs
   have hlet:=hs.2.1 h2
   rw[Z31,Zzw] at hlet
   rw[Zer,Zer] at hlit
   have hw2:=hwf.2
   rw[Zp9,Zp9] at hw2
   rw[Zes,Zes] at hsz
   refine rx_let D hDr hDn hS hR i p hp js hkv (by omega) ns vs hok.len (by omega) x hx (by rw[hop,h2]) v b hrs E IH (fun e he k' hk'=>?_) (fun k' hk' u hu=>?_) (hgood v (by simp))
   ·simp at he
    subst he
    exact⟨hok.len,hok.fine,by omega,hlit.1,hw2.1,by omega,sc,hsc,hlet.1⟩
   ·refine⟨by simp[hok.len],fun y hy=>?_,by simp;omega,hlit.2.1,hw2.2.1,by omega,n::sc,fun m hm=>?_,hlet.2.1⟩
    ·rcases List.mem_append.1 hy with h | h
     ·exact hok.fine y h
     ·simp at h
      rw[h]
      exact hu
    ·rw[List.map_append,List.mem_append]
     rcases List.mem_cons.1 hm with rfl | hm
     ·right
      simp[hps]
     ·left
      exact hsc m hm
  ·have hk:=hok.kid h2
   have hev:evX E fns j (Zds ns vs) (.form wd n a ks)=formO (fun k1 us=>evF E fns k1 wd n us) (evL (fun k e=>E k (Zds ns vs) e) j ks):=by
    simp only[evX,if_neg h1,if_neg h2]
    cases evL (fun k e=>E k (Zds ns vs) e) j ks with
    | none=>rfl
    | some y=>rfl
   rw[hev]
   obtain⟨kad,kcap,ekv⟩:=(Zar.of_row hkv).slice
   obtain⟨sc,hsc,hs⟩:=hok.sc
   rw[ScE] at hs
   have hsw:∀l:List UInt8,wd≠l→(p.op.toList==l)=false:=fun l hl=>by
    rw[ByteArray.toList_eq,hop]
    simpa using hl
   have hsh:∀l:List UInt8,Za3 l=none→wd≠l:=fun l hl e=>by
    obtain⟨b,m,hm,_⟩:=hwf.1
    rw[e,hl] at hm
    cases hm
   exact rx_form D hDr hDn hS hR i p hp js hkv (by omega) ns vs x hx ks hrs E IH hk hgood (hsw _ (hsh _ (by decide))) (hsw _ (hsh _ (by decide))) (hsw _ (hsh _ (by decide))) (hsw _ h1) (hsw _ h2) _ (Z2g hP good IH hS ekv hop hps hwf.1 hs.1 (by omega) h1 h2)
theorem rx_all (hP:Ze1 fns):∀f k,k≤f→XE w0 rb prb fv pv fs ps fns (evE fns f) k
 | 0,k,hk=>fun X D k' e i ns vs x hk' hDr hDn hS hR hx hrep hok=>by
  have h0:k'=0:=by omega
  subst h0
  obtain⟨nsl,vsl,cs,rfl,h2,h3,_,_⟩:=hx
  obtain⟨a,c,rfl⟩:=h2.slice
  obtain⟨b',d,rfl⟩:=h3.slice
  exact Zwh D hR _ _ _ a b' _ c _ d rfl rfl
 | f+1,k,hk=>fun X D k' e i ns vs x hk' hDr hDn hS hR hx hrep hok=>by
  cases k' with
  | zero =>
   obtain⟨nsl,vsl,cs,rfl,h2,h3,_,_⟩:=hx
   obtain⟨a,c,rfl⟩:=h2.slice
   obtain⟨b',d,rfl⟩:=h3.slice
   exact Zwh D hR _ _ _ a b' _ c _ d rfl rfl
  | succ j=>exact rx_one hP (Zj9 hP.lit f) (rx_all hP f j (by omega)) X D e i ns vs x hDr hDn hS hR hx hrep hok
end
end Go.Proofs.YtliapghpeoaonaaGreatDoor
namespace Go.Proofs.YtliapghpeoaonaaGreatDoor
open Go.Proofs.Tryz
open Go.RowKit Go.Lib
attribute [local go_sem ↓] Go.wp_at_zero Go.wp_at_succ
theorem Ztv (n:List UInt8)(k:Nat)(fns:List Fn):Zp4 n k fns=match fns.find? (fun f=>f.name==n) with | none=>false | some f=>f.params.length==k:=by
 unfold Zp4 Zc9
 rw[List.find?_map]
 have e:((fun x:List UInt8×Nat=>x.1==n) ∘ Za5)=fun f=>f.name==n:=rfl
 rw[e]
 cases fns.find? (fun f=>f.name==n) with
 | none=>rfl
 | some f=>rfl
abbrev Zu5 (prb:Nat):Obj:=.cells #[.pointer (some ⟨prb,5,none⟩),.int .i64 0] 168
theorem Zx3 {fns:List Fn}{n:List UInt8}{vs:List PV}(h:Zp4 n vs.length fns=false):Zf4 fns n vs=none:=by
 rw[Ztv] at h
 unfold Zf4
 cases hf:fns.find? (fun f=>f.name==n) with
 | none=>rfl
 | some f =>
  rw[hf] at h
  have:¬ f.params.length=vs.length:=by simpa using h
  simp only[if_neg this]
theorem Zu9 {w:World}{prb:Nat}{fv pv:Value}{fs:List Ze8}{ps:List Zaw}{fns:List Fn}(pm:PM w prb fv pv fs ps fns)(hP:Ze1 fns)(D:Nat→Prop)(hDn:∀g,w.heap.size≤g→D g)(nb:ByteArray)(vs:List PV)(sl:Value)(cs:List Value)(hseg:Zar w D 46 4 sl vs.length cs)(hvs:RVs w D vs cs)(hfine:∀v∈vs,Zec v):
  Calls prog 40 #[.pointer (some ⟨prb,5,none⟩),.string nb,sl] w (Zfk D (Zf4 fns nb.data.toList vs) w):=by
 obtain⟨ad,cap,rfl⟩:=hseg.slice
 have hB1:=Zab w Zaz
 have ch:=Zmj (pm.below hB1) nb vs.length
 cases hh:Zp4 nb.data.toList vs.length fns with
 | false =>
  rw[hh] at ch
  rw[Zx3 hh]
  clear hh hseg hvs hfine pm
  go_enter func40,ntmps40
  go_wp2_with (go_at_call 59;refine ch.mono ?_;rintro e w' ⟨rfl,rfl⟩)
  exact bodyPost_ret (v:=.tuple #[.agg #[.int .u8 0,.int .i64 0,.string ⟨#[]⟩,.slice none 0 0],.bool false]) (by simp[results,results40,go_sem]) rfl (Zbm rfl (Zab w _))
 | true =>
  rw[hh] at ch
  rw[Ztv] at hh
  cases hf:fns.find? (fun f=>f.name==nb.data.toList) with
  | none=>rw[hf] at hh;cases hh
  | some f =>
   rw[hf] at hh
   have hpl:f.params.length=vs.length:=by simpa using hh
   have hmem:f∈fns:=List.mem_of_find?_eq_some hf
   have hsz:=hP.sz f hmem
   have hrk:Zf4 fns nb.data.toList vs=(evE fns 20000 20000 (Zdp f vs) f.body).map (·.1):=by
    unfold Zf4
    rw[hf]
    simp only[if_pos hpl]
   rw[hrk]
   have hB2:Below w.heap.size w ((w.alloc Zaz).alloc (Zu5 prb)):=below2 w _ _
   have hz:((w.alloc Zaz).alloc (Zu5 prb)).heap[w.heap.size]?=some Zaz:=by rw[Za0 _ _ _ (by simp)];exact heap_alloc_new _ _
   have hRK:RK ((w.alloc Zaz).alloc (Zu5 prb)) (w.heap.size+1) prb 20000:=by
    refine⟨⟨0,?_,by omega⟩,Nat.le_refl _⟩
    have:=heap_alloc_new (w.alloc Zaz) (Zu5 prb)
    simpa using this
   have hS:Zht w (w.heap.size+1) prb fv pv fs ps fns ((w.alloc Zaz).alloc (Zu5 prb)):=⟨pm,hB2,by omega⟩
   have cc:=Z3d (fun g=>D g∧g≠w.heap.size∧g≠w.heap.size+1) (fun h=>h.2.2 rfl) (fun g hg=>by simp at hg;exact⟨hDn g (by omega),by omega,by omega⟩) hS hRK nb f hf vs _ cs ((((hseg.keep (w':=w) fun _ _ _=>rfl).weaken (D':=fun g=>D g∧g≠w.heap.size∧g≠w.heap.size+1) fun g hg=>⟨hg.1,by have:=hg.2;omega,by have:=hg.2;omega⟩)).below hB2) ((hvs.bound.weaken (D':=fun g=>D g∧g≠w.heap.size∧g≠w.heap.size+1) fun g hg=>⟨hg.1,by have:=hg.2;omega,by have:=hg.2;omega⟩).below hB2) hpl (by omega) (evE fns 20000 20000 (Zdp f vs) f.body) (fun X2 D' qs x b hDr' hDn' hen hS2 hR2 hx hrep=>by
    rw[←hen]
    have hql:qs.length=vs.length:=by
     obtain⟨_,_,_,_,_,_,_,h⟩:=hx
     exact h
    refine rx_all hP 20000 20000 (Nat.le_refl _) X2 D' 20000 f.body b qs vs x (Nat.le_refl _) hDr' hDn' hS2 hR2 hx hrep ⟨hql,hfine,by omega,hP.lit f hmem,hP.wf f hmem,by omega,f.params.map (·.1),fun n hn=>?_,hP.sc f hmem⟩
    have h1:=Zlr (vs:=vs) hpl n hn
    rw[←hen,Zk6 hql,List.mem_reverse] at h1
    exact h1)
   have CC:Hid (Calls prog 73 #[.pointer (some ⟨w.heap.size+1,0,none⟩),.string nb,.slice ad vs.length cap] ((w.alloc Zaz).alloc (Zu5 prb)) fun e w'=>(Zaa (·=w.heap.size+1) ((w.alloc Zaz).alloc (Zu5 prb)) w'∧∃(kx z:Int) (s:ByteArray) (ad:Option Addr) (n c:Nat) (b:Bool),e=.returned (.tuple #[.agg #[.int .u8 kx,.int .i64 z,.string s,.slice ad n c],.bool b])∧XR (w.heap.size+1) prb (fun g=>D g∧g≠w.heap.size∧g≠w.heap.size+1) (evE fns 20000 20000 (Zdp f vs) f.body) w' kx z s ad n c b)):=cc.mono fun e w' h=>Zld h
   generalize evE fns 20000 20000 (Zdp f vs) f.body=O at *
   have nn:w.heap.size≠w.heap.size+1:=by omega
   clear cc hRK hS hseg hvs hfine pm hh hf hsz hrk
   go_enter func40,ntmps40
   go_wp2_with (first
    |(go_at_call 73;refine CC.out.mono ?_;rintro e w2 ⟨ht,kx,zx,sx,yad,yn,yc,bb,rfl,hxr⟩;obtain⟨y0,y1,y2,y3,yf,lb2⟩:=Ze9 hz ht nn;have yf0:=yf 0;have yf1:=yf 1;have yf2:=yf 2;have yf3:=yf 3;clear yf)
    |(go_at_call 59;refine ch.mono ?_;rintro e w' ⟨rfl,rfl⟩))
   refine bodyPost_ret (v:=.tuple #[.agg #[.int .u8 kx,.int .i64 zx,.string sx,.slice yad yn yc],.bool bb]) (by simp[results,results40,go_sem,y0,y1,y2,y3]) rfl ?_
   have hbl:Below w.heap.size w ((((w2.setCell ⟨w.heap.size,0,none⟩ (.int .u8 kx)).setCell ⟨w.heap.size,1,none⟩ (.int .i64 zx)).setCell ⟨w.heap.size,2,none⟩ (.string sx)).setCell ⟨w.heap.size,3,none⟩ (.slice yad yn yc)):=Zbi (Zaa.fresh hB2 ht (fun k hk e=>by omega)) (Nat.le_refl _) (Nat.le_refl _) _ _ _ _
   cases O with
   | none =>
    obtain rfl:bb=false:=hxr
    exact Zbm rfl hbl
   | some o =>
    obtain⟨v,k1⟩:=o
    obtain⟨rfl,h2,_⟩:=hxr
    exact⟨hbl,_,rfl,(h2.res (b:=w.heap.size) (fun g hg=>hg.2.1) _ _ _ _).weaken fun g hg=>hg.1⟩
def Zjr (R:List UInt8×Nat×Nat)(w:World)(e:Ending)(w':World):Prop :=
 e=.returned (.tuple #[.string ⟨R.1.toArray⟩,.int .i64 ((R.2.1:Nat):Int),.int .i64 ((R.2.2:Nat):Int)])∧Below w.heap.size w w'
theorem rr_of {R R':List UInt8×Nat×Nat}(h:R'=R){w w':World}{e:Ending}(hp:Zjr R w e w'):Zjr R' w e w':=h ▸ hp
theorem Zst (s nb:ByteArray)(sv:Value)(w:World)(ts:List Tok)(args:List (List UInt8))(hs:s.size≤maxLen)(hl:2000<s.size):Calls prog 27 #[.string s,.string nb,sv] w (Zjr (Zgd s.size ts nb.data.toList args) w):=by
 have cr:=Zpp s w ts hs hl
 have e:Zbx s.size ts=some (1,0):=by simp[Zbx,hl]
 rw[e] at cr
 have e2:Zgd s.size ts nb.data.toList args=([],1,0):=by unfold Zgd;rw[e]
 rw[e2]
 have cr2:Calls prog 25 #[.string s] w fun e w'=>(∃v:Option Addr,e=.returned (.tuple #[.pointer v,.int .i64 1,.int .i64 0]))∧Below w.heap.size w w':=cr
 clear cr e e2
 go_enter func27,ntmps27
 go_wp2_with (go_at_call 25;refine cr2.mono ?_;rintro e w' ⟨⟨v,rfl⟩,hb⟩)
 go_ret3
 exact⟨rfl,hb⟩
theorem Zqt (s nb:ByteArray)(sv:Value)(bs:List ByteArray)(w:World){ts:List Tok}(hs:s.size≤2000)(hts:Za4 s.data.toList 0 ts)(hbl:bs.length≤2000000)(ha:Zeb w sv bs)(hPO:∀fns rest,Zb7 (ts.length+1) ts=.ok fns rest→chk s.size (.ok fns rest)=none→Ze1 fns):
  Calls prog 27 #[.string s,.string nb,sv] w (Zjr (Zgd s.size ts nb.data.toList (bs.map (·.data.toList))) w):=by
 have cr:=Zln s w hs hts
 have ea:Zbx s.size ts=chk s.size (Zb7 (ts.length+1) ts):=by simp[Zbx];omega
 obtain⟨ad,cap,rfl,hc1,hc2,hbz,hcell⟩:=ha
 cases hC:chk s.size (Zb7 (ts.length+1) ts) with
 | some x =>
  obtain⟨c,p⟩:=x
  have e2:Zgd s.size ts nb.data.toList (bs.map (·.data.toList))=([],c,p):=by unfold Zgd;rw[ea,hC]
  rw[e2]
  have hc0:c≠0:=by
   intro h0
   subst h0
   cases hR:Zb7 (ts.length+1) ts with
   | err c a=>rw[hR] at hC;simp only[chk,Z26] at hC;split at hC<;>cases hC
   | ok fns rest =>
    rw[hR] at hC
    simp only[chk] at hC
    split at hC
    ·rename_i c' p' _
     simp only[Option.some.injEq,Prod.mk.injEq,Zrz] at hC
     obtain⟨h1,_⟩:=hC
     revert h1
     split
     ·intro h;cases h
     ·split<;>(intro h;cases h)
    ·split at hC
     ·cases hC
     ·cases hC
  have cr2:Calls prog 25 #[.string s] w fun e w'=>(∃v:Option Addr,e=.returned (.tuple #[.pointer v,.int .i64 ((c:Nat):Int),.int .i64 ((p:Nat):Int)]))∧Below w.heap.size w w':=cr.mono fun e w' ⟨h1,v,h2,_⟩=>⟨⟨v,by rw[h2,hC];rfl⟩,h1⟩
  have hci:((c:Nat):Int)≠0:=by omega
  clear cr e2 hC ea hcell hbz hPO
  go_enter func27,ntmps27
  go_wp2_with (go_at_call 25;refine cr2.mono ?_;rintro e w' ⟨⟨v,rfl⟩,hb⟩)
  go_ret3
  exact⟨rfl,hb⟩
 | none =>
  cases hR:Zb7 (ts.length+1) ts with
  | err c a=>rw[hR] at hC;simp only[chk] at hC;cases hC
  | ok fns rest =>
   rw[hR] at hC cr
   have hP:=hPO fns rest hR hC
   have e2:Zgd s.size ts nb.data.toList (bs.map (·.data.toList))=match Za6 (bs.map (·.data.toList)) with | none=>([],8,0) | some vs=>match Zf4 fns nb.data.toList vs with | none=>([],8,0) | some v=>(wrV v,0,0):=by unfold Zgd;rw[ea,hR,hC];rfl
   have cr2:Calls prog 25 #[.string s] w fun e w'=>(∃prb fv pv fs ps,e=.returned (.tuple #[.pointer (some ⟨prb,5,none⟩),.int .i64 0,.int .i64 0])∧PM w' prb fv pv fs ps fns)∧Below w.heap.size w w':=cr.mono fun e w' ⟨h1,v,h2,h3⟩=>by
    obtain⟨prb,fv,pv,fs,ps,fns',rest',g1,g2,g3⟩:=h3 hC
    cases g1
    exact⟨⟨prb,fv,pv,fs,ps,by rw[h2,g2,hC];rfl,g3⟩,h1⟩
   generalize hRR:Zgd s.size ts nb.data.toList (bs.map (·.data.toList))=RR at *
   have E2:Aside (RR=match Za6 (bs.map (·.data.toList)) with | none=>([],8,0) | some vs=>match Zf4 fns nb.data.toList vs with | none=>([],8,0) | some v=>(wrV v,0,0)):=e2
   clear cr e2 hC ea hPO hRR
   unfold maxLen at hc2
   go_enter func27,ntmps27
   go_wp2_with (go_at_call 25;refine cr2.mono ?_;rintro e w1 ⟨⟨prb,fv,pv,fs,ps,rfl,pm⟩,hb1⟩)
   have hsz1:=hb1.size
   go_loopg [12,13] bs.length (fun gh lv iv wr=>∃(q:Nat) (us:List PV) (cs:List Value),gh=bs.length-q∧iv=.int .i64 ((q:Nat):Int)∧q≤bs.length∧us.length=q∧(∀u∈us,Zec u)∧Below w1.heap.size w1 wr∧GR wr w1.heap.size (w1.heap.size≤·) us lv cs∧Aside (Za6 (bs.map (·.data.toList))=Zo8 us (Za6 ((bs.map (·.data.toList)).drop q))))
   case atStart =>
    refine⟨0,[],[],by omega,rfl,by omega,rfl,by simp,Below.refl _ _,GR.start _ _ _,?_⟩
    show _=_
    rw[List.drop_zero]
    cases Za6 (bs.map (·.data.toList)) with
    | none=>rfl
    | some x=>rfl
   case round =>
    obtain⟨q,us,cs,rfl,rfl,hq,hul,hus,hbr,gr,hE⟩:=hrel
    have hszr:=hbr.size
    obtain⟨oad,ocap,hos⟩:=(Zar.of_row (Zao.of_owns gr.own)).slice
    subst hos
    have bw:=hb1.trans (hbr.mono hsz1)
    by_cases hlt:q<bs.length
    ·obtain⟨g,o,rfl,hcq⟩:=hcell q hlt
     obtain⟨bq,hbq⟩:∃bq,bs[q]=bq:=⟨_,rfl⟩
     rw[hbq] at hcq
     have cq:=Below.cellv bw hcq
     have ct:=Z3z bq wr (by rw[←hbq];exact hbz _ (List.getElem_mem hlt))
     have hltm:q<(bs.map (·.data.toList)).length:=by simpa using hlt
     have hmq:(bs.map (·.data.toList))[q]=bq.data.toList:=by simp[hbq]
     have GRA:Aside (GR wr w1.heap.size (w1.heap.size≤·) us (.slice oad us.length ocap) cs):=gr
     have HUL:Aside (us.length=q):=hul
     have HUS:Aside (∀u∈us,Zec u):=hus
     have hqi:((q:Nat):Int)<((bs.length:Nat):Int):=by omega
     cases hO:Zfv bq.data.toList with
     | none =>
      rw[hO] at ct
      have ct2:Calls prog 35 #[.string bq] wr fun e w'=>Below wr.heap.size wr w'∧∃(k z:Int) (s:ByteArray) (ad:Option Addr) (n c:Nat),e=.returned (.tuple #[.agg #[.int .u8 k,.int .i64 z,.string s,.slice ad n c],.bool false]):=ct
      have HRR:Aside (RR=([],8,0)):=by
       show _=_
       rw[E2.out,Zlq hltm hE.out (by rw[hmq];exact hO)]
      clear ct hO gr hul hus hE hcell hbz pm E2
      go_wp2_with (go_at_call 35;refine ct2.mono ?_;rintro e w2 ⟨hb2,kk,zz,ss,xad,xn,xc,rfl⟩)
      go_ret3
      exact rr_of HRR.out ⟨rfl,(bw.trans (hb2.mono bw.size)).alloc (Nat.le_trans bw.size hb2.size) _⟩
     | some v =>
      rw[hO] at ct
      obtain⟨_,hok,hwt⟩:=Zkx hO
      have ct2:Calls prog 35 #[.string bq] wr fun e w'=>Below wr.heap.size wr w'∧∃(k z:Int) (s:ByteArray) (ad:Option Addr) (n c:Nat),e=.returned (.tuple #[.agg #[.int .u8 k,.int .i64 z,.string s,.slice ad n c],.bool true])∧RV w' (wr.heap.size≤·) v (.agg #[.int .u8 k,.int .i64 z,.string s,.slice ad n c]):=ct.mono fun e w' ⟨h1,x,h2,h3⟩=>by
       obtain⟨kk,zz,ss,xad,xn,xc,rfl,_⟩:=h3.parts
       exact⟨h1,_,_,_,_,_,_,h2,h3⟩
      have hE2:Aside (Za6 (bs.map (·.data.toList))=Zo8 (us++[v]) (Za6 ((bs.map (·.data.toList)).drop (q+1)))):=Zlp hltm hE.out (by rw[hmq];exact hO)
      clear ct hO gr hul hus hE hcell hbz pm E2
      go_wp2_with (first
       |(at_builtin;obtain⟨i0,hi,hz0,hz1,hz2⟩:=info_parts Tryz.infoVal;refine Zbs (D:=fun _=>True) rfl _ _ 44 rfl w1.heap.size 46 i0 (.agg #[.int .u8 0,.int .i64 0,.string ⟨#[]⟩,.slice none 0 0]) 4 56 underlying44 hi hz0 hz1 hz2 rfl (by decide) (.slice oad us.length ocap) us.length cs rfl (((GRA.out.below hb2).own.alloc _).alloc _) (.slice (some ⟨w2.heap.size+1,0,none⟩) 1 1) 1 [.int .u8 kk,.int .i64 zz,.string ss,.slice xad xn xc] rfl (Zhr _ _ _ _ _ _ _ (by simp)) (fun x hx=>by simp at hx;rcases hx with rfl | rfl | rfl | rfl<;>rfl) (by have:=HUL.out;unfold maxLen;omega) (by have:=HUL.out;omega) (by simp;omega) ?_;intro sl' w6 hown' hgrow hob;clear hi hz0 hz1 hz2)
       |(go_at_call 35;refine ct2.mono ?_;rintro e w2 ⟨hb2,kk,zz,ss,xad,xn,xc,rfl,hRV⟩;have hsz2:=hb2.size))
      have hlo:∀g',(Value.slice oad us.length ocap).ownBlock=some g'→w1.heap.size≤g'∧g'<wr.heap.size:=fun g' e=>GRA.out.own.lt g' e
      have hps:=(GRA.out.below hb2).push (v:=v) (hRV.weaken fun g' hg'=>⟨by have h3:wr.heap.size≤g':=hg';show w1.heap.size≤g';omega,fun e=>by have:=(hlo g' e.symm).2;have h3:wr.heap.size≤g':=hg';omega⟩) (below2 w2 _ _) hown' hgrow hob
      go_roundg (bs.length-(q+1))
      case measure=>omega
      case rel =>
       refine⟨q+1,us++[v],cs++[.int .u8 kk,.int .i64 zz,.string ss,.slice xad xn xc],rfl,by go_num,by omega,by have:=HUL.out;simp;omega,?_,?_,hps,hE2⟩
       ·intro u hu
        rcases List.mem_append.1 hu with h | h
        ·exact HUS.out u h
        ·simp at h
         rw[h]
         exact⟨hok,hwt⟩
       ·refine⟨?_,?_,?_,?_,?_⟩
        ·rw[hgrow.os];exact hb2.os.trans hbr.os
        ·rw[hgrow.tape];exact hb2.tape.trans hbr.tape
        ·rw[hgrow.output];exact hb2.output.trans hbr.output
        ·have h1:=hgrow.size
         simp at h1
         omega
        ·intro g' hg'
         rw[hgrow.block g' (by simp;omega) (fun e=>by have:=(hlo g' e.symm).1;omega),Za0 _ _ _ (by simp;omega),Za0 _ _ _ (by omega),hb2.block g' (by omega)]
         exact hbr.block g' hg'
    ·have hqq:q=bs.length:=by omega
     subst hqq
     have hA:Za6 (bs.map (·.data.toList))=some us:=Znq (by rw[List.length_map];exact hE.out)
     have cp:=Zu9 (pm.below hbr) hP (w1.heap.size≤·) (fun g hg=>by show w1.heap.size≤g;omega) nb us _ cs ((Zar.of_row (Zao.of_owns gr.own)).weaken fun g' hg'=>hg') (gr.rvs.weaken fun g' hg'=>hg'.1) hus
     cases hO:Zf4 fns nb.data.toList us with
     | none =>
      rw[hO] at cp
      have cp2:Calls prog 40 #[.pointer (some ⟨prb,5,none⟩),.string nb,.slice oad us.length ocap] wr fun e w'=>Below wr.heap.size wr w'∧∃(k z:Int) (s:ByteArray) (ad:Option Addr) (n c:Nat),e=.returned (.tuple #[.agg #[.int .u8 k,.int .i64 z,.string s,.slice ad n c],.bool false]):=cp
      have HRR:Aside (RR=([],8,0)):=by
       show _=_
       rw[E2.out,hA]
       simp only[hO]
      clear cp hO gr hul hus hE hcell hbz pm E2 hA
      go_wp2_with (go_at_call 40;refine cp2.mono ?_;rintro e w2 ⟨hb2,kk,zz,ss,xad,xn,xc,rfl⟩)
      go_ret3
      exact rr_of HRR.out ⟨rfl,(bw.trans (hb2.mono bw.size)).alloc (Nat.le_trans bw.size hb2.size) _⟩
     | some v =>
      rw[hO] at cp
      have hfv:Zec v:=by
       unfold Zf4 at hO
       cases hf:fns.find? (fun f=>f.name==nb.data.toList) with
       | none=>rw[hf] at hO;cases hO
       | some f =>
        rw[hf] at hO
        simp only at hO
        split at hO
        ·cases he:evE fns 20000 20000 (Zdp f us) f.body with
         | none=>rw[he] at hO;cases hO
         | some y =>
          rw[he] at hO
          obtain⟨v',k'⟩:=y
          simp only[Option.map_some,Option.some.injEq] at hO
          subst hO
          exact (Zj9 hP.lit 20000 20000 _ _ _ _ (Zgj.par hus) (hP.lit f (List.mem_of_find?_eq_some hf)) he).1
        ·cases hO
      have cp2:Calls prog 40 #[.pointer (some ⟨prb,5,none⟩),.string nb,.slice oad us.length ocap] wr fun e w'=>Below wr.heap.size wr w'∧∃(k z:Int) (s:ByteArray) (ad:Option Addr) (n c:Nat),e=.returned (.tuple #[.agg #[.int .u8 k,.int .i64 z,.string s,.slice ad n c],.bool true])∧RV w' (w1.heap.size≤·) v (.agg #[.int .u8 k,.int .i64 z,.string s,.slice ad n c]):=cp.mono fun e w' ⟨h1,x,h2,h3⟩=>by
       obtain⟨kk,zz,ss,xad,xn,xc,rfl,_⟩:=h3.parts
       exact⟨h1,_,_,_,_,_,_,h2,h3⟩
      have HRR:Aside (RR=(wrV v,0,0)):=by
       show _=_
       rw[E2.out,hA]
       simp only[hO]
      have CWR:Hid (∀(w2:World) (x:Value),RV w2 (w1.heap.size≤·) v x→Calls prog 12 #[x] w2 fun e w'=>e=.returned (.string ⟨(wrV v).toArray⟩)∧Below w2.heap.size w2 w'):=fun w2 x hx=>Zmy _ 600 v x w2 hfv.2 (by omega) hfv.1 hx
      clear cp hO gr hul hus hE hcell hbz pm E2 hA hfv
      generalize wrV v=R at *
      go_wp2_with (first
       |(go_at_call 12;refine (CWR.out _ _ (hRV.below (Zab w2 _))).mono ?_;rintro e w3 ⟨rfl,hb3⟩)
       |(go_at_call 40;refine cp2.mono ?_;rintro e w2 ⟨hb2,kk,zz,ss,xad,xn,xc,rfl,hRV⟩))
      go_ret3
      have b2:=(bw.trans (hb2.mono bw.size)).alloc (Nat.le_trans bw.size hb2.size) (Zce (.int .u8 kk) (.int .i64 zz) (.string ss) (.slice xad xn xc))
      exact rr_of HRR.out ⟨rfl,b2.trans (hb3.mono b2.size)⟩
end Go.Proofs.YtliapghpeoaonaaGreatDoor
