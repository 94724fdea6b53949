/-
  form of the parser, out of what exprs does.
-/
import Derived.Test.YtifhgjpglicjbaaGreatDoorBuildA
set_option maxHeartbeats 1000000
namespace Go.Proofs.YtifhgjpglicjbaaGreatDoor
open Go.Proofs.Tryz
open Go.RowKit
attribute [local go_sem ↓] Go.wp_at_zero Go.wp_at_succ
def exPost (r:Res Ex)(w:World)(pb rb:Nat)(s:ByteArray)(aT aD:Addr)(d:Nat)(e:Ending)(w':World):Prop :=
 PT pb rb w w'∧match r with
 | .err c a=>∃x,e=.returned (.tuple #[x,wrongV a (errOf c aT aD)])
 | .ok ex rest=>∃v q,e=.returned (.tuple #[v,.nilIface])∧RepE w' (w.heap.size≤·) ex v∧Pz w' pb rb s aT aD q d∧IsToks s.data.toList q rest
def exsPost (r:Res (List Ex))(m:Int)(w:World)(pb rb:Nat)(s:ByteArray)(aT aD:Addr)(d:Nat)(e:Ending)(w':World):Prop :=
 PT pb rb w w'∧match r with
 | .err c a=>∃ad n k,e=.returned (.tuple #[.slice ad n k,wrongV a (errOf c aT aD)])
 | .ok es rest=>∃v vs q,e=.returned (.tuple #[v,.nilIface])∧RowAt w' (w.heap.size≤·) 64 1 v vs.length vs∧RepEs w' (w.heap.size≤·) es vs∧(0≤m→(vs.length:Int)=m)∧Pz w' pb rb s aT aD q d∧IsToks s.data.toList q rest
def ExprsDo (g pb rb:Nat)(s:ByteArray)(aT aD:Addr):Prop :=
 ∀(ts:List Tok) (d p:Nat) (m:Int) (w:World),ts.length≤g→-1≤m→m≤3→Pz w pb rb s aT aD p (d+1)→IsToks s.data.toList p ts →
  Calls prog 101 #[.pointer (some ⟨pb,0,none⟩),.int .i64 m] w (exsPost (pL g (d+1) m ts) m w pb rb s aT aD d)
theorem new_cells2 (w:World)(x y:Value)(t:TypeId):let X:=w.alloc (.cells #[x,y] t)
  X.cell? ⟨w.heap.size,0,none⟩=some x∧X.cell? ⟨w.heap.size,1,none⟩=some y∧w.heap.size<X.heap.size:=by
 have h:(w.alloc (Obj.cells #[x,y] t)).heap[w.heap.size]?=some (.cells #[x,y] t):=heap_alloc_new _ _
 refine⟨?_,?_,by simp⟩<;>(unfold World.cell?;rw[h];rfl)
theorem form_no (sp:Nat){w:World}{pb rb:Nat}{s:ByteArray}{aT aD:Addr}{p d:Nat}(h:Pz w pb rb s aT aD p d){t:Tok}{ts:List Tok}(hts:IsToks s.data.toList p (t::ts))(hn:shapeT t=none):
  Calls prog 173 #[.pointer (some ⟨pb,0,none⟩),.int .i64 ((sp:Nat):Int)] w fun e w'=>PT pb rb w w'∧∃x,e=.returned (.tuple #[x,wrongV t.at_ aT]):=by
 have r1:=h.rdr
 by_cases hbad:t.k=.bad
 ·have cn:=next_bad h hts hbad
  go_enter func173,ntmps173
  go_wp2_with (go_at_call 71;refine cn.mono ?_;rintro e w' ⟨rfl,hpt⟩)
  go_ret2
  exact⟨hpt.alloc _,_,rfl⟩
 have cn:=next_good h hts hbad
 by_cases hw:t.k=.word
 ·have hs:shapeL t.body=none:=by simpa[shapeT,hw] using hn
  rw[hw] at cn
  go_enter func173,ntmps173
  go_wp2_with fail
  refine cn.mono ?_
  rintro e w1 ⟨bd,rfl,hbd,hbz,hpt,q,hz,hq⟩
  have cs:=shapeOf_data bd
  rw[show bd.data.toList=t.body from hbd,hs] at cs
  obtain⟨n0,n1,n2,n3⟩:=new_cells3 w1 (.int .i64 5) (.int .i64 ((t.at_:Nat):Int)) (.string bd) 173
  clear cn hq hbd
  go_wp2_with fail
  refine (cs _).mono ?_
  rintro e w2 ⟨rfl,hb2⟩
  simp only[shapeV]
  have m0:w2.cell? ⟨w1.heap.size,0,none⟩=some (.int .i64 5):=Below.cellv hb2 n0
  have m1:w2.cell? ⟨w1.heap.size,1,none⟩=some (.int .i64 ((t.at_:Nat):Int)):=Below.cellv hb2 n1
  have m2:w2.cell? ⟨w1.heap.size,2,none⟩=some (.string bd):=Below.cellv hb2 n2
  have hl2:=cell_lt m0
  have hz2:=(hz.alloc _).keep hb2
  have pt2:=(hpt.alloc _).below hb2
  clear n0 n1 n2 n3 hb2 hz hpt cs r1
  go_wp2_with (go_at_call 133;refine (misplaced_any 5 t.at_ bd _ aT ?_).mono ?_;(exact (hz2.alloc _).eT);rintro e w3 ⟨rfl,hb3⟩)
  go_ret2
  exact⟨(pt2.alloc _).below hb3,_,rfl⟩
 ·have hk5:¬ kcode t.k=5:=by revert hw;cases t.k<;>simp[kcode]
  go_enter func173,ntmps173
  go_wp2_with fail
  refine cn.mono ?_
  rintro e w1 ⟨bd,rfl,hbd,hbz,hpt,q,hz,hq⟩
  have cs:=shapeOf_data bd
  obtain⟨n0,n1,n2,n3⟩:=new_cells3 w1 (.int .i64 (kcode t.k)) (.int .i64 ((t.at_:Nat):Int)) (.string bd) 173
  clear cn hq hbd
  go_wp2_with fail
  refine (cs _).mono ?_
  rintro e w2 ⟨rfl,hb2⟩
  have m0:w2.cell? ⟨w1.heap.size,0,none⟩=some (.int .i64 (kcode t.k)):=Below.cellv hb2 n0
  have m1:w2.cell? ⟨w1.heap.size,1,none⟩=some (.int .i64 ((t.at_:Nat):Int)):=Below.cellv hb2 n1
  have m2:w2.cell? ⟨w1.heap.size,2,none⟩=some (.string bd):=Below.cellv hb2 n2
  have hl2:=cell_lt m0
  have hz2:=(hz.alloc _).keep hb2
  have pt2:=(hpt.alloc _).below hb2
  have hsv:∃(b:Bool) (n:Int) (k:Bool),shapeV (shapeL bd.data.toList)=.tuple #[.agg #[.bool b,.int .i64 n],.bool k]:=by
   cases shapeL bd.data.toList with
   | none=>exact⟨_,_,_,rfl⟩
   | some x=>exact⟨_,_,_,rfl⟩
  obtain⟨b,n,k,hsv⟩:=hsv
  rw[hsv]
  clear n0 n1 n2 n3 hb2 hz hpt cs r1 hsv
  go_wp2_with (go_at_call 133;refine (misplaced_any (kcode t.k) t.at_ bd _ aT ?_).mono ?_;(exact (hz2.alloc _).eT);rintro e w3 ⟨rfl,hb3⟩)
  go_ret2
  exact⟨(pt2.alloc _).below hb3,_,rfl⟩
theorem FormV.unnamed {w:World}{D:Nat→Prop}{sp:Nat}{wd n n':List UInt8}{a a':Nat}{vs:List Value}{v:Value}{m:Int}(hs:shapeL wd=some (false,m))(h:FormV w D sp wd n a vs v):FormV w D sp wd n' a' vs v:=by
 rcases h with h | ⟨e,_⟩ | ⟨e,_⟩ | ⟨e,_⟩ | h | h | h | h
 ·exact Or.inl h
 ·subst e;simp[shapeL] at hs
 ·subst e;simp[shapeL] at hs
 ·subst e;simp[shapeL] at hs
 ·exact Or.inr (Or.inr (Or.inr (Or.inr (Or.inl h))))
 ·exact Or.inr (Or.inr (Or.inr (Or.inr (Or.inr (Or.inl h)))))
 ·exact Or.inr (Or.inr (Or.inr (Or.inr (Or.inr (Or.inr (Or.inl h))))))
 ·exact Or.inr (Or.inr (Or.inr (Or.inr (Or.inr (Or.inr (Or.inr h))))))
theorem form_plain (sp:Nat){g pb rb:Nat}{s:ByteArray}{aT aD:Addr}(IH:ExprsDo g pb rb s aT aD){w:World}{p d:Nat}(h:Pz w pb rb s aT aD p (d+1)){t:Tok}{ts:List Tok}(hts:IsToks s.data.toList p (t::ts))(hg:ts.length≤g){m:Int}(hn:shapeT t=some (false,m)):
  Calls prog 173 #[.pointer (some ⟨pb,0,none⟩),.int .i64 ((sp:Nat):Int)] w (exPost (formR t.body [] t.at_ (pL g (d+1) m ts)) w pb rb s aT aD d):=by
 have r1:=h.rdr
 have hlt:=h.lt
 have hw:t.k=.word:=by
  unfold shapeT at hn
  split at hn
  ·assumption
  ·cases hn
 have hs:shapeL t.body=some (false,m):=by simpa[shapeT,hw] using hn
 have cn:=next_good h hts (by rw[hw];decide)
 rw[hw] at cn
 go_enter func173,ntmps173
 go_wp2_with fail
 refine cn.mono ?_
 rintro e w1 ⟨bd,rfl,hbd,hbz,hpt,q,hz,hq⟩
 have hbd':bd.data.toList=t.body:=hbd
 have hq2:=hq (by decide)
 have cs:=shapeOf_data bd
 rw[hbd',hs] at cs
 obtain⟨n0,n1,n2,n3⟩:=new_cells3 w1 (.int .i64 5) (.int .i64 ((t.at_:Nat):Int)) (.string bd) 173
 have hlt1:=hpt.size
 clear cn hq hbd hn
 go_wp2_with fail
 refine (cs _).mono ?_
 rintro e w2 ⟨rfl,hb2⟩
 simp only[shapeV]
 have m0:w2.cell? ⟨w1.heap.size,0,none⟩=some (.int .i64 5):=Below.cellv hb2 n0
 have m2:w2.cell? ⟨w1.heap.size,2,none⟩=some (.string bd):=Below.cellv hb2 n2
 have hl2:=cell_lt m0
 have hz2:=(hz.alloc _).keep hb2
 have pt2:=(hpt.alloc _).below hb2
 clear n0 n1 n2 n3 hb2 hz hpt cs r1
 go_wp2_with fail
 obtain⟨b1,b2⟩:=shape_bounds hs
 refine (IH ts d q m _ hg b1 b2 ((hz2.alloc _).alloc _) hq2).mono ?_
 rintro e w3 ⟨pt3,hr⟩
 have pt4:PT pb rb w w3:=((pt2.alloc _).alloc _).trans pt3
 have hx:w1.heap.size≠pb:=by omega
 have hy:w1.heap.size≠rb:=by omega
 have k2:w3.cell? ⟨w1.heap.size,2,none⟩=some (.string bd):=pt3.cell (alloc_cell (alloc_cell m2)) hx hy
 obtain⟨z0,z1,z2⟩:=new_cells2 (w2.alloc (Obj.cells #[.bool false,.int .i64 m] 366)) (.string ⟨#[]⟩) (.int .i64 0) 61
 have hX:(w2.alloc (Obj.cells #[.bool false,.int .i64 m] 366)).heap.size=w2.heap.size+1:=by simp
 rw[hX] at z0 z1
 have hx8:w2.heap.size+1≠pb:=by omega
 have hy8:w2.heap.size+1≠rb:=by omega
 have y0:w3.cell? ⟨w2.heap.size+1,0,none⟩=some (.string ⟨#[]⟩):=pt3.cell z0 hx8 hy8
 have y1:w3.cell? ⟨w2.heap.size+1,1,none⟩=some (.int .i64 0):=pt3.cell z1 hx8 hy8
 have hsz2:=pt2.size
 cases hL:pL g (d+1) m ts with
 | err c a =>
  rw[hL] at hr
  obtain⟨ad,n,k,rfl⟩:∃ad n k,e=.returned (.tuple #[.slice ad n k,wrongV a (errOf c aT aD)]):=hr
  have HL:Hid (pL g (d+1) m ts=.err c a):=hL
  clear hL IH
  go_wp2
  go_ret2
  refine⟨pt4,?_⟩
  rw[HL.out]
  exact⟨_,rfl⟩
 | ok ks rest =>
  rw[hL] at hr
  obtain⟨v,vs,q3,rfl,hrow,hrep,hlen,hz3,hq3⟩:=hr
  have cb:=build_any bd ⟨#[]⟩ sp 0 v vs w3 _ (by decide) (by rw[hbd'];exact hs) hrow hrep.ifs hlen
  rw[hbd'] at cb
  have HL:Hid (pL g (d+1) m ts=.ok ks rest):=hL
  clear IH hL
  go_wp2_with (go_at_call 198;refine cb.mono ?_;rintro e w4 ⟨fv,rfl,hF,hb4⟩)
  go_ret2
  refine⟨pt4.below hb4,?_⟩
  rw[HL.out]
  refine⟨fv,q3,rfl,?_,hz3.keep hb4,hq3⟩
  rw[RepE]
  refine⟨sp,vs,?_,?_⟩
  ·exact ((hrep.keep (w':=w4) fun k _ hlt=>hb4.block k hlt).weaken fun k hk=>by have:=hk.1;simp at this;omega)
  ·exact (hF.unnamed hs).map fun sl hr=>hr.weaken fun k hk=>by simp at hk;omega
theorem form_named (sp:Nat){g pb rb:Nat}{s:ByteArray}{aT aD:Addr}(IH:ExprsDo g pb rb s aT aD){w:World}{p d:Nat}(h:Pz w pb rb s aT aD p (d+1)){t u:Tok}{us:List Tok}(hts:IsToks s.data.toList p (t::u::us))(hg:us.length≤g){m:Int}(hn:shapeT t=some (true,m)):
  Calls prog 173 #[.pointer (some ⟨pb,0,none⟩),.int .i64 ((sp:Nat):Int)] w (exPost (if isNameT u then formR t.body u.body u.at_ (pL g (d+1) m us) else .err 2 u.at_) w pb rb s aT aD d):=by
 have r1:=h.rdr
 have hlt:=h.lt
 have h15:=h.h1
 have hw:t.k=.word:=by
  unfold shapeT at hn
  split at hn
  ·assumption
  ·cases hn
 have hs:shapeL t.body=some (true,m):=by simpa[shapeT,hw] using hn
 have cn:=next_good h hts (by rw[hw];decide)
 rw[hw] at cn
 generalize hR:(if isNameT u then formR t.body u.body u.at_ (pL g (d+1) m us) else Res.err 2 u.at_)=R
 have HR:Hid ((if isNameT u then formR t.body u.body u.at_ (pL g (d+1) m us) else Res.err 2 u.at_)=R):=hR
 clear hR
 go_enter func173,ntmps173
 go_wp2_with fail
 refine cn.mono ?_
 rintro e w1 ⟨bd,rfl,hbd,hbz,hpt,q,hz,hq⟩
 have hbd':bd.data.toList=t.body:=hbd
 have hq2:=hq (by decide)
 have cs:=shapeOf_data bd
 rw[hbd',hs] at cs
 obtain⟨n0,n1,n2,n3⟩:=new_cells3 w1 (.int .i64 5) (.int .i64 ((t.at_:Nat):Int)) (.string bd) 173
 have hlt1:=hpt.size
 clear cn hq hbd hn
 go_wp2_with fail
 refine (cs _).mono ?_
 rintro e w2 ⟨rfl,hb2⟩
 simp only[shapeV]
 have m0:w2.cell? ⟨w1.heap.size,0,none⟩=some (.int .i64 5):=Below.cellv hb2 n0
 have m2:w2.cell? ⟨w1.heap.size,2,none⟩=some (.string bd):=Below.cellv hb2 n2
 have hl2:=cell_lt m0
 have hz2:=(hz.alloc _).keep hb2
 have pt2:=(hpt.alloc _).below hb2
 have hsz2:=pt2.size
 clear n0 n1 n2 n3 hb2 hz hpt cs r1
 go_wp2_with fail
 obtain⟨b1,b2⟩:=shape_bounds hs
 have hx:w1.heap.size≠pb:=by omega
 have hy:w1.heap.size≠rb:=by omega
 obtain⟨s0,s1,s2⟩:=new_cells2 w2 (.bool true) (.int .i64 m) 366
 obtain⟨z0,z1,z2⟩:=new_name (w2.alloc (Obj.cells #[.bool true,.int .i64 m] 366))
 have hX:(w2.alloc (Obj.cells #[.bool true,.int .i64 m] 366)).heap.size=w2.heap.size+1:=by simp
 rw[hX] at z0 z1 z2
 have hx6:w2.heap.size≠pb:=by omega
 have hy6:w2.heap.size≠rb:=by omega
 have hx8:w2.heap.size+1≠pb:=by omega
 have hy8:w2.heap.size+1≠rb:=by omega
 have zX:=(hz2.alloc (Obj.cells #[.bool true,.int .i64 m] 366)).alloc (Obj.cells #[.string ⟨#[]⟩,.int .i64 0] 61)
 cases hnm:isNameT u with
 | false =>
  refine (name_no zX hq2 hnm).mono ?_
  rintro e w3 ⟨rfl,pt3⟩
  have y0:w3.cell? ⟨w2.heap.size+1,0,none⟩=some (.string ⟨#[]⟩):=pt3.cell z0 hx8 hy8
  have y1:w3.cell? ⟨w2.heap.size+1,1,none⟩=some (.int .i64 0):=pt3.cell z1 hx8 hy8
  have hsX:((w2.alloc (Obj.cells #[.bool true,.int .i64 m] 366)).alloc (Obj.cells #[.string ⟨#[]⟩,.int .i64 0] 61)).heap.size=w2.heap.size+2:=by simp
  have f0:w3.frozen? ⟨w2.heap.size+1,0,none⟩=false:=by rw[pt3.frz (p:=⟨w2.heap.size+1,0,none⟩) (by rw[hsX];simp) hx8 hy8];exact z2.1
  have f1:w3.frozen? ⟨w2.heap.size+1,1,none⟩=false:=by rw[pt3.frz (p:=⟨w2.heap.size+1,1,none⟩) (by rw[hsX];simp) hx8 hy8];exact z2.2.1
  have pt4:PT pb rb w w3:=((pt2.alloc _).alloc _).trans pt3
  clear IH z0 z1 z2 s0 s1 s2 m0 m2
  go_wp2
  go_ret2
  refine⟨(pt4.set (by omega) _).set (by omega) _,?_⟩
  rw[←HR.out,hnm]
  exact⟨_,rfl⟩
 | true =>
  refine (name_ok zX hq2 hnm).mono ?_
  rintro e w3 ⟨nb,rfl,hnb,hnz,pt3,q3,hz3,hq3⟩
  have y0:w3.cell? ⟨w2.heap.size+1,0,none⟩=some (.string ⟨#[]⟩):=pt3.cell z0 hx8 hy8
  have y1:w3.cell? ⟨w2.heap.size+1,1,none⟩=some (.int .i64 0):=pt3.cell z1 hx8 hy8
  have hsX:((w2.alloc (Obj.cells #[.bool true,.int .i64 m] 366)).alloc (Obj.cells #[.string ⟨#[]⟩,.int .i64 0] 61)).heap.size=w2.heap.size+2:=by simp
  have f0:w3.frozen? ⟨w2.heap.size+1,0,none⟩=false:=by rw[pt3.frz (p:=⟨w2.heap.size+1,0,none⟩) (by rw[hsX];simp) hx8 hy8];exact z2.1
  have f1:w3.frozen? ⟨w2.heap.size+1,1,none⟩=false:=by rw[pt3.frz (p:=⟨w2.heap.size+1,1,none⟩) (by rw[hsX];simp) hx8 hy8];exact z2.2.1
  have g1:w3.cell? ⟨w2.heap.size,1,none⟩=some (.int .i64 m):=pt3.cell (alloc_cell s1) hx6 hy6
  have k2:w3.cell? ⟨w1.heap.size,2,none⟩=some (.string bd):=pt3.cell (alloc_cell (alloc_cell m2)) hx hy
  have pt4:PT pb rb w w3:=((pt2.alloc _).alloc _).trans pt3
  have hl3:=cell_lt g1
  clear z0 z1 z2 s0 s1 s2 m0 m2
  go_wp2_with fail
  refine (IH us d q3 m _ hg b1 b2 ((hz3.set hx8 hy8 (by omega) _).set hx8 hy8 (by omega) _) hq3).mono ?_
  rintro e w4 ⟨pt5,hr⟩
  have pt6:PT pb rb w w4:=((pt4.set (b:=w2.heap.size+1) (o:=0) (by omega) (.string nb)).set (b:=w2.heap.size+1) (o:=1) (by omega) (.int .i64 ((u.at_:Nat):Int))).trans pt5
  have hne12:w2.heap.size+1≠w1.heap.size:=by omega
  have j2:w4.cell? ⟨w1.heap.size,2,none⟩=some (.string bd):=pt5.cell (by rw[World.cell?_setCell_other _ _ _ _ (by simp<;>omega),World.cell?_setCell_other _ _ _ _ (by simp<;>omega)];exact k2) hx hy
  have j0:w4.cell? ⟨w2.heap.size+1,0,none⟩=some (.string nb):=pt5.cell (by rw[World.cell?_setCell_other _ _ _ _ (by simp),World.cell?_setCell_same _ _ _ y0]) hx8 hy8
  have j1:w4.cell? ⟨w2.heap.size+1,1,none⟩=some (.int .i64 ((u.at_:Nat):Int)):=pt5.cell (by rw[World.cell?_setCell_same _ _ _ (u:=.int .i64 0) (by rw[World.cell?_setCell_other _ _ _ _ (by simp)];exact y1)]) hx8 hy8
  have hsz5:=pt5.size
  have hszY:((w3.setCell ⟨w2.heap.size+1,0,none⟩ (.string nb)).setCell ⟨w2.heap.size+1,1,none⟩ (.int .i64 ((u.at_:Nat):Int))).heap.size=w3.heap.size:=by simp[World.setCell]
  rw[hszY] at hsz5
  have hsz4:=pt4.size
  cases hL:pL g (d+1) m us with
  | err c a =>
   rw[hL] at hr
   obtain⟨ad,n,k,rfl⟩:∃ad n k,e=.returned (.tuple #[.slice ad n k,wrongV a (errOf c aT aD)]):=hr
   have HL:Hid (pL g (d+1) m us=.err c a):=hL
   clear hL IH
   go_wp2
   go_ret2
   refine⟨pt6,?_⟩
   rw[←HR.out,hnm,HL.out]
   exact⟨_,rfl⟩
  | ok ks rest =>
   rw[hL] at hr
   obtain⟨v,vs,q5,rfl,hrow,hrep,hlen,hz5,hq5⟩:=hr
   have cb:=build_any bd nb sp u.at_ v vs w4 _ hnz (by rw[hbd'];exact hs) hrow hrep.ifs hlen
   rw[hbd',hnb] at cb
   have HL:Hid (pL g (d+1) m us=.ok ks rest):=hL
   clear IH hL
   go_wp2_with (go_at_call 198;refine cb.mono ?_;rintro e w5 ⟨fv,rfl,hF,hb5⟩)
   go_ret2
   refine⟨pt6.below hb5,?_⟩
   rw[←HR.out,hnm,HL.out]
   refine⟨fv,q5,rfl,?_,hz5.keep hb5,hq5⟩
   rw[RepE]
   rw[hszY] at hrep hF
   refine⟨sp,vs,?_,?_⟩
   ·exact ((hrep.keep (w':=w5) fun k _ hlt=>hb5.block k hlt).weaken fun k hk=>by have:=hk.1;omega)
   ·exact hF.map fun sl hr=>hr.weaken fun k hk=>by omega
theorem form_any (sp:Nat){g pb rb:Nat}{s:ByteArray}{aT aD:Addr}(IH:ExprsDo g pb rb s aT aD){w:World}{p d:Nat}(h:Pz w pb rb s aT aD p (d+1)){ts:List Tok}(hts:IsToks s.data.toList p ts)(hg:ts.length≤g+1):
  Calls prog 173 #[.pointer (some ⟨pb,0,none⟩),.int .i64 ((sp:Nat):Int)] w (exPost (pF (pL g) (d+1) ts) w pb rb s aT aD d):=by
 obtain⟨t,r,rfl⟩:=hts.ne
 simp only[List.length_cons] at hg
 cases hn:shapeT t with
 | none =>
  have e:pF (pL g) (d+1) (t::r)=.err 2 t.at_:=by simp only[pF,hn]
  rw[e]
  exact (form_no sp h hts hn).mono fun e w' ⟨h1,h2⟩=>⟨h1,h2⟩
 | some x =>
  obtain⟨b,m⟩:=x
  cases b with
  | false =>
   have e:pF (pL g) (d+1) (t::r)=formR t.body [] t.at_ (pL g (d+1) m r):=by simp only[pF,hn]
   rw[e]
   exact form_plain sp IH h hts (by omega) hn
  | true =>
   have hw:t.k=.word:=by
    unfold shapeT at hn
    split at hn
    ·assumption
    ·cases hn
   have hr:∃u us,r=u::us:=by
    cases hts with
    | last hl=>rcases hl with g | g<;>(rw[hw] at g;cases g)
    | more _ _ h3=>exact h3.ne
   obtain⟨u,us,rfl⟩:=hr
   have e:pF (pL g) (d+1) (t::u::us)=if isNameT u then formR t.body u.body u.at_ (pL g (d+1) m us) else .err 2 u.at_:=by simp only[pF,hn]
   rw[e]
   simp only[List.length_cons] at hg
   exact form_named sp IH h hts (by omega) hn
end Go.Proofs.YtifhgjpglicjbaaGreatDoor
