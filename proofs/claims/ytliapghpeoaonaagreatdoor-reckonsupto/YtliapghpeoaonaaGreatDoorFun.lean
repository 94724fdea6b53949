/-
  function of the parser.
-/
import Derived.Test.YtliapghpeoaonaaGreatDoorExpr
import Derived.Test.YtliapghpeoaonaaGreatDoorPure
set_option maxHeartbeats 2000000
namespace Go.Proofs.YtliapghpeoaonaaGreatDoor
open Go.Proofs.Tryz
open Go.RowKit
attribute [local go_sem ↓] Go.wp_at_zero Go.wp_at_succ
theorem Z2o (pb rb:Nat)(s:ByteArray)(aT aD:Addr)(F:Nat):Zjc F pb rb s aT aD:=by
 induction F using Nat.strongRecOn with
 | _ F ih=>exact Zy7 ih
structure Res4 (X:World)(b:Nat):Prop where
 c0:X.cell? ⟨b,0,none⟩=some (.string ⟨#[]⟩)
 c1:X.cell? ⟨b,1,none⟩=some (.int .i64 0)
 c2:X.cell? ⟨b,2,none⟩=some (.slice none 0 0)
 c3:X.cell? ⟨b,3,none⟩=some .nilIface
 f0:X.frozen? ⟨b,0,none⟩=false
 f1:X.frozen? ⟨b,1,none⟩=false
 f2:X.frozen? ⟨b,2,none⟩=false
 f3:X.frozen? ⟨b,3,none⟩=false
theorem Res4.new (w:World):Res4 (w.alloc (.cells #[.string ⟨#[]⟩,.int .i64 0,.slice none 0 0,.nilIface] 143)) w.heap.size:=by
 have h:(w.alloc (Obj.cells #[.string ⟨#[]⟩,.int .i64 0,.slice none 0 0,.nilIface] 143)).heap[w.heap.size]?=some (.cells #[.string ⟨#[]⟩,.int .i64 0,.slice none 0 0,.nilIface] 143):=heap_alloc_new _ _
 constructor
 all_goals first
  |(unfold World.cell?;rw[h];rfl)
  |(unfold World.frozen?;rw[h];rfl)
theorem Res4.pt {X Y:World}{b pb rb:Nat}(h:Res4 X b)(hp:PT pb rb X Y)(h1:b≠pb)(h2:b≠rb):Res4 Y b:=by
 obtain⟨c0,c1,c2,c3,f0,f1,f2,f3⟩:=h
 have hl:=Zae c0
 exact⟨hp.cell c0 h1 h2,hp.cell c1 h1 h2,hp.cell c2 h1 h2,hp.cell c3 h1 h2,by rw[hp.frz (p:=⟨b,0,none⟩) hl h1 h2];exact f0,by rw[hp.frz (p:=⟨b,1,none⟩) hl h1 h2];exact f1,by rw[hp.frz (p:=⟨b,2,none⟩) hl h1 h2];exact f2,by rw[hp.frz (p:=⟨b,3,none⟩) hl h1 h2];exact f3⟩
abbrev Zij:Value:=.agg #[.string ⟨#[]⟩,.int .i64 0,.slice none 0 0,.nilIface]
def Zvr (r:Res Fn)(w:World)(pb rb:Nat)(s:ByteArray)(aT aD:Addr)(e:Ending)(w':World):Prop :=
 PT pb rb w w'∧match r with
 | .err c a=>e=.returned (.tuple #[Zij,Za2 a (Zi8 c aT aD)])
 | .ok fn rest=>∃(nb:ByteArray) (pv bv:Value) (q:Nat),nb.data.toList=fn.name∧e=.returned (.tuple #[.agg #[.string nb,.int .i64 ((fn.at_:Nat):Int),pv,bv],.nilIface])∧Z34 w' w.heap.size pv fn.params∧Zc8 w' (w.heap.size≤·) fn.body bv∧Pz w' pb rb s aT aD q 0∧Za4 s.data.toList q rest
theorem Zo5 {w:World}{pb rb:Nat}{s:ByteArray}{aT aD:Addr}{p:Nat}(h:Pz w pb rb s aT aD p 0){t:Tok}(bd:ByteArray)(hk:t.k≠.opn):
  Calls prog 145 #[.pointer (some ⟨pb,0,none⟩),Zui (Zbq t.k) t.at_ bd] w (Zvr (.err 2 t.at_) w pb rb s aT aD):=by
 have hk1:¬ Zbq t.k=1:=by revert hk;cases t.k<;>simp[Zbq]
 have hlt:=h.lt
 have h4:=Res4.new (w.alloc (Obj.cells #[.int .i64 (Zbq t.k),.int .i64 ((t.at_:Nat):Int),.string bd] 310))
 have hs1:(w.alloc (Obj.cells #[.int .i64 (Zbq t.k),.int .i64 ((t.at_:Nat):Int),.string bd] 310)).heap.size=w.heap.size+1:=by simp
 rw[hs1] at h4
 go_enter func145,ntmps145
 go_wp2_with fail
 refine (Zmq ((h.alloc _).alloc _) (Zbq t.k) t.at_ bd hk1).mono ?_
 rintro e w1 ⟨rfl,hb1⟩
 obtain⟨c0,c1,c2,c3,f0,f1,f2,f3⟩:=h4.pt (PT.of_below (pb:=pb) (rb:=rb) hb1) (by omega) (by omega)
 have pt1:=(((PT.refl (pb:=pb) (rb:=rb) w).alloc _).alloc _).below hb1
 clear h4 hb1
 go_wp2
 refine bodyPost_ret (v:=.tuple #[Zij,Za2 t.at_ aT]) (by simp[results,results145,go_sem,c0,c1,c2,c3]) rfl ⟨?_,rfl⟩
 exact (((pt1.set (by omega) _).set (by omega) _).set (by omega) _).set (by omega) _
theorem Zp3 {t:Tok}:Zg5 t=true ↔ (t.k=.word∧t.body=[102,117,110]):=by simp[Zg5]
theorem more_of {s : List UInt8} {p : Nat} {t : Tok} {ts : List Tok} (h : Za4    s p (t :: ts)) (h1 : t.k ≠ .eof) (h2 : t.k ≠ .bad) : ∃ u us, ts = u :: us := by
  cases h with
  | last hl => rcases hl with g | g
               · exact absurd g h1
               · exact absurd g h2
  | more _ _ h3 => exact h3.ne
theorem set4 {pb rb:Nat}{w x:World}(h:PT pb rb w x){b:Nat}(hb:w.heap.size≤b)(u0 u1 u2 u3:Value):PT pb rb w ((((x.setCell ⟨b,0,none⟩ u0).setCell ⟨b,1,none⟩ u1).setCell ⟨b,2,none⟩ u2).setCell ⟨b,3,none⟩ u3) :=
 (((h.set hb _).set hb _).set hb _).set hb _
theorem Pz.drew {w:World}{pb rb:Nat}{s:ByteArray}{aT aD:Addr}{p d:Nat}(h:Pz w pb rb s aT aD p d):Pz w.drew pb rb s aT aD p d :=
 ⟨h.rdr,h.opn,h.free,⟨h.rd.text,h.rd.place,h.rd.free⟩,h.eT,h.eD,h.hs,h.hne,h.h1,h.h2,h.hp,h.hd⟩
theorem PT.drew {pb rb:Nat}{a w:World}(h:PT pb rb a w):PT pb rb a w.drew:=Zaa.drew h
theorem touch4 (x:World)(b:Nat)(u0 u1 u2 u3:Value):Zaa (·=b) x ((((x.setCell ⟨b,0,none⟩ u0).setCell ⟨b,1,none⟩ u1).setCell ⟨b,2,none⟩ u2).setCell ⟨b,3,none⟩ u3).drew :=
 (((((Zaa.refl (·=b) x).setCell (p:=⟨b,0,none⟩) (Or.inl rfl) _).setCell (p:=⟨b,1,none⟩) (Or.inl rfl) _).setCell (p:=⟨b,2,none⟩) (Or.inl rfl) _).setCell (p:=⟨b,3,none⟩) (Or.inl rfl) _).drew
theorem Ztw {g:Nat}{w:World}{pb rb:Nat}{s:ByteArray}{aT aD:Addr}{p:Nat}(h:Pz w pb rb s aT aD p 0){t:Tok}{ts:List Tok}(hts:Za4 s.data.toList p ts)(bd:ByteArray)(hk:t.k=.opn)(hg:ts.length≤g):
  Calls prog 145 #[.pointer (some ⟨pb,0,none⟩),Zui (Zbq t.k) t.at_ bd] w (Zvr (Zfd g (t::ts)) w pb rb s aT aD):=by
 have hlt:=h.lt
 have h15:=h.h1
 have h4:=Res4.new (w.alloc (Obj.cells #[.int .i64 1,.int .i64 ((t.at_:Nat):Int),.string bd] 310))
 have hs1:(w.alloc (Obj.cells #[.int .i64 1,.int .i64 ((t.at_:Nat):Int),.string bd] 310)).heap.size=w.heap.size+1:=by simp
 rw[hs1] at h4
 have q1:Zbq t.k=1:=by rw[hk];rfl
 rw[q1]
 generalize hR:Zfd g (t::ts)=R
 have HR:Hid (Zfd g (t::ts)=R):=hR
 clear hR
 obtain⟨u,us,rfl⟩:=hts.ne
 go_enter func145,ntmps145
 go_wp2_with fail
 refine (Zrx ((h.alloc _).alloc _) t.at_ bd (by decide)).mono ?_
 rintro e w1 ⟨rfl,p1,z1⟩
 have h4:=h4.pt p1 (by omega) (by omega)
 have pt1:=(((PT.refl (pb:=pb) (rb:=rb) w).alloc _).alloc _).trans p1
 clear p1
 go_wp2_with fail
 cases hu:Zg5 u with
 | false =>
  refine (fun_no z1 hts (fun h=>by rw[Zp3.2 h] at hu;cases hu)).mono ?_
  rintro e w2 ⟨rfl,p2⟩
  obtain⟨c0,c1,c2,c3,f0,f1,f2,f3⟩:=h4.pt p2 (by omega) (by omega)
  have pt2:=pt1.trans p2
  clear h4 p2
  go_wp2
  refine bodyPost_ret (v:=.tuple #[Zij,Za2 u.at_ aT]) (by simp[results,results145,go_sem,c0,c1,c2,c3]) rfl ⟨set4 pt2 (by omega) _ _ _ _,?_⟩
  have e:R=.err 2 u.at_:=by
   rw[←HR.out]
   rcases us with _ | ⟨n,_ | ⟨o,r⟩⟩<;>simp[Zfd,hk,hu]
  rw[e]
  rfl
 | true =>
 obtain⟨hu1,hu2⟩:=Zp3.1 hu
 refine (fun_ok z1 hts hu1 hu2).mono ?_
 rintro e w2 ⟨rfl,p2,q2,z2,i2⟩
 have h4:=h4.pt p2 (by omega) (by omega)
 have pt2:=pt1.trans p2
 clear p2 z1
 obtain⟨n,r,rfl⟩:=i2.ne
 go_wp2_with fail
 cases hn:Zbg n with
 | false =>
  refine (Z1x z2 i2 hn).mono ?_
  rintro e w3 ⟨rfl,p3⟩
  obtain⟨c0,c1,c2,c3,f0,f1,f2,f3⟩:=h4.pt p3 (by omega) (by omega)
  have pt3:=pt2.trans p3
  have hl3:=Zae c0
  clear h4 p3
  go_wp2
  refine bodyPost_ret (v:=.tuple #[Zij,Za2 n.at_ aT]) (by simp[results,results145,go_sem,c0,c1,c2,c3,hl3]) rfl ⟨?_,?_⟩
  ·exact (set4 pt3 (by omega) _ _ _ _).alloc _
  have e:R=.err 2 n.at_:=by
   rw[←HR.out]
   rcases r with _ | ⟨o,r⟩<;>simp[Zfd,hk,hu,hn]
  rw[e]
  rfl
 | true =>
 refine (Z1w z2 i2 hn).mono ?_
 rintro e w3 ⟨nb,rfl,hnb,hnz,p3,q3,z3,i3⟩
 have h4:=h4.pt p3 (by omega) (by omega)
 have pt3:=pt2.trans p3
 have hb4lt:w.heap.size+1<w3.heap.size:=Zae h4.c0
 obtain⟨n0,n1,n2⟩:=Zh5 w3 (.string nb) (.int .i64 ((n.at_:Nat):Int)) 138
 have hsz3:=pt3.size
 have hx8:w3.heap.size≠pb:=by omega
 have hy8:w3.heap.size≠rb:=by omega
 clear p3 z2
 obtain⟨o,r3,rfl⟩:=i3.ne
 go_wp2_with fail
 by_cases ho:o.k=.opn
 case neg =>
  refine (Zmb (z3.alloc _) i3 ho).mono ?_
  rintro e w4 ⟨p4,hr⟩
  have hr':e=.returned (.tuple #[.slice none 0 0,Za2 o.at_ aT]):=hr
  subst hr'
  obtain⟨c0,c1,c2,c3,f0,f1,f2,f3⟩:=(h4.pt ((PT.refl (pb:=pb) (rb:=rb) w3).alloc _) (by omega) (by omega)).pt p4 (by omega) (by omega)
  have pt4:=(pt3.alloc _).trans p4
  clear h4 p4 hr
  go_wp2
  refine bodyPost_ret (v:=.tuple #[Zij,Za2 o.at_ aT]) (by simp[results,results145,go_sem,c0,c1,c2,c3]) rfl ⟨set4 pt4 (by omega) _ _ _ _,?_⟩
  have e:R=.err 2 o.at_:=by
   rw[←HR.out]
   simp[Zfd,hk,hu,hn,ho]
  rw[e]
  rfl
 have HR2:Hid (Zdy g n.body n.at_ (pP r3)=R):=by
  show _=_
  rw[←HR.out]
  simp[Zfd,hk,hu,hn,ho]
 have hlen3:r3.length≤g:=by simp only[List.length_cons] at hg;omega
 clear HR
 refine (Znu (z3.alloc _) i3 (by decide) ho).mono ?_
 rintro e w4 ⟨p4,hr⟩
 have h4:=(h4.pt ((PT.refl (pb:=pb) (rb:=rb) w3).alloc _) (by omega) (by omega)).pt p4 (by omega) (by omega)
 have pt4:=(pt3.alloc _).trans p4
 have m0:w4.cell? ⟨w3.heap.size,0,none⟩=some (.string nb):=p4.cell n0 hx8 hy8
 have m1:w4.cell? ⟨w3.heap.size,1,none⟩=some (.int .i64 ((n.at_:Nat):Int)):=p4.cell n1 hx8 hy8
 have hsA:(w3.alloc (Obj.cells #[.string nb,.int .i64 ((n.at_:Nat):Int)] 138)).heap.size=w3.heap.size+1:=by simp
 have hsz4:w3.heap.size+1≤w4.heap.size:=by have:=p4.size;rw[hsA] at this;exact this
 clear n0 n1 n2 z3
 cases hP:pP r3 with
 | err c a =>
  rw[hP] at hr
  have hr':e=.returned (.tuple #[.slice none 0 0,Za2 a (Zi8 c aT aD)]):=hr
  subst hr'
  have HR3:Hid (R=.err c a):=by show _=_;rw[←HR2.out,hP];rfl
  obtain⟨c0,c1,c2,c3,f0,f1,f2,f3⟩:=h4
  clear hP HR2 hr p4
  go_wp2
  refine bodyPost_ret (v:=.tuple #[Zij,Za2 a (Zi8 c aT aD)]) (by simp[results,results145,go_sem,c0,c1,c2,c3]) rfl ⟨set4 pt4 (by omega) _ _ _ _,?_⟩
  rw[HR3.out]
 | ok ns r4 =>
 rw[hP] at hr
 obtain⟨pv,q4,rfl,hns,z4,i4⟩:=hr
 have hl4:=Z03 _ _ _ hP
 have HR3:Hid (Zr2 n.body n.at_ ns (pL g 1 1 r4)=R):=by show _=_;rw[←HR2.out,hP];rfl
 rw[hsA] at hns
 obtain⟨bs,hbs,hown⟩:=hns
 obtain⟨pad,pcap,rfl⟩:=Zaf hown
 clear hP HR2 p4
 go_wp2_with fail
 refine (Z2o pb rb s aT aD g r4 0 q4 1 _ (by omega) (by decide) (by decide) z4 i4).mono ?_
 rintro e w5 ⟨p5,hr⟩
 have h4:=h4.pt p5 (by omega) (by omega)
 have pt5:=pt4.trans p5
 have k0:w5.cell? ⟨w3.heap.size,0,none⟩=some (.string nb):=p5.cell m0 hx8 hy8
 have k1:w5.cell? ⟨w3.heap.size,1,none⟩=some (.int .i64 ((n.at_:Nat):Int)):=p5.cell m1 hx8 hy8
 have own5:w5.ownsRow (w3.heap.size+1) 138 2 _ bs.length (Zb2 bs):=Zc5 hown p5 (fun k hk=>by rintro (g | g)<;>omega)
 have hsz5:=p5.size
 clear m0 m1 hown z4
 cases hL:pL g 1 1 r4 with
 | err c a =>
  rw[show pL g (0+1) 1 r4=.err c a from hL] at hr
  obtain⟨ad,nn,kk,rfl⟩:=hr
  have HR4:Hid (R=.err c a):=by show _=_;rw[←HR3.out,hL];rfl
  obtain⟨c0,c1,c2,c3,f0,f1,f2,f3⟩:=h4
  clear hL HR3 p5
  go_wp2
  refine bodyPost_ret (v:=.tuple #[Zij,Za2 a (Zi8 c aT aD)]) (by simp[results,results145,go_sem,c0,c1,c2,c3]) rfl ⟨set4 pt5 (by omega) _ _ _ _,?_⟩
  rw[HR4.out]
 | ok es r5 =>
 rw[show pL g (0+1) 1 r4=.ok es r5 from hL] at hr
 obtain⟨v,vs,q5,rfl,hrow,hrep,hlen,z5,i5⟩:=hr
 have hv1:vs.length=1:=by have:=hlen (by decide);omega
 obtain⟨x,rfl⟩:=Zvo hv1
 obtain⟨tx,xx,rfl⟩:=hrep.ifs x (by simp)
 obtain⟨gb,cap,rfl,hgb,hc1,hc2,hcell⟩:=hrow.cell (by simp)
 have hb0:w5.cell? ⟨gb,0,none⟩=some (.iface tx xx):=by rw[hcell 0 (by simp)];rfl
 obtain⟨ex,rfl,hrepx⟩:∃ex,es=[ex]∧Zc8 w5 (w4.heap.size≤·) ex (.iface tx xx):=by
  cases es with
  | nil=>rw[Zbj] at hrep;cases hrep
  | cons ex l =>
   rw[Zbj] at hrep
   obtain⟨v,r,h1,h2,h3⟩:=hrep
   cases h1
   cases l with
   | nil=>exact⟨ex,rfl,h2⟩
   | cons y l=>rw[Zbj] at h3;obtain⟨_,_,h,_⟩:=h3;cases h
 have HR4:Hid (R=.ok ⟨n.body,n.at_,ns,ex⟩ r5):=by show _=_;rw[←HR3.out,hL];rfl
 obtain⟨c0,c1,c2,c3,f0,f1,f2,f3⟩:=h4
 unfold maxLen at hc2
 have i1:(1:Int)≤(cap:Int):=by omega
 clear hL HR3 p5 hrow hrep hlen hcell hv1
 have nb4:w.heap.size+1≠w3.heap.size:=by omega
 have nb5:w.heap.size+1≠gb:=by omega
 go_wp2
 go_region_held3 (fun w'=>w'.cell? ⟨w3.heap.size,0,none⟩=some (.string nb)∧w'.cell? ⟨w3.heap.size,1,none⟩=some (.int .i64 ((n.at_:Nat):Int))∧w'.cell? ⟨gb,0,none⟩=some (.iface tx xx)) (go_keep) (fail)
 all_goals go_wp2
 have t4:=touch4 w5 (w.heap.size+1) (.string nb) (.int .i64 ((n.at_:Nat):Int)) (.slice pad bs.length pcap) (.iface tx xx)
 refine bodyPost_ret (v:=.tuple #[.agg #[.string nb,.int .i64 ((n.at_:Nat):Int),.slice pad bs.length pcap,.iface tx xx],.nilIface]) (by simp[results,results145,go_sem,c0,c1,c2,c3]) rfl ⟨(set4 pt5 (by omega) _ _ _ _).drew,?_⟩
 rw[HR4.out]
 refine⟨nb,_,_,q5,hnb,rfl,⟨bs,hbs,Znw (Zc5 own5 t4 (fun k hk=>by show ¬ k=w.heap.size+1;omega)) (by omega)⟩,?_,((((z5.set (by omega) (by omega) (by omega) _).set (by omega) (by omega) (by omega) _).set (by omega) (by omega) (by omega) _).set (by omega) (by omega) (by omega) _).drew,i5⟩
 exact ((hrepx.keep (w':=_) fun k hk hlt=>t4.block k hlt (by show ¬ k=w.heap.size+1;omega)).weaken fun k hk=>by have:=hk.1;omega)
theorem Ztx {g:Nat}{w:World}{pb rb:Nat}{s:ByteArray}{aT aD:Addr}{p:Nat}(h:Pz w pb rb s aT aD p 0){t:Tok}{ts:List Tok}(hts:t.k≠.eof→Za4 s.data.toList p ts)(bd:ByteArray)(hg:ts.length≤g):
  Calls prog 145 #[.pointer (some ⟨pb,0,none⟩),Zui (Zbq t.k) t.at_ bd] w (Zvr (Zfd g (t::ts)) w pb rb s aT aD):=by
 by_cases hk:t.k=.opn
 ·exact Ztw h (hts (by rw[hk];decide)) bd hk hg
 ·have e:Zfd g (t::ts)=.err 2 t.at_:=by
   rcases ts with _ | ⟨u,_ | ⟨n,_ | ⟨o,r⟩⟩⟩<;>simp[Zfd,hk]
  rw[e]
  exact Zo5 h bd hk
structure FnV where
 nb:ByteArray
 at_:Nat
 pv:Value
 bv:Value
def Zcs:List FnV→List Value
 | []=>[]
 | x::r=>.string x.nb::.int .i64 ((x.at_:Nat):Int)::x.pv::x.bv::Zcs r
theorem Zty (l:List FnV)(x:FnV):Zcs (l++[x])=Zcs l++[.string x.nb,.int .i64 ((x.at_:Nat):Int),x.pv,x.bv]:=by
 induction l with
 | nil=>rfl
 | cons y l ih=>simp[Zcs,ih]
def Zzr (w:World)(D:Nat→Prop)(x:FnV)(fn:Fn):Prop :=
 x.nb.data.toList=fn.name∧x.at_=fn.at_∧(∃bs,Zas bs=fn.params∧Zao w D 138 2 x.pv bs.length (Zb2 bs))∧Zc8 w D fn.body x.bv
def Zbu (w:World)(D:Nat→Prop):List FnV→List Fn→Prop
 | [],fns=>fns=[]
 | x::xs,fns=>∃fn r,fns=fn::r∧Zzr w D x fn∧Zbu w D xs r
theorem Zzr.map {w w':World}{D D':Nat→Prop}(hR:∀(e:TypeId) size sl n vs,Zao w D e size sl n vs→Zao w' D' e size sl n vs){x:FnV}{fn:Fn}(h:Zzr w D x fn):Zzr w' D' x fn :=
 ⟨h.1,h.2.1,h.2.2.1.elim fun bs hb=>⟨bs,hb.1,hR _ _ _ _ _ hb.2⟩,h.2.2.2.map fun _ _ _ hr=>hR _ _ _ _ _ hr⟩
theorem Zbu.map {w w':World}{D D':Nat→Prop}(hR:∀(e:TypeId) size sl n vs,Zao w D e size sl n vs→Zao w' D' e size sl n vs):∀{xs:List FnV} {fns:List Fn},Zbu w D xs fns→Zbu w' D' xs fns
 | [],fns,h=>h
 | x::xs,fns,h=>by
  obtain⟨fn,r,h1,h2,h3⟩:=h
  exact⟨fn,r,h1,h2.map hR,Zbu.map hR h3⟩
theorem Zbu.keep {w w':World}{D:Nat→Prop}{xs:List FnV}{fns:List Fn}(h:Zbu w D xs fns)(hS:Z33 D w w'):Zbu w' (fun k=>D k∧k<w.heap.size) xs fns:=h.map fun _ _ _ _ _ hr=>hr.keep hS
theorem Zbu.weaken {w:World}{D D':Nat→Prop}{xs:List FnV}{fns:List Fn}(h:Zbu w D xs fns)(hD:∀k,D k→D' k):Zbu w D' xs fns:=h.map fun _ _ _ _ _ hr=>hr.weaken hD
theorem Zbu.length {w:World}{D:Nat→Prop}:∀{xs:List FnV} {fns:List Fn},Zbu w D xs fns→xs.length=fns.length
 | [],fns,h=>by rw[show fns=[] from h];rfl
 | x::xs,fns,h=>by
  obtain⟨fn,r,rfl,_,h3⟩:=h
  simp[Zbu.length h3]
theorem Zbu.snoc {w:World}{D:Nat→Prop}{x:FnV}{fn:Fn}(hx:Zzr w D x fn):∀{xs:List FnV} {fns:List Fn},Zbu w D xs fns→Zbu w D (xs++[x]) (fns++[fn])
 | [],fns,h=>by rw[show fns=[] from h];exact⟨fn,[],rfl,hx,rfl⟩
 | y::xs,fns,h=>by
  obtain⟨g,r,rfl,h2,h3⟩:=h
  exact⟨g,r++[fn],rfl,h2,Zbu.snoc hx h3⟩
def addF (pre:List Fn):Res (List Fn)→Res (List Fn)
 | .ok es r=>.ok (pre++es) r
 | .err c a=>.err c a
theorem Z3t (pre:List Fn)(e:Fn)(r:Res (List Fn)):addF pre (Zk8 e r)=addF (pre++[e]) r:=by cases r<;>simp[addF,Zk8]
theorem Tryz.infoFunction:(prog.info? 143).map (fun i=>(i.zero,i.size,i.bytes))=some (some Zij,4,64):=by kernel_rfl
theorem Zr1 (w:World)(x y z u:Value)(t:TypeId):∀j v,[x,y,z,u][j]?=some v→(w.alloc (.cells #[x,y,z,u] t)).cell? ((⟨w.heap.size,0,none⟩:Addr).add j)=some v:=by
 intro j v hj
 match j,hj with
 | 0,hj=>simp at hj;subst hj;simp[Addr.add]
 | 1,hj=>simp at hj;subst hj;simp[Addr.add]
 | 2,hj=>simp at hj;subst hj;simp[Addr.add]
 | 3,hj=>simp at hj;subst hj;simp[Addr.add]
 | j+4,hj=>simp at hj
def Z01 (r:Res (List Fn))(w:World)(aT aD:Addr)(e:Ending)(w':World):Prop :=
 Below w.heap.size w w'∧match r with
 | .err c a=>e=.returned (.tuple #[.slice none 0 0,Za2 a (Zi8 c aT aD)])
 | .ok fns _=>∃v xs,e=.returned (.tuple #[v,.nilIface])∧Zao w' (w.heap.size≤·) 143 4 v xs.length (Zcs xs)∧Zbu w' (w.heap.size≤·) xs fns
theorem pz_start (s:ByteArray)(w:World)(aT aD:Addr)(hs:s.size≤2000)(eT:w.cell? ⟨3,0,none⟩=some (Za8 aT))(eD:w.cell? ⟨4,0,none⟩=some (Za8 aD))(h15:15≤w.heap.size):
  let X:=(w.alloc (.cells #[.string s,.int .i64 0] 367)).alloc (.cells #[.pointer (some ⟨w.heap.size,0,none⟩),.int .i64 0] 307)
  Pz X (w.heap.size+1) w.heap.size s aT aD 0 0∧Below w.heap.size w X∧X.heap.size=w.heap.size+2:=by
 have hb1:(w.alloc (Obj.cells #[.string s,.int .i64 0] 367)).heap[w.heap.size]?=some (.cells #[.string s,.int .i64 0] 367):=heap_alloc_new _ _
 have hz1:(w.alloc (Obj.cells #[.string s,.int .i64 0] 367)).heap.size=w.heap.size+1:=by simp
 have hb2:((w.alloc (Obj.cells #[.string s,.int .i64 0] 367)).alloc (.cells #[.pointer (some ⟨w.heap.size,0,none⟩),.int .i64 0] 307)).heap[w.heap.size+1]?=some (.cells #[.pointer (some ⟨w.heap.size,0,none⟩),.int .i64 0] 307):=by
  have:=heap_alloc_new (w.alloc (Obj.cells #[.string s,.int .i64 0] 367)) (.cells #[.pointer (some ⟨w.heap.size,0,none⟩),.int .i64 0] 307)
  rw[hz1] at this
  exact this
 have hb3:((w.alloc (Obj.cells #[.string s,.int .i64 0] 367)).alloc (.cells #[.pointer (some ⟨w.heap.size,0,none⟩),.int .i64 0] 307)).heap[w.heap.size]?=some (.cells #[.string s,.int .i64 0] 367):=by
  rw[Below.heap_alloc _ _ _ (by rw[hz1];omega)]
  exact hb1
 refine⟨⟨?_,?_,?_,⟨?_,?_,?_⟩,Zac (Zac eT),Zac (Zac eD),hs,by omega,by omega,by omega,by omega,by omega⟩,((Below.refl _ _).alloc (Nat.le_refl _) _).alloc (by rw[hz1];omega) _,by simp⟩
 ·unfold World.cell?;rw[hb2];rfl
 ·unfold World.cell?;rw[hb2];rfl
 ·unfold World.frozen?;rw[hb2];rfl
 ·unfold World.cell?;rw[hb3];rfl
 ·unfold World.cell?;rw[hb3];rfl
 ·unfold World.frozen?;rw[hb3];rfl
theorem Zjb {w X wr:World}(hX:Below w.heap.size w X)(h:PT (w.heap.size+1) w.heap.size X wr):Below w.heap.size w wr :=
 Zaa.fresh hX h (fun k hk=>by rintro (g | g)<;>omega)
theorem Z00 (s:ByteArray)(w:World)(aT aD:Addr)(hs:s.size≤2000)(eT:w.cell? ⟨3,0,none⟩=some (Za8 aT))(eD:w.cell? ⟨4,0,none⟩=some (Za8 aD))(h15:15≤w.heap.size){ts:List Tok}(hts:Za4 s.data.toList 0 ts):
  Calls prog 92 #[.string s] w (Z01 (Zb7 (ts.length+1) ts) w aT aD):=by
 have hlen:=hts.len (by omega)
 rw[Zax] at hlen
 go_enter func92,ntmps92
 go_wp2
 obtain⟨hz,hbX,hsX⟩:=pz_start s w aT aD hs eT eD h15
 generalize (w.alloc (Obj.cells #[.string s,.int .i64 0] 367)).alloc (Obj.cells #[.pointer (some ⟨w.heap.size,0,none⟩),.int .i64 0] 307)=X at *
 clear eT eD
 go_loopg [5] ts.length (fun k v wr=>∃f fns xs ts2 q2,k=ts2.length∧ts2.length+1≤f∧fns.length+ts2.length≤ts.length∧wr.ownsRow X.heap.size 143 4 v xs.length (Zcs xs)∧Zbu wr (fun k=>X.heap.size≤k∧some k≠v.ownBlock) xs fns∧PT (w.heap.size+1) w.heap.size X wr∧Pz wr (w.heap.size+1) w.heap.size s aT aD q2 0∧Za4 s.data.toList q2 ts2∧Zb7 (ts.length+1) ts=addF fns (Zb7 f ts2))
 case atStart =>
  refine⟨ts.length+1,[],[],ts,0,rfl,Nat.le_refl _,by simp,World.ownsRow_nil _ _ _ _,rfl,PT.refl X,hz,hts,?_⟩
  cases Zb7 (ts.length+1) ts<;>rfl
 case round =>
  obtain⟨f,fns,xs,ts2,q2,rfl,hf1,hcount,hown,hrep,hptr,hzr,hq3,heq⟩:=hrel
  obtain⟨t2,ts3,rfl⟩:=hq3.ne
  have r1:=hzr.rdr
  have HE:Aside (Zb7 (ts.length+1) ts=addF fns (Zb7 f (t2::ts3))):=heq
  clear heq hts hz
  have hltr:=hzr.lt
  have hszr:=hptr.size
  have HV:Hid (xs.length=fns.length):=hrep.length
  simp only[List.length_cons] at hcount hf1
  obtain⟨f,rfl⟩:∃f',f=f'+1:=⟨f-1,by omega⟩
  obtain⟨ad,cap,rfl⟩:=Zaf hown
  by_cases hbad:t2.k=.bad
  ·have cn:=Zgy hzr hq3 hbad
   have hP':Zb7 (ts.length+1) ts=.err 2 t2.at_:=by
    rw[HE.out]
    rcases ts3 with _ | ⟨u,_ | ⟨n,_ | ⟨o,r⟩⟩⟩<;>simp[Zb7,Zfd,hbad,addF]
   rw[hP']
   go_wp2_with (go_at_call 144;refine cn.mono ?_;rintro e w3 ⟨rfl,hpt5⟩)
   go_ret2
   exact⟨Zjb hbX ((hptr.trans hpt5).alloc _),rfl⟩
  have cn:=Zc1 hzr hq3 hbad
  by_cases heof:t2.k=.eof
  ·have hP':Zb7 (ts.length+1) ts=.ok fns ts3:=by
    rw[HE.out]
    simp[Zb7,heof,addF]
   rw[hP']
   rw[heof] at cn
   clear HE
   go_wp2_with (go_at_call 144;refine cn.mono ?_;rintro e w3 ⟨bd3,rfl,hbd,hbz,hpt5,q5,hz5,hq5⟩)
   go_ret2
   have own4:(w3.alloc (Obj.cells #[.int .i64 (Zbq K.eof),.int .i64 ((t2.at_:Nat):Int),.string bd3] 310)).ownsRow X.heap.size 143 4 _ xs.length (Zcs xs):=Zc5 hown (hpt5.alloc _) (fun k hk=>by rintro (g | g)<;>omega)
   have rep4:=(hrep.keep (Zkt (hpt5.alloc (Obj.cells #[.int .i64 (Zbq K.eof),.int .i64 ((t2.at_:Nat):Int),.string bd3] 310)) (fun k hk=>by have:=hk.1;omega)))
   exact⟨Zjb hbX ((hptr.trans hpt5).alloc _),_,xs,rfl,Zao.of_owns (Znw own4 (by omega)),rep4.weaken fun k hk=>by have:=hk.1.1;omega⟩
  ·have hk0:¬ Zbq t2.k=0:=by revert heof;cases t2.k<;>simp[Zbq]
   have HG:Aside (Zb7 (ts.length+1) ts=addF fns (match Zfd (f+1) (t2::ts3) with | .err c a=>.err c a | .ok fn r=>Zk8 fn (Zb7 f r))):=by
    show _=_
    rw[HE.out]
    simp only[Zb7,heof,if_false]
    cases Zfd (f+1) (t2::ts3)<;>rfl
   clear HE
   go_wp2_with fail
   refine cn.mono ?_
   rintro e w3 ⟨bd3,rfl,hbd,hbz,hpt5,q5,hz5,hq5⟩
   have ce:=Ztx (g:=f+1) (hz5.alloc (Obj.cells #[.int .i64 (Zbq t2.k),.int .i64 ((t2.at_:Nat):Int),.string bd3] 310)) hq5 bd3 (by omega)
   clear cn
   go_wp2_with fail
   refine ce.mono ?_
   rintro e w4 ⟨pt6,hr⟩
   have pt7:PT (w.heap.size+1) w.heap.size X w4:=((hptr.trans hpt5).alloc _).trans pt6
   have hsz3:=hpt5.size
   have hsa:(w3.alloc (Obj.cells #[.int .i64 (Zbq t2.k),.int .i64 ((t2.at_:Nat):Int),.string bd3] 310)).heap.size=w3.heap.size+1:=by simp
   have hsz4:w3.heap.size+1≤w4.heap.size:=by have:=pt6.size;rw[hsa] at this;exact this
   cases hE:Zfd (f+1) (t2::ts3) with
   | err c a =>
    rw[hE] at hr
    have hr':e=.returned (.tuple #[Zij,Za2 a (Zi8 c aT aD)]):=hr
    subst hr'
    have HP:Hid (Zb7 (ts.length+1) ts=.err c a):=show _=_ by rw[HG.out,hE];rfl
    clear HG hE ce hr
    go_wp2
    go_ret2
    refine⟨Zjb hbX (pt7.alloc _),?_⟩
    rw[HP.out]
    rfl
   | ok fn rest =>
    rw[hE] at hr
    obtain⟨nb,pv,bv,q6,hnb,rfl,hnames,hrepb,hz6,hq6⟩:=hr
    rw[hsa] at hnames hrepb
    obtain⟨bs,hbs,hownN⟩:=hnames
    obtain⟨pad,pcap,rfl⟩:=Zaf hownN
    obtain⟨tb,xb,rfl⟩:=hrepb.iface
    have hl:=Zwr hE
    simp only[List.length_cons] at hl
    have own4:w4.ownsRow X.heap.size 143 4 (.slice ad xs.length cap) xs.length (Zcs xs):=Zc5 hown ((hpt5.alloc _).trans pt6) (fun k hk=>by rintro (g | g)<;>omega)
    have hrowlt:∀k,(Value.slice ad xs.length cap).ownBlock=some k→X.heap.size≤k∧k<wr.heap.size:=fun k hk=>hown.lt k hk
    have rep4:=hrep.keep (Zkt ((hpt5.alloc (Obj.cells #[.int .i64 (Zbq t2.k),.int .i64 ((t2.at_:Nat):Int),.string bd3] 310)).trans pt6) (fun k hk=>by have:=hk.1;omega))
    have HG2:Aside (Zb7 (ts.length+1) ts=addF (fns++[fn]) (Zb7 f rest)):=by
     show _=_
     rw[HG.out,hE]
     exact Z3t _ _ _
    have hnx:∀k,w3.heap.size+1≤k→some k≠(Value.slice ad xs.length cap).ownBlock:=fun k hk e=>by have:=(hrowlt k e.symm).2;omega
    have rep5:Zbu w4 (fun k=>X.heap.size≤k∧some k≠(Value.slice ad xs.length cap).ownBlock) (xs++[⟨nb,fn.at_,.slice pad bs.length pcap,.iface tb xb⟩]) (fns++[fn]) :=
     Zbu.snoc ⟨hnb,rfl,⟨bs,hbs,(Zao.of_owns hownN).weaken fun k hk=>⟨by omega,hnx k hk⟩⟩,hrepb.weaken fun k hk=>⟨by omega,hnx k hk⟩⟩ (rep4.weaken fun k hk=>hk.1)
    clear HG hE hrep rep4 hrepb hownN ce
    go_wp2_with (at_builtin;obtain⟨i0,hi,hz0,hz1,hz2⟩:=info_parts Tryz.infoFunction;refine wpList_append_own_at _ rfl _ _ 77 rfl X.heap.size 143 i0 Zij 4 64 underlying77 hi hz0 hz1 hz2 rfl (by decide) _ _ _ rfl ((own4.alloc _).alloc _) ⟨w4.heap.size+1,0,none⟩ 1 1 [.string nb,.int .i64 ((fn.at_:Nat):Int),.slice pad bs.length pcap,.iface tb xb] rfl rfl ?_ (fun x hx=>by simp at hx;rcases hx with rfl | rfl | rfl | rfl<;>rfl) (by have:=HV.out;unfold maxLen;omega) (by have:=HV.out;omega) (by simp;omega) ?_;(have:=Zr1 (w4.alloc (Obj.cells #[.string nb,.int .i64 ((fn.at_:Nat):Int),.slice pad bs.length pcap,.iface tb xb] 143)) (.string nb) (.int .i64 ((fn.at_:Nat):Int)) (.slice pad bs.length pcap) (.iface tb xb) 143;simpa using this);intro v' w6 hown' hgrow hnil hob;clear hi hz0 hz1 hz2)
    go_roundg rest.length
    case measure=>simp;omega
    case rel =>
     have hsg:((w4.alloc (Obj.cells #[.string nb,.int .i64 ((fn.at_:Nat):Int),.slice pad bs.length pcap,.iface tb xb] 143)).alloc (Obj.cells #[.string nb,.int .i64 ((fn.at_:Nat):Int),.slice pad bs.length pcap,.iface tb xb] 143)).heap.size=w4.heap.size+2:=by simp
     have hlen1:(xs++[(⟨nb,fn.at_,.slice pad bs.length pcap,.iface tb xb⟩:FnV)]).length=xs.length+1:=by simp
     refine⟨f,fns++[fn],xs++[⟨nb,fn.at_,.slice pad bs.length pcap,.iface tb xb⟩],rest,q6,rfl,by omega,by simp;omega,by rw[hlen1,Zty];exact hown',?_,((pt7.alloc _).alloc _).grown hgrow (fun k hk=>(hrowlt k hk).1),((hz6.alloc _).alloc _).grown hgrow (fun k hk=>by have:=hrowlt k hk;omega),hq6,HG2.out⟩
     have keep6:=(((rep5.keep (w':=(w4.alloc (Obj.cells #[.string nb,.int .i64 ((fn.at_:Nat):Int),.slice pad bs.length pcap,.iface tb xb] 143)).alloc (Obj.cells #[.string nb,.int .i64 ((fn.at_:Nat):Int),.slice pad bs.length pcap,.iface tb xb] 143)) fun k _ hlt=>by rw[Below.heap_alloc _ _ _ (by simp;omega),Below.heap_alloc _ _ _ hlt])).keep (w':=w6) (Zku hgrow (fun k hk=>hk.1.2)))
     refine keep6.weaken fun k hk=>⟨hk.1.1.1,?_⟩
     rcases hob with h | h
     ·rw[h];exact hk.1.1.2
     ·rw[h,hsg]
      intro e
      have:=hk.1.2
      simp only[Option.some.injEq] at e
      omega
end Go.Proofs.YtliapghpeoaonaaGreatDoor
