/-
  The reference: name.
-/
import Derived.Test.YtliapghpeoaonaaGreatDoorRefC
import Derived.Test.YtliapghpeoaonaaGreatDoorPure
import Derived.Test.YtliapghpeoaonaaGreatDoorVal
import Derived.Maps.AppendAt
set_option maxHeartbeats 1000000
namespace Go.Proofs.YtliapghpeoaonaaGreatDoor
open Go.Proofs.Tryz
open Go.RowKit
attribute [local go_sem ↓] Go.wp_at_zero Go.wp_at_succ
section
variable {w:World} {rb tb cap:Nat} {l:List (Tok×ByteArray)} {fv pv:Value} {k d e a:Nat}
theorem Zyr (h:Rz w rb tb cap l fv pv k d e a)(he:e≠0)(hsh:∃x,Za3 (l[k]'h.hk).2.data.toList=some x):
  Calls prog 98 #[.pointer (some ⟨rb,0,none⟩)] w fun r w'=>r=.returned (Zaq (l[k]'h.hk))∧Zaa (·=rb) w w'∧Rz w' rb tb cap l fv pv k d e a:=by
 have hlt:=h.lt
 have hl:=h.hl
 have hd:=h.hd
 have hne1:=Nat.ne_of_lt hlt.1
 have hne2:=Nat.ne_of_lt hlt.2
 have cn:=Zbf (h.alloc Zfx)
 have hk:=h.hk
 have cf:=Zc2 (l[k]'h.hk).2
 obtain⟨⟨sb,sn⟩,hsh⟩:=hsh
 rw[hsh] at cf
 clear hsh
 have hcv:Zaq (l[k]'h.hk)=.agg #[.int .u8 (Zba (l[k]'h.hk).1.k),.string (l[k]'h.hk).2,.int .i64 (((l[k]'h.hk).1.at_:Nat):Int)]:=rfl
 have OVR:Aside (∀(X:World) (e a:Nat),Rz X rb tb cap l fv pv k d e a→e≠0→Calls prog 97 #[.pointer (some ⟨rb,0,none⟩),.int .u8 97,.string ⟨#[]⟩] X fun r w'=>r=.returned (Zaq (l[k]'h.hk))∧Zaa (·=rb) X w'∧Rz w' rb tb cap l fv pv k d e a):=fun X e a hz he=>Zb8 hz he 97 ⟨#[]⟩
 generalize Zba (l[k]'h.hk).1.k=c at *
 generalize (l[k]'h.hk).2=ts at *
 generalize (l[k]'h.hk).1.at_=p at *
 generalize Zaq (l[k]'h.hk)=tv at *
 subst hcv
 go_enter func98,ntmps98
 go_wp2_with (first
  |(go_at_call 56;refine cn.mono ?_;rintro r w1 ⟨rfl,hb1⟩;have z1:=((h.alloc Zfx).below hb1).alloc (Zc3 c ts p);have b1:=((Bx.new w).below hb1).below (Zab w1 (Zc3 c ts p));have g1:=Za9 w1 c ts p;obtain⟨v0,v1,v2,v3,v4,v5⟩:=b1.facts;obtain⟨q0,q1,q2⟩:=g1.facts;have z0:=hb1.size;simp at z0;have ne3:rb≠w1.heap.size:=(by omega);have ne4:w.heap.size≠w1.heap.size:=(by omega))
  |(go_at_call 148;refine (cf _).mono ?_;rintro r w9 ⟨rfl,rfl⟩;simp only[Zgg])
  |(go_at_call 147;refine (Ze2 z1 he _ _).mono ?_;rintro r w9 ⟨rfl,rfl⟩)
  |(go_at_call 97;refine (OVR.out _ _ _ z1 he).mono ?_;rintro r w4 ⟨rfl,ht4,z4⟩;have b4:=b1.touch ht4 (Ne.symm hne1);obtain⟨y0,y1,y2,y3,y4,y5⟩:=b4.facts;clear v0 v1 v2 v3 v4 v5 q0 q1 q2))
 have tall:=(Zaa.of_below (((Zab w _).trans (hb1.mono (by simp))).alloc (by omega) _)).trans ht4
 refine bodyPost_ret (v:=.agg #[.int .u8 c,.string ts,.int .i64 ((p:Nat):Int)]) (by simp[results,results98,go_sem,y0,y1,y2]) rfl ⟨rfl,?_⟩
 exact Zo6 hlt.1 hlt.2 (Nat.le_refl _) tall z4 _ _ _
theorem Zyq (h:Rz w rb tb cap l fv pv k d e a)(he:e≠0)(hsh:Za3 (l[k]'h.hk).2.data.toList=none)(hfu:((l[k]'h.hk).2.toList==[102,117,110])=true):
  Calls prog 98 #[.pointer (some ⟨rb,0,none⟩)] w fun r w'=>r=.returned (Zaq (l[k]'h.hk))∧Zaa (·=rb) w w'∧Rz w' rb tb cap l fv pv k d e a:=by
 have hlt:=h.lt
 have hl:=h.hl
 have hd:=h.hd
 have hne1:=Nat.ne_of_lt hlt.1
 have hne2:=Nat.ne_of_lt hlt.2
 have cn:=Zbf (h.alloc Zfx)
 have hk:=h.hk
 have cf:=Zc2 (l[k]'h.hk).2
 rw[hsh] at cf
 clear hsh
 have hcv:Zaq (l[k]'h.hk)=.agg #[.int .u8 (Zba (l[k]'h.hk).1.k),.string (l[k]'h.hk).2,.int .i64 (((l[k]'h.hk).1.at_:Nat):Int)]:=rfl
 have OVR:Aside (∀(X:World) (e a:Nat),Rz X rb tb cap l fv pv k d e a→e≠0→Calls prog 97 #[.pointer (some ⟨rb,0,none⟩),.int .u8 97,.string ⟨#[]⟩] X fun r w'=>r=.returned (Zaq (l[k]'h.hk))∧Zaa (·=rb) X w'∧Rz w' rb tb cap l fv pv k d e a):=fun X e a hz he=>Zb8 hz he 97 ⟨#[]⟩
 generalize Zba (l[k]'h.hk).1.k=c at *
 generalize (l[k]'h.hk).2=ts at *
 generalize (l[k]'h.hk).1.at_=p at *
 generalize Zaq (l[k]'h.hk)=tv at *
 subst hcv
 go_enter func98,ntmps98
 go_wp2_with (first
  |(go_at_call 56;refine cn.mono ?_;rintro r w1 ⟨rfl,hb1⟩;have z1:=((h.alloc Zfx).below hb1).alloc (Zc3 c ts p);have b1:=((Bx.new w).below hb1).below (Zab w1 (Zc3 c ts p));have g1:=Za9 w1 c ts p;obtain⟨v0,v1,v2,v3,v4,v5⟩:=b1.facts;obtain⟨q0,q1,q2⟩:=g1.facts;have z0:=hb1.size;simp at z0;have ne3:rb≠w1.heap.size:=(by omega);have ne4:w.heap.size≠w1.heap.size:=(by omega))
  |(go_at_call 148;refine (cf _).mono ?_;rintro r w9 ⟨rfl,rfl⟩;simp only[Zgg])
  |(go_at_call 147;refine (Ze2 z1 he _ _).mono ?_;rintro r w9 ⟨rfl,rfl⟩)
  |(go_at_call 97;refine (OVR.out _ _ _ z1 he).mono ?_;rintro r w4 ⟨rfl,ht4,z4⟩;have b4:=b1.touch ht4 (Ne.symm hne1);obtain⟨y0,y1,y2,y3,y4,y5⟩:=b4.facts;clear v0 v1 v2 v3 v4 v5 q0 q1 q2))
 have tall:=(Zaa.of_below (((Zab w _).trans (hb1.mono (by simp))).alloc (by omega) _)).trans ht4
 refine bodyPost_ret (v:=.agg #[.int .u8 c,.string ts,.int .i64 ((p:Nat):Int)]) (by simp[results,results98,go_sem,y0,y1,y2]) rfl ⟨rfl,?_⟩
 exact Zo6 hlt.1 hlt.2 (Nat.le_refl _) tall z4 _ _ _
theorem Zyp (h:Rz w rb tb cap l fv pv k d e a)(he:e≠0)(hsh:Za3 (l[k]'h.hk).2.data.toList=none)(hfu:((l[k]'h.hk).2.toList==[102,117,110])=false):
  Calls prog 98 #[.pointer (some ⟨rb,0,none⟩)] w fun r w'=>r=.returned (Zaq (l[k]'h.hk))∧Zaa (·=rb) w w'∧Rz w' rb tb cap l fv pv k d e a:=by
 have hlt:=h.lt
 have hl:=h.hl
 have hd:=h.hd
 have hne1:=Nat.ne_of_lt hlt.1
 have hne2:=Nat.ne_of_lt hlt.2
 have cn:=Zbf (h.alloc Zfx)
 have hk:=h.hk
 have cf:=Zc2 (l[k]'h.hk).2
 rw[hsh] at cf
 clear hsh
 have hcv:Zaq (l[k]'h.hk)=.agg #[.int .u8 (Zba (l[k]'h.hk).1.k),.string (l[k]'h.hk).2,.int .i64 (((l[k]'h.hk).1.at_:Nat):Int)]:=rfl
 have OVR:Aside (∀(X:World) (e a:Nat),Rz X rb tb cap l fv pv k d e a→e≠0→Calls prog 97 #[.pointer (some ⟨rb,0,none⟩),.int .u8 97,.string ⟨#[]⟩] X fun r w'=>r=.returned (Zaq (l[k]'h.hk))∧Zaa (·=rb) X w'∧Rz w' rb tb cap l fv pv k d e a):=fun X e a hz he=>Zb8 hz he 97 ⟨#[]⟩
 generalize Zba (l[k]'h.hk).1.k=c at *
 generalize (l[k]'h.hk).2=ts at *
 generalize (l[k]'h.hk).1.at_=p at *
 generalize Zaq (l[k]'h.hk)=tv at *
 subst hcv
 go_enter func98,ntmps98
 go_wp2_with (first
  |(go_at_call 56;refine cn.mono ?_;rintro r w1 ⟨rfl,hb1⟩;have z1:=((h.alloc Zfx).below hb1).alloc (Zc3 c ts p);have b1:=((Bx.new w).below hb1).below (Zab w1 (Zc3 c ts p));have g1:=Za9 w1 c ts p;obtain⟨v0,v1,v2,v3,v4,v5⟩:=b1.facts;obtain⟨q0,q1,q2⟩:=g1.facts;have z0:=hb1.size;simp at z0;have ne3:rb≠w1.heap.size:=(by omega);have ne4:w.heap.size≠w1.heap.size:=(by omega))
  |(go_at_call 148;refine (cf _).mono ?_;rintro r w9 ⟨rfl,rfl⟩;simp only[Zgg])
  |(go_at_call 97;refine (OVR.out _ _ _ z1 he).mono ?_;rintro r w4 ⟨rfl,ht4,z4⟩;have b4:=b1.touch ht4 (Ne.symm hne1);obtain⟨y0,y1,y2,y3,y4,y5⟩:=b4.facts;clear v0 v1 v2 v3 v4 v5 q0 q1 q2))
 have tall:=(Zaa.of_below (((Zab w _).trans (hb1.mono (by simp))).alloc (by omega) _)).trans ht4
 refine bodyPost_ret (v:=.agg #[.int .u8 c,.string ts,.int .i64 ((p:Nat):Int)]) (by simp[results,results98,go_sem,y0,y1,y2]) rfl ⟨rfl,?_⟩
 exact Zo6 hlt.1 hlt.2 (Nat.le_refl _) tall z4 _ _ _
theorem name_err (h:Rz w rb tb cap l fv pv k d e a)(he:e≠0):
  Calls prog 98 #[.pointer (some ⟨rb,0,none⟩)] w fun r w'=>r=.returned (Zaq (l[k]'h.hk))∧Zaa (·=rb) w w'∧Rz w' rb tb cap l fv pv k d e a:=by
 cases hs:Za3 (l[k]'h.hk).2.data.toList with
 | some x=>exact Zyr h he ⟨x,hs⟩
 | none =>
  cases hf:(l[k]'h.hk).2.toList==[102,117,110] with
  | true=>exact Zyq h he hs hf
  | false=>exact Zyp h he hs hf
theorem Zyo (h:Rz w rb tb cap l fv pv k d 0 a)(hsh:∃x,Za3 (l[k]'h.hk).2.data.toList=some x):
  Calls prog 98 #[.pointer (some ⟨rb,0,none⟩)] w fun r w'=>r=.returned (Zaq (l[k]'h.hk))∧Zaa (·=rb) w w'∧Rz w' rb tb cap l fv pv k d 2 (l[k]'h.hk).1.at_:=by
 have hlt:=h.lt
 have hl:=h.hl
 have hd:=h.hd
 have hne1:=Nat.ne_of_lt hlt.1
 have hne2:=Nat.ne_of_lt hlt.2
 have cn:=Zbf (h.alloc Zfx)
 have hk:=h.hk
 have cf:=Zc2 (l[k]'h.hk).2
 obtain⟨⟨sb,sn⟩,hsh⟩:=hsh
 rw[hsh] at cf
 clear hsh
 have hcv:Zaq (l[k]'h.hk)=.agg #[.int .u8 (Zba (l[k]'h.hk).1.k),.string (l[k]'h.hk).2,.int .i64 (((l[k]'h.hk).1.at_:Nat):Int)]:=rfl
 have OVR:Aside (∀(X:World) (e a:Nat),Rz X rb tb cap l fv pv k d e a→e≠0→Calls prog 97 #[.pointer (some ⟨rb,0,none⟩),.int .u8 97,.string ⟨#[]⟩] X fun r w'=>r=.returned (Zaq (l[k]'h.hk))∧Zaa (·=rb) X w'∧Rz w' rb tb cap l fv pv k d e a):=fun X e a hz he=>Zb8 hz he 97 ⟨#[]⟩
 generalize Zba (l[k]'h.hk).1.k=c at *
 generalize (l[k]'h.hk).2=ts at *
 generalize (l[k]'h.hk).1.at_=p at *
 generalize Zaq (l[k]'h.hk)=tv at *
 subst hcv
 go_enter func98,ntmps98
 go_wp2_with (first
  |(go_at_call 56;refine cn.mono ?_;rintro r w1 ⟨rfl,hb1⟩;have z1:=((h.alloc Zfx).below hb1).alloc (Zc3 c ts p);have b1:=((Bx.new w).below hb1).below (Zab w1 (Zc3 c ts p));have g1:=Za9 w1 c ts p;obtain⟨v0,v1,v2,v3,v4,v5⟩:=b1.facts;obtain⟨q0,q1,q2⟩:=g1.facts;have z0:=hb1.size;simp at z0;have ne3:rb≠w1.heap.size:=(by omega);have ne4:w.heap.size≠w1.heap.size:=(by omega))
  |(go_at_call 148;refine (cf _).mono ?_;rintro r w9 ⟨rfl,rfl⟩;simp only[Zgg])
  |(go_at_call 97;refine (OVR.out _ _ _ z2 (by decide)).mono ?_;rintro r w4 ⟨rfl,ht4,z4⟩;have b4:=b2.touch ht4 (Ne.symm hne1);obtain⟨y0,y1,y2,y3,y4,y5⟩:=b4.facts;clear x0 x1 x2 x3 x4 x5)
  |(go_at_call 147;refine (Zfb z1 p).mono ?_;rintro r w2 ⟨rfl,ht2,z2⟩;have b2:=b1.touch ht2 (Ne.symm hne1);obtain⟨x0,x1,x2,x3,x4,x5⟩:=b2.facts;clear v0 v1 v2 v3 v4 v5 q0 q1 q2))
 have tall:=((Zaa.of_below (((Zab w _).trans (hb1.mono (by simp))).alloc (by omega) _)).trans ht2).trans ht4
 refine bodyPost_ret (v:=.agg #[.int .u8 c,.string ts,.int .i64 ((p:Nat):Int)]) (by simp[results,results98,go_sem,y0,y1,y2]) rfl ⟨rfl,?_⟩
 exact Zo6 hlt.1 hlt.2 (Nat.le_refl _) tall z4 _ _ _
theorem Zyn (h:Rz w rb tb cap l fv pv k d 0 a)(hsh:Za3 (l[k]'h.hk).2.data.toList=none)(hfu:((l[k]'h.hk).2.toList==[102,117,110])=true):
  Calls prog 98 #[.pointer (some ⟨rb,0,none⟩)] w fun r w'=>r=.returned (Zaq (l[k]'h.hk))∧Zaa (·=rb) w w'∧Rz w' rb tb cap l fv pv k d 2 (l[k]'h.hk).1.at_:=by
 have hlt:=h.lt
 have hl:=h.hl
 have hd:=h.hd
 have hne1:=Nat.ne_of_lt hlt.1
 have hne2:=Nat.ne_of_lt hlt.2
 have cn:=Zbf (h.alloc Zfx)
 have hk:=h.hk
 have cf:=Zc2 (l[k]'h.hk).2
 rw[hsh] at cf
 clear hsh
 have hcv:Zaq (l[k]'h.hk)=.agg #[.int .u8 (Zba (l[k]'h.hk).1.k),.string (l[k]'h.hk).2,.int .i64 (((l[k]'h.hk).1.at_:Nat):Int)]:=rfl
 have OVR:Aside (∀(X:World) (e a:Nat),Rz X rb tb cap l fv pv k d e a→e≠0→Calls prog 97 #[.pointer (some ⟨rb,0,none⟩),.int .u8 97,.string ⟨#[]⟩] X fun r w'=>r=.returned (Zaq (l[k]'h.hk))∧Zaa (·=rb) X w'∧Rz w' rb tb cap l fv pv k d e a):=fun X e a hz he=>Zb8 hz he 97 ⟨#[]⟩
 generalize Zba (l[k]'h.hk).1.k=c at *
 generalize (l[k]'h.hk).2=ts at *
 generalize (l[k]'h.hk).1.at_=p at *
 generalize Zaq (l[k]'h.hk)=tv at *
 subst hcv
 go_enter func98,ntmps98
 go_wp2_with (first
  |(go_at_call 56;refine cn.mono ?_;rintro r w1 ⟨rfl,hb1⟩;have z1:=((h.alloc Zfx).below hb1).alloc (Zc3 c ts p);have b1:=((Bx.new w).below hb1).below (Zab w1 (Zc3 c ts p));have g1:=Za9 w1 c ts p;obtain⟨v0,v1,v2,v3,v4,v5⟩:=b1.facts;obtain⟨q0,q1,q2⟩:=g1.facts;have z0:=hb1.size;simp at z0;have ne3:rb≠w1.heap.size:=(by omega);have ne4:w.heap.size≠w1.heap.size:=(by omega))
  |(go_at_call 148;refine (cf _).mono ?_;rintro r w9 ⟨rfl,rfl⟩;simp only[Zgg])
  |(go_at_call 97;refine (OVR.out _ _ _ z2 (by decide)).mono ?_;rintro r w4 ⟨rfl,ht4,z4⟩;have b4:=b2.touch ht4 (Ne.symm hne1);obtain⟨y0,y1,y2,y3,y4,y5⟩:=b4.facts;clear x0 x1 x2 x3 x4 x5)
  |(go_at_call 147;refine (Zfb z1 p).mono ?_;rintro r w2 ⟨rfl,ht2,z2⟩;have b2:=b1.touch ht2 (Ne.symm hne1);obtain⟨x0,x1,x2,x3,x4,x5⟩:=b2.facts;clear v0 v1 v2 v3 v4 v5 q0 q1 q2))
 have tall:=((Zaa.of_below (((Zab w _).trans (hb1.mono (by simp))).alloc (by omega) _)).trans ht2).trans ht4
 refine bodyPost_ret (v:=.agg #[.int .u8 c,.string ts,.int .i64 ((p:Nat):Int)]) (by simp[results,results98,go_sem,y0,y1,y2]) rfl ⟨rfl,?_⟩
 exact Zo6 hlt.1 hlt.2 (Nat.le_refl _) tall z4 _ _ _
theorem Z1y (h:Rz w rb tb cap l fv pv k d 0 a)(hsh:Za3 (l[k]'h.hk).2.data.toList=none)(hfu:((l[k]'h.hk).2.toList==[102,117,110])=false)(hkw:Zba (l[k]'h.hk).1.k≠97):
  Calls prog 98 #[.pointer (some ⟨rb,0,none⟩)] w fun r w'=>r=.returned (Zaq (l[k]'h.hk))∧Zaa (·=rb) w w'∧Rz w' rb tb cap l fv pv k d 2 (l[k]'h.hk).1.at_:=by
 have hlt:=h.lt
 have hl:=h.hl
 have hd:=h.hd
 have hne1:=Nat.ne_of_lt hlt.1
 have hne2:=Nat.ne_of_lt hlt.2
 have cn:=Zbf (h.alloc Zfx)
 have hk:=h.hk
 have cf:=Zc2 (l[k]'h.hk).2
 rw[hsh] at cf
 clear hsh
 have hcv:Zaq (l[k]'h.hk)=.agg #[.int .u8 (Zba (l[k]'h.hk).1.k),.string (l[k]'h.hk).2,.int .i64 (((l[k]'h.hk).1.at_:Nat):Int)]:=rfl
 have OVR:Aside (∀(X:World) (e a:Nat),Rz X rb tb cap l fv pv k d e a→e≠0→Calls prog 97 #[.pointer (some ⟨rb,0,none⟩),.int .u8 97,.string ⟨#[]⟩] X fun r w'=>r=.returned (Zaq (l[k]'h.hk))∧Zaa (·=rb) X w'∧Rz w' rb tb cap l fv pv k d e a):=fun X e a hz he=>Zb8 hz he 97 ⟨#[]⟩
 have OVK:Aside (∀(X:World),Rz X rb tb cap l fv pv k d 0 a→Calls prog 97 #[.pointer (some ⟨rb,0,none⟩),.int .u8 97,.string ⟨#[]⟩] X fun r w'=>r=.returned (Zaq (l[k]'h.hk))∧Zaa (·=rb) X w'∧Rz w' rb tb cap l fv pv k d 2 (l[k]'h.hk).1.at_):=fun X hz=>Zge hz 97 ⟨#[]⟩ hkw
 clear hkw
 generalize Zba (l[k]'h.hk).1.k=c at *
 generalize (l[k]'h.hk).2=ts at *
 generalize (l[k]'h.hk).1.at_=p at *
 generalize Zaq (l[k]'h.hk)=tv at *
 subst hcv
 go_enter func98,ntmps98
 go_wp2_with (first
  |(go_at_call 56;refine cn.mono ?_;rintro r w1 ⟨rfl,hb1⟩;have z1:=((h.alloc Zfx).below hb1).alloc (Zc3 c ts p);have b1:=((Bx.new w).below hb1).below (Zab w1 (Zc3 c ts p));have g1:=Za9 w1 c ts p;obtain⟨v0,v1,v2,v3,v4,v5⟩:=b1.facts;obtain⟨q0,q1,q2⟩:=g1.facts;have z0:=hb1.size;simp at z0;have ne3:rb≠w1.heap.size:=(by omega);have ne4:w.heap.size≠w1.heap.size:=(by omega))
  |(go_at_call 148;refine (cf _).mono ?_;rintro r w9 ⟨rfl,rfl⟩;simp only[Zgg])
  |(go_at_call 97;refine (OVK.out _ z1).mono ?_;rintro r w4 ⟨rfl,ht4,z4⟩;have b4:=b1.touch ht4 (Ne.symm hne1);obtain⟨y0,y1,y2,y3,y4,y5⟩:=b4.facts;clear v0 v1 v2 v3 v4 v5 q0 q1 q2))
 have tall:=(Zaa.of_below (((Zab w _).trans (hb1.mono (by simp))).alloc (by omega) _)).trans ht4
 refine bodyPost_ret (v:=.agg #[.int .u8 c,.string ts,.int .i64 ((p:Nat):Int)]) (by simp[results,results98,go_sem,y0,y1,y2]) rfl ⟨rfl,?_⟩
 exact Zo6 hlt.1 hlt.2 (Nat.le_refl _) tall z4 _ _ _
theorem Z1v (h:Rz w rb tb cap l fv pv k d 0 a)(hsh:Za3 (l[k]'h.hk).2.data.toList=none)(hfu:((l[k]'h.hk).2.toList==[102,117,110])=false)(hkw:Zba (l[k]'h.hk).1.k=97)(hn:k+1<l.length):
  Calls prog 98 #[.pointer (some ⟨rb,0,none⟩)] w fun r w'=>r=.returned (Zaq (l[k]'h.hk))∧Zaa (·=rb) w w'∧Rz w' rb tb cap l fv pv (k+1) d 0 a:=by
 have hlt:=h.lt
 have hl:=h.hl
 have hd:=h.hd
 have hne1:=Nat.ne_of_lt hlt.1
 have hne2:=Nat.ne_of_lt hlt.2
 have cn:=Zbf (h.alloc Zfx)
 have hk:=h.hk
 have cf:=Zc2 (l[k]'h.hk).2
 rw[hsh] at cf
 clear hsh
 have hcv:Zaq (l[k]'h.hk)=.agg #[.int .u8 (Zba (l[k]'h.hk).1.k),.string (l[k]'h.hk).2,.int .i64 (((l[k]'h.hk).1.at_:Nat):Int)]:=rfl
 have OVR:Aside (∀(X:World) (e a:Nat),Rz X rb tb cap l fv pv k d e a→e≠0→Calls prog 97 #[.pointer (some ⟨rb,0,none⟩),.int .u8 97,.string ⟨#[]⟩] X fun r w'=>r=.returned (Zaq (l[k]'h.hk))∧Zaa (·=rb) X w'∧Rz w' rb tb cap l fv pv k d e a):=fun X e a hz he=>Zb8 hz he 97 ⟨#[]⟩
 have OVK:Aside (∀(X:World),Rz X rb tb cap l fv pv k d 0 a→Calls prog 97 #[.pointer (some ⟨rb,0,none⟩),.int .u8 97,.string ⟨#[]⟩] X fun r w'=>r=.returned (Zaq (l[k]'h.hk))∧Zaa (·=rb) X w'∧Rz w' rb tb cap l fv pv (k+1) d 0 a):=fun X hz=>Zjw hz hkw hn
 clear hkw
 generalize Zba (l[k]'h.hk).1.k=c at *
 generalize (l[k]'h.hk).2=ts at *
 generalize (l[k]'h.hk).1.at_=p at *
 generalize Zaq (l[k]'h.hk)=tv at *
 subst hcv
 go_enter func98,ntmps98
 go_wp2_with (first
  |(go_at_call 56;refine cn.mono ?_;rintro r w1 ⟨rfl,hb1⟩;have z1:=((h.alloc Zfx).below hb1).alloc (Zc3 c ts p);have b1:=((Bx.new w).below hb1).below (Zab w1 (Zc3 c ts p));have g1:=Za9 w1 c ts p;obtain⟨v0,v1,v2,v3,v4,v5⟩:=b1.facts;obtain⟨q0,q1,q2⟩:=g1.facts;have z0:=hb1.size;simp at z0;have ne3:rb≠w1.heap.size:=(by omega);have ne4:w.heap.size≠w1.heap.size:=(by omega))
  |(go_at_call 148;refine (cf _).mono ?_;rintro r w9 ⟨rfl,rfl⟩;simp only[Zgg])
  |(go_at_call 97;refine (OVK.out _ z1).mono ?_;rintro r w4 ⟨rfl,ht4,z4⟩;have b4:=b1.touch ht4 (Ne.symm hne1);obtain⟨y0,y1,y2,y3,y4,y5⟩:=b4.facts;clear v0 v1 v2 v3 v4 v5 q0 q1 q2))
 have tall:=(Zaa.of_below (((Zab w _).trans (hb1.mono (by simp))).alloc (by omega) _)).trans ht4
 refine bodyPost_ret (v:=.agg #[.int .u8 c,.string ts,.int .i64 ((p:Nat):Int)]) (by simp[results,results98,go_sem,y0,y1,y2]) rfl ⟨rfl,?_⟩
 exact Zo6 hlt.1 hlt.2 (Nat.le_refl _) tall z4 _ _ _
theorem Zqw {b:ByteArray}(h:Zci b.data.toList=false):Za3 b.data.toList=none∧(b.toList==[102,117,110])=false:=by
 simp only[Zci,Bool.or_eq_false_iff] at h
 refine⟨by simpa using h.1,?_⟩
 rw[ByteArray.toList_eq];exact h.2
theorem Zqu (h:Rz w rb tb cap l fv pv k d 0 a)(htx:Zdu l)(hn:Zbg (l[k]'h.hk).1=true)(hk1:k+1<l.length):
  Calls prog 98 #[.pointer (some ⟨rb,0,none⟩)] w fun r w'=>r=.returned (Zaq (l[k]'h.hk))∧Zaa (·=rb) w w'∧Rz w' rb tb cap l fv pv (k+1) d 0 a:=by
 have hb:=htx _ (List.getElem_mem h.hk)
 simp only[Zbg,Bool.and_eq_true,decide_eq_true_eq,Bool.not_eq_true'] at hn
 rw[←hb] at hn
 obtain⟨h1,h2⟩:=Zqw hn.2
 exact Z1v h h1 h2 (by rw[hn.1];rfl) hk1
theorem Zqv (h:Rz w rb tb cap l fv pv k d 0 a)(htx:Zdu l)(hn:Zbg (l[k]'h.hk).1=false):
  Calls prog 98 #[.pointer (some ⟨rb,0,none⟩)] w fun r w'=>r=.returned (Zaq (l[k]'h.hk))∧Zaa (·=rb) w w'∧Rz w' rb tb cap l fv pv k d 2 (l[k]'h.hk).1.at_:=by
 have hb:=htx _ (List.getElem_mem h.hk)
 cases hs:Za3 (l[k]'h.hk).2.data.toList with
 | some x=>exact Zyo h ⟨x,hs⟩
 | none =>
  cases hf:(l[k]'h.hk).2.toList==[102,117,110] with
  | true=>exact Zyn h hs hf
  | false =>
   refine Z1y h hs hf fun hc=>?_
   rw[Zpf] at hc
   have hr:Zci (l[k]'h.hk).1.body=false:=by
    rw[←hb,Zci,hs]
    rw[ByteArray.toList_eq] at hf
    rw[hf];rfl
   simp[Zbg,hc,hr] at hn
end
theorem dig_bd {ds:List UInt8}(hd:∀c∈ds,Zav c=true)(hl:ds.length≤9)(k:Nat):0≤Zam (ds.take k)∧Zam (ds.take k)<1000000000 :=
 Zw3 (fun c hc=>hd c (List.mem_of_mem_take hc)) (by rw[List.length_take];omega)
theorem Zpg (l:List UInt8)(k:Nat)(h:k<l.length):Zam (l.take (k+1))=10*Zam (l.take k)+((l[k].toNat:Int)-48):=by
 rw[List.take_succ_eq_append_getElem h]
 unfold Zam
 rw[List.foldl_append]
 rfl
theorem Zta (s:ByteArray)(w:World)(h0:0<s.size)(h9:s.size≤9)(hd:∀k (h:k<s.size),Zav s[k]=true)(hd2:∀c∈s.data.toList,Zav c=true):
  Calls prog 149 #[.string s] w fun e w'=>e=.returned (.int .i64 (Zam s.data.toList))∧w'=w:=by
 have HB:Aside (∀k,0≤Zam (s.data.toList.take k)∧Zam (s.data.toList.take k)<1000000000):=fun k=>dig_bd hd2 (by simpa using h9) k
 have HD:Aside (∀k (h:k<s.size),Zav s[k]=true):=hd
 have hs0:=hd 0 h0
 simp[Zav,UInt8.le_iff_toNat_le] at hs0
 have hm0:(((s[0].toNat:Nat):Int)==45)=false:=by rw[beq_eq_false_iff_ne];omega
 clear hd hd2 hs0
 go_enter func149,ntmps149
 go_wp2
 go_loop [3,4] (fun n i=>∃k:Nat,n=.int .i64 (Zam (s.data.toList.take k))∧i=.int .i64 k∧k≤s.size) (fun _ i=>s.size-(intOf i).toNat)
 case atStart=>exact⟨0,rfl,rfl,by omega⟩
 case round =>
  obtain⟨k,rfl,rfl,hk⟩:=hrel
  by_cases hlt:k<s.size
  ·have hl:k<s.data.toList.length:=by simpa using hlt
   have hsn:=Zpg s.data.toList k hl
   have hel:s.data.toList[k]'hl=s[k]:=rfl
   rw[hel] at hsn
   have hdk:=HD.out k hlt
   simp[Zav,UInt8.le_iff_toNat_le] at hdk
   have hb1:(48:Int)≤(s[k].toNat:Int):=by omega
   have hb2:(s[k].toNat:Int)≤57:=by omega
   have hne:(((s[k].toNat:Nat):Int) != 45)=true:=by rw[bne_iff_ne];omega
   have HS:Aside (Zam (s.data.toList.take (k+1))=10*Zam (s.data.toList.take k)+((s[k].toNat:Int)-48)):=hsn
   obtain⟨hg1,hg2⟩:=HB.out k
   clear hsn hel hdk
   generalize Zam (s.data.toList.take k)=Z at *
   go_wp2
   go_round
   case rel=>exact⟨k+1,by rw[HS.out],by go_num,by omega⟩
   case measure=>simp[intOf];omega
  ·have hT:s.data.toList.take k=s.data.toList:=List.take_of_length_le (by simp;omega)
   go_wp2
   go_ret
   exact⟨rfl,rfl⟩
theorem Ztb (s:ByteArray)(w:World)(h0:0<s.size)(h9:s.size≤10)(hm0:(((s[0].toNat:Nat):Int)==45)=true)(T:List UInt8)(hTl:T.length+1=s.size)(hTe:∀k (h1:k<T.length) (h2:k+1<s.size),T[k]=s[k+1])(hd2:∀c∈T,Zav c=true):
  Calls prog 149 #[.string s] w fun e w'=>e=.returned (.int .i64 (-Zam T))∧w'=w:=by
 have HB:Aside (∀k,0≤Zam (T.take k)∧Zam (T.take k)<1000000000):=fun k=>dig_bd hd2 (by omega) k
 have HTL:Aside (T.length+1=s.size):=hTl
 have HTE:Aside (∀k (h1:k<T.length) (h2:k+1<s.size),T[k]=s[k+1]):=hTe
 have HD:Aside (∀c∈T,Zav c=true):=hd2
 clear hTl hTe hd2
 go_enter func149,ntmps149
 go_wp2
 go_loop [3,4] (fun n i=>∃k:Nat,n=.int .i64 (Zam (T.take (k-1)))∧i=.int .i64 k∧k≤s.size) (fun _ i=>s.size-(intOf i).toNat)
 case atStart=>exact⟨0,rfl,rfl,by omega⟩
 case round =>
  obtain⟨k,rfl,rfl,hk⟩:=hrel
  by_cases hlt:k<s.size
  ·cases k with
   | zero =>
    have hmn:(((s[0].toNat:Nat):Int) != 45)=false:=by rw[bne,hm0];rfl
    go_wp2
    go_round
    case rel=>exact⟨1,rfl,rfl,by omega⟩
    case measure=>simp[intOf];omega
   | succ k =>
    have hl:k<T.length:=by have:=HTL.out;omega
    have hsn:=Zpg T k hl
    have hel:=HTE.out k hl hlt
    have hdk:=HD.out T[k] (List.getElem_mem _)
    rw[hel] at hsn hdk
    simp[Zav,UInt8.le_iff_toNat_le] at hdk
    have hb1:(48:Int)≤(s[k+1].toNat:Int):=by omega
    have hb2:(s[k+1].toNat:Int)≤57:=by omega
    have hne:(((s[k+1].toNat:Nat):Int) != 45)=true:=by rw[bne_iff_ne];omega
    have HS:Aside (Zam (T.take (k+1))=10*Zam (T.take k)+((s[k+1].toNat:Int)-48)):=hsn
    obtain⟨hg1,hg2⟩:=HB.out k
    clear hsn hel hdk
    rw[show k+1-1=k by omega]
    generalize Zam (T.take k)=Z at *
    go_wp2
    go_round
    case rel=>exact⟨k+1+1,by rw[show k+1+1-1=k+1 by omega,HS.out],by go_num,by omega⟩
    case measure=>simp[intOf];omega
  ·have hT:T.take (k-1)=T:=List.take_of_length_le (by have:=HTL.out;omega)
   have hB:=HB.out T.length
   rw[List.take_length] at hB
   obtain⟨hg1,hg2⟩:=hB
   go_wp2
   go_ret
   exact⟨rfl,rfl⟩
theorem Zyh (s:ByteArray)(w:World)(h:NumT s.data.toList):
  Calls prog 149 #[.string s] w fun e w'=>e=.returned (.int .i64 (Zbb s.data.toList))∧w'=w:=by
 obtain⟨ds,hb,h1,h9,hd⟩:=h
 have hsz:s.data.toList.length=s.size:=by simp
 rcases hb with hb | hb
 ·have hst:Zad 45 s.data.toList=false:=by
   rw[hb]
   cases ds with
   | nil=>simp at h1
   | cons c r =>
    have hc:=hd c (by simp)
    cases hs:Zad 45 (c::r) with
    | false=>rfl
    | true =>
     simp[Zad] at hs
     rw[hs] at hc
     exact absurd hc (by decide)
  have hv:Zbb s.data.toList=Zam s.data.toList:=by unfold Zbb;rw[hst];simp
  rw[hv]
  have hl:=congrArg List.length hb
  exact Zta s w (by omega) (by omega) (fun k hk=>hd _ (by rw[←hb];exact List.getElem_mem (show k<s.data.toList.length by omega))) (by rw[hb];exact hd)
 ·have hl:=congrArg List.length hb
  rw[List.length_cons] at hl
  have hv:Zbb s.data.toList=-Zam ds:=by
   rw[hb]
   unfold Zbb
   simp[Zad]
  rw[hv]
  refine Ztb s w (by omega) (by omega) ?_ ds (by omega) (fun k h1 h2=>?_) hd
  ·have:s.data.toList[0]'(by omega)=45:=by simp[hb]
   have e:s[0]'(by omega)=45:=this
   rw[e]
   rfl
  ·have:s.data.toList[k+1]'(by omega)=ds[k]:=by simp[hb]
   exact this.symm
structure Zaw where
 op:ByteArray
 n:Int
 s:ByteArray
 at_:Nat
 kv:Value
def Zaw.zero:Zaw:=⟨⟨#[]⟩,0,⟨#[]⟩,0,.slice none 0 0⟩
def Zbw:List Zaw→List Value
 | []=>[]
 | p::r=>.string p.op::.int .i64 p.n::.string p.s::.int .i64 ((p.at_:Nat):Int)::p.kv::Zbw r
theorem Zo0 (l:List Zaw)(p:Zaw):Zbw (l++[p])=Zbw l++[.string p.op,.int .i64 p.n,.string p.s,.int .i64 ((p.at_:Nat):Int),p.kv]:=by
 induction l with
 | nil=>rfl
 | cons y l ih=>simp[Zbw,ih]
theorem partCells_len (l:List Zaw):(Zbw l).length=l.length*5:=by
 induction l with
 | nil=>rfl
 | cons y l ih=>simp[Zbw,ih];omega
theorem Zhm:∀(l:List Zaw) (j:Nat) (p:Zaw),l[j]?=some p→(Zbw l)[j*5]?=some (.string p.op)∧(Zbw l)[j*5+1]?=some (.int .i64 p.n)∧(Zbw l)[j*5+2]?=some (.string p.s)∧(Zbw l)[j*5+3]?=some (.int .i64 ((p.at_:Nat):Int))∧(Zbw l)[j*5+4]?=some p.kv
 | [],j,p,hj=>by simp at hj
 | x::r,0,p,hj=>by simp at hj;subst hj;exact⟨rfl,rfl,rfl,rfl,rfl⟩
 | x::r,j+1,p,hj=>by
  have:=Zhm r j p (by simpa using hj)
  rw[show (j+1)*5=j*5+1+1+1+1+1 by omega]
  simpa[Zbw] using this
theorem Zju:∀(l:List Zaw) (j:Nat) (p:Zaw),j<l.length→(((((Zbw l).set (j*5) (.string p.op)).set (j*5+1) (.int .i64 p.n)).set (j*5+2) (.string p.s)).set (j*5+3) (.int .i64 ((p.at_:Nat):Int))).set (j*5+4) p.kv=Zbw (l.set j p)
 | [],j,p,hj=>by simp at hj
 | x::r,0,p,hj=>rfl
 | x::r,j+1,p,hj=>by
  have:=Zju r j p (by simpa using hj)
  rw[show (j+1)*5=j*5+1+1+1+1+1 by omega]
  simp only[Zbw,List.set_cons_succ,←this]
theorem Tryz.infoPart:(prog.info? 322).map (fun i=>(i.zero,i.size,i.bytes))=some (some (.agg #[.string ⟨#[]⟩,.int .i64 0,.string ⟨#[]⟩,.int .i64 0,.slice none 0 0]),5,72):=by kernel_rfl
theorem Tryz.infoIntR:(prog.info? 3).map (fun i=>(i.zero,i.size,i.bytes))=some (some (.int .i64 0),1,8):=by kernel_rfl
structure Rp (w:World)(base rb tb cap:Nat)(l:List (Tok×ByteArray))(fv pv:Value)(k d e a:Nat)(ps:List Zaw):Prop where
 z:Rz w rb tb cap l fv pv k d e a
 own:w.ownsRow base 322 5 pv ps.length (Zbw ps)
 nr:some rb≠pv.ownBlock
 nt:some tb≠pv.ownBlock
 hb:base≤w.heap.size
section
variable {w:World} {base rb tb cap:Nat} {l:List (Tok×ByteArray)} {fv pv:Value} {k d e a:Nat} {ps:List Zaw}
theorem Rp.below {w':World}(h:Rp w base rb tb cap l fv pv k d e a ps)(hb:Below w.heap.size w w'):Rp w' base rb tb cap l fv pv k d e a ps :=
 ⟨h.z.below hb,Zay h.own fun g hg=>hb.block g (h.own.lt g hg).2,h.nr,h.nt,Nat.le_trans h.hb hb.size⟩
theorem Rp.alloc (h:Rp w base rb tb cap l fv pv k d e a ps)(o:Obj):Rp (w.alloc o) base rb tb cap l fv pv k d e a ps:=h.below (Zab w o)
theorem Rp.drew (h:Rp w base rb tb cap l fv pv k d e a ps):Rp w.drew base rb tb cap l fv pv k d e a ps:=⟨h.z.keep rfl rfl,h.own.drew,h.nr,h.nt,h.hb⟩
theorem Rp.touch {w':World}{k' d' e' a':Nat}(h:Rp w base rb tb cap l fv pv k d e a ps)(ht:Zaa (·=rb) w w')(hz:Rz w' rb tb cap l fv pv k' d' e' a'):Rp w' base rb tb cap l fv pv k' d' e' a' ps :=
 ⟨hz,Zay h.own fun g hg=>ht.block g (h.own.lt g hg).2 fun e=>h.nr (by rw[hg,e]),h.nr,h.nt,Nat.le_trans h.hb ht.size⟩
theorem Rp.other (h:Rp w base rb tb cap l fv pv k d e a ps){B:Nat}(h1:rb≠B)(h2:tb≠B)(h3:some B≠pv.ownBlock)(j:Nat)(v:Value):Rp (w.setCell ⟨B,j,none⟩ v) base rb tb cap l fv pv k d e a ps :=
 ⟨h.z.set_other h1 h2 j v,Zay h.own fun g hg=>Below.heap_setCell w ⟨B,j,none⟩ v g fun e=>h3 (by rw[hg,e]),h.nr,h.nt,by simpa[World.setCell] using h.hb⟩
theorem Rp.lt (h:Rp w base rb tb cap l fv pv k d e a ps):rb<w.heap.size∧tb<w.heap.size∧∀g,pv.ownBlock=some g→base≤g∧g<w.heap.size:=⟨h.z.lt.1,h.z.lt.2,h.own.lt⟩
end
mutual
def Ze0 (w:World)(D:Nat→Prop)(ps:List Zaw)(lo:Nat):Ex→Nat→Prop
 | .num b,i=>lo≤i∧∃p,ps[i]?=some p∧p.op.data.toList=[49]∧p.n=Zbb b∧p.kv=.slice none 0 0
 | .txt b,i=>lo≤i∧∃p,ps[i]?=some p∧p.op.data.toList=[39]∧p.s.data.toList=b∧p.kv=.slice none 0 0
 | .var n a,i=>lo≤i∧∃p,ps[i]?=some p∧p.op.data.toList=[97]∧p.s.data.toList=n∧p.at_=a∧p.kv=.slice none 0 0
 | .form wd n a ks,i=>lo≤i∧∃p js,ps[i]?=some p∧p.op.data.toList=wd∧p.s.data.toList=n∧p.at_=a∧Zao w D 3 1 p.kv js.length (js.map fun j:Nat=>Value.int .i64 (j:Int))∧Zby w D ps lo ks js
def Zby (w:World)(D:Nat→Prop)(ps:List Zaw)(lo:Nat):List Ex→List Nat→Prop
 | [],js=>js=[]
 | e::es,js=>∃j r,js=j::r∧Ze0 w D ps lo e j∧Zby w D ps lo es r
end
mutual
theorem Ze0.map {w w':World}{D D':Nat→Prop}{ps ps':List Zaw}{lo lo':Nat}(hp:∀i p,lo≤i→ps[i]?=some p→ps'[i]?=some p)(hlo:lo'≤lo)(hR:∀sl n vs,Zao w D 3 1 sl n vs→Zao w' D' 3 1 sl n vs):∀{e:Ex} {i:Nat},Ze0 w D ps lo e i→Ze0 w' D' ps' lo' e i
 | .num b,i,h=>by rw[Ze0] at h ⊢;obtain⟨h1,p,h2,h3⟩:=h;exact⟨Nat.le_trans hlo h1,p,hp i p h1 h2,h3⟩
 | .txt b,i,h=>by rw[Ze0] at h ⊢;obtain⟨h1,p,h2,h3⟩:=h;exact⟨Nat.le_trans hlo h1,p,hp i p h1 h2,h3⟩
 | .var n a,i,h=>by rw[Ze0] at h ⊢;obtain⟨h1,p,h2,h3⟩:=h;exact⟨Nat.le_trans hlo h1,p,hp i p h1 h2,h3⟩
 | .form wd n a ks,i,h=>by
  rw[Ze0] at h ⊢
  obtain⟨h1,p,js,h2,h3,h4,h5,h6,h7⟩:=h
  exact⟨Nat.le_trans hlo h1,p,js,hp i p h1 h2,h3,h4,h5,hR _ _ _ h6,Zby.map hp hlo hR h7⟩
theorem Zby.map {w w':World}{D D':Nat→Prop}{ps ps':List Zaw}{lo lo':Nat}(hp:∀i p,lo≤i→ps[i]?=some p→ps'[i]?=some p)(hlo:lo'≤lo)(hR:∀sl n vs,Zao w D 3 1 sl n vs→Zao w' D' 3 1 sl n vs):∀{es:List Ex} {js:List Nat},Zby w D ps lo es js→Zby w' D' ps' lo' es js
 | [],js,h=>by rw[Zby] at h ⊢;exact h
 | e::es,js,h=>by
  rw[Zby] at h ⊢
  obtain⟨j,r,h1,h2,h3⟩:=h
  exact⟨j,r,h1,Ze0.map hp hlo hR h2,Zby.map hp hlo hR h3⟩
end
theorem Zby.snoc {w:World}{D:Nat→Prop}{ps:List Zaw}{lo:Nat}{e:Ex}{j:Nat}(he:Ze0 w D ps lo e j):∀{es:List Ex} {js:List Nat},Zby w D ps lo es js→Zby w D ps lo (es++[e]) (js++[j])
 | [],js,h=>by
  rw[Zby] at h
  subst h
  rw[List.nil_append,List.nil_append,Zby]
  exact⟨j,[],rfl,he,by rw[Zby]⟩
 | x::es,js,h=>by
  rw[Zby] at h
  obtain⟨i,r,rfl,h2,h3⟩:=h
  rw[List.cons_append,List.cons_append,Zby]
  exact⟨i,r++[j],rfl,h2,Zby.snoc he h3⟩
theorem Zby.length {w:World}{D:Nat→Prop}{ps:List Zaw}{lo:Nat}:∀{es:List Ex} {js:List Nat},Zby w D ps lo es js→js.length=es.length
 | [],js,h=>by rw[Zby] at h;rw[h];rfl
 | e::es,js,h=>by
  rw[Zby] at h
  obtain⟨j,r,rfl,_,h3⟩:=h
  simp[Zby.length h3]
def Zan (l:List (Tok×ByteArray))(k:Nat):List Tok:=(l.drop k).map (·.1)
theorem Zbk {l:List (Tok×ByteArray)}{k:Nat}(h:k<l.length):Zan l k=l[k].1::Zan l (k+1):=by
 unfold Zan
 rw[List.drop_eq_getElem_cons h,List.map_cons]
theorem Zbv (l:List (Tok×ByteArray))(k:Nat):(Zan l k).length=l.length-k:=by simp[Zan]
def Zea (w:World)(pv pv':Value):Prop:=pv'.ownBlock=pv.ownBlock∨∃g,pv'.ownBlock=some g∧w.heap.size≤g
structure Zfr (l:List (Tok×ByteArray)):Prop where
 tx:Zdu l
 more:∀j (hj:j<l.length),l[j].1.k≠.eof→l[j].1.k≠.bad→j+1<l.length
 num:∀j (hj:j<l.length),l[j].1.k=.num→NumT l[j].2.data.toList
 txt:∀j (hj:j<l.length),l[j].1.k=.txt→2≤l[j].2.size
 sz:∀j (hj:j<l.length),l[j].2.size≤2000
 noshape:∀j (hj:j<l.length),l[j].1.k≠.word→Za3 l[j].2.data.toList=none
def Zg7 (r:Res Ex)(base rb tb cap:Nat)(l:List (Tok×ByteArray))(fv pv:Value)(k d a:Nat)(ps:List Zaw)(w:World)(e:Ending)(w':World):Prop :=
 Zaa (fun g=>g=rb∨some g=pv.ownBlock) w w'∧e=.returned (.int .i64 ((ps.length:Nat):Int)) ∧
 match r with
 | .err c p=>∃k' d' pv' ps',Rp w' base rb tb cap l fv pv' k' d' c p ps'∧ps.length<ps'.length∧Zea w pv pv'∧c≠0
 | .ok ex rest=>∃k' pv' ps',Rp w' base rb tb cap l fv pv' k' d 0 a ps'∧Zan l k'=rest∧ps <+: ps'∧ps.length<ps'.length∧Zea w pv pv'∧Ze0 w' (fun g=>w.heap.size≤g∧some g≠pv'.ownBlock) ps' ps.length ex ps.length∧ps'.length+(l.length-k')≤ps.length+(l.length-k)
abbrev Zid (p:Zaw):Value:=.agg #[.string p.op,.int .i64 p.n,.string p.s,.int .i64 ((p.at_:Nat):Int),p.kv]
def Zmd (r:Res Ex)(base rb tb cap:Nat)(l:List (Tok×ByteArray))(fv pv:Value)(k d a:Nat)(ps:List Zaw)(w:World)(e:Ending)(w':World):Prop :=
 Zaa (fun g=>g=rb∨some g=pv.ownBlock) w w' ∧
 match r with
 | .err c q=>∃k' d' pv' ps' p ad n cp,e=.returned (Zid p)∧p.kv=.slice ad n cp∧Rp w' base rb tb cap l fv pv' k' d' c q ps'∧ps.length≤ps'.length∧Zea w pv pv'∧c≠0
 | .ok ex rest=>∃k' pv' ps' p ad n cp wd nm at_ ks js,e=.returned (Zid p)∧p.kv=.slice ad n cp∧Rp w' base rb tb cap l fv pv' k' d 0 a ps'∧Zan l k'=rest∧ps <+: ps'∧Zea w pv pv'∧ex=.form wd nm at_ ks∧p.op.data.toList=wd∧p.s.data.toList=nm∧p.at_=at_∧Zao w' (fun g=>w.heap.size≤g∧some g≠pv'.ownBlock) 3 1 p.kv js.length (js.map fun j:Nat=>Value.int .i64 (j:Int))∧Zby w' (fun g=>w.heap.size≤g∧some g≠pv'.ownBlock) ps' ps.length ks js∧ps'.length+(l.length-k')+1≤ps.length+(l.length-k)
end Go.Proofs.YtliapghpeoaonaaGreatDoor
