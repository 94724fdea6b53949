/-
  checkExpr at forms whose exprs are gone through one after the other.
-/
import Derived.Test.YtliapghpeoaonaaGreatDoorNamA
set_option maxHeartbeats 2000000
set_option maxRecDepth 100000
namespace Go.Proofs.YtliapghpeoaonaaGreatDoor
open Go.Proofs.Tryz
open Go.RowKit
attribute [local go_sem ↓] Go.wp_at_zero Go.wp_at_succ
attribute [local go_sem] Zdq Zfi Zko Zev Zi2 Zhg Zfh Zkn Zi0 Zkm Zeu Zne Zlj Znd Zhf Zf2 Zsq Zpm Zsp Zkr Zqm Zfg Zkl Znc Zpj Ziz Znb Zkk Zd3 Zgs Zin Zjn Zf3 Zhh Zjm Zew Zfj Zkp Zng Zpl Zi1 Znf Zpk Zgr Zkq Zfz Zjk Zim Zjj Zil Zli Zji Zg4 Zjl Zg3 Zm9 Zlh Zm8 Zlg Zpi Zm7 Zik Zna
theorem Zvm (w:World)(cs:Array Value)(g n:Nat)(hg:g=w.heap.size)(hm:n≤maxLen)(hs:cs.size=n*1):Zao (w.alloc (.cells cs 141)) (fun _=>True) 141 1 (.slice (some ⟨g,0,none⟩) n n) n cs.toList:=by
 subst hg
 refine⟨by simp[hs],Or.inr ⟨w.heap.size,n,cs,rfl,trivial,heap_alloc_new _ _,Nat.le_refl _,hm,hs,?_⟩⟩
 rw[List.take_of_length_le (by simp[hs])]
theorem ce_list {k:Nat}(IH:Zgk k)(sp:Nat)(ks:List Ex)(ad:Option Addr)(len cap:Nat)(vs:List Value)(D3:Nat→Prop)(B:Nat)(fs:List (List UInt8×Nat))(sv:Value)(bs:List ByteArray)(w:World)(D D2:Nat→Prop)(aN aA aW:Addr)(hS:Zcv w D2 sv bs)(hA:Zcw w B fs)(hN:Zgl w aN aA aW)(hsz:Zes ks≤k+1)(hb:bs.length+Zes ks≤100000)(hR:Zao w D3 141 1 (.slice ad len cap) vs.length vs)(hE:Zbj w D ks vs):
  Calls prog 191 #[.iface 420 (.agg #[.int .i64 ((sp:Nat):Int),.slice ad len cap]),sv,.map (some B)] w fun r w'=>r=.returned (Zgn (Zfu fs (Zat bs) ks) aN aA aW)∧Below w.heap.size w w':=by
 have bel:Below w.heap.size w (w.alloc (Obj.cells #[.int .i64 ((sp:Nat):Int),.slice ad len cap] 420)):=Zab w _
 have ce:=Zd9 IH ks (.slice ad len cap) sv vs bs B fs _ D D2 D3 aN aA aW hsz hb (Zai hR bel) (hE.below bel) (hS.below bel) (hA.below bel) (hN.below bel)
 clear hR hE
 go_enter func191,ntmps191
 go_wp2_with (go_at_call 228;refine ce.mono ?_;rintro e w1 ⟨rfl,hb1⟩)
 go_ret
 exact⟨rfl,bel.trans (hb1.mono bel.size)⟩
theorem ce_if {k:Nat}(IH:Zgk k)(sp:Nat)(ks:List Ex)(t0 t1 t2:TypeId)(x0 x1 x2:Value)(B:Nat)(fs:List (List UInt8×Nat))(sv:Value)(bs:List ByteArray)(w:World)(D D2:Nat→Prop)(aN aA aW:Addr)(hS:Zcv w D2 sv bs)(hA:Zcw w B fs)(hN:Zgl w aN aA aW)(hsz:Zes ks≤k+1)(hb:bs.length+Zes ks≤100000)(hE:Zbj w D ks [.iface t0 x0,.iface t1 x1,.iface t2 x2]):
  Calls prog 191 #[.iface 422 (.agg #[.int .i64 ((sp:Nat):Int),.iface t0 x0,.iface t1 x1,.iface t2 x2]),sv,.map (some B)] w fun r w'=>r=.returned (Zgn (Zfu fs (Zat bs) ks) aN aA aW)∧Below w.heap.size w w':=by
 have bel:Below w.heap.size w ((w.alloc (Obj.cells #[.int .i64 ((sp:Nat):Int),.iface t0 x0,.iface t1 x1,.iface t2 x2] 422)).alloc (Obj.cells #[.iface t0 x0,.iface t1 x1,.iface t2 x2] 141)):=((Below.refl _ _).alloc (Nat.le_refl _) _).alloc (by simp) _
 have hrow:Zao ((w.alloc (Obj.cells #[.int .i64 ((sp:Nat):Int),.iface t0 x0,.iface t1 x1,.iface t2 x2] 422)).alloc (Obj.cells #[.iface t0 x0,.iface t1 x1,.iface t2 x2] 141)) (fun _=>True) 141 1 (.slice (some ⟨w.heap.size+1,0,none⟩) 3 3) 3 [.iface t0 x0,.iface t1 x1,.iface t2 x2]:=Zvm _ #[.iface t0 x0,.iface t1 x1,.iface t2 x2] (w.heap.size+1) 3 (by simp) (by unfold maxLen;decide) rfl
 have ce:=Zd9 IH ks (.slice (some ⟨w.heap.size+1,0,none⟩) 3 3) sv [.iface t0 x0,.iface t1 x1,.iface t2 x2] bs B fs _ D D2 (fun _=>True) aN aA aW hsz hb hrow (hE.below bel) (hS.below bel) (hA.below bel) (hN.below bel)
 clear hrow hE
 go_enter func191,ntmps191
 go_wp2_with (go_at_call 228;refine ce.mono ?_;rintro e w1 ⟨rfl,hb1⟩)
 go_ret
 exact⟨rfl,bel.trans (hb1.mono bel.size)⟩
theorem ce_set {k:Nat}(IH:Zgk k)(sp:Nat)(ks:List Ex)(t0 t1 t2:TypeId)(x0 x1 x2:Value)(B:Nat)(fs:List (List UInt8×Nat))(sv:Value)(bs:List ByteArray)(w:World)(D D2:Nat→Prop)(aN aA aW:Addr)(hS:Zcv w D2 sv bs)(hA:Zcw w B fs)(hN:Zgl w aN aA aW)(hsz:Zes ks≤k+1)(hb:bs.length+Zes ks≤100000)(hE:Zbj w D ks [.iface t0 x0,.iface t1 x1,.iface t2 x2]):
  Calls prog 191 #[.iface 424 (.agg #[.int .i64 ((sp:Nat):Int),.iface t0 x0,.iface t1 x1,.iface t2 x2]),sv,.map (some B)] w fun r w'=>r=.returned (Zgn (Zfu fs (Zat bs) ks) aN aA aW)∧Below w.heap.size w w':=by
 have bel:Below w.heap.size w ((w.alloc (Obj.cells #[.int .i64 ((sp:Nat):Int),.iface t0 x0,.iface t1 x1,.iface t2 x2] 424)).alloc (Obj.cells #[.iface t0 x0,.iface t1 x1,.iface t2 x2] 141)):=((Below.refl _ _).alloc (Nat.le_refl _) _).alloc (by simp) _
 have hrow:Zao ((w.alloc (Obj.cells #[.int .i64 ((sp:Nat):Int),.iface t0 x0,.iface t1 x1,.iface t2 x2] 424)).alloc (Obj.cells #[.iface t0 x0,.iface t1 x1,.iface t2 x2] 141)) (fun _=>True) 141 1 (.slice (some ⟨w.heap.size+1,0,none⟩) 3 3) 3 [.iface t0 x0,.iface t1 x1,.iface t2 x2]:=Zvm _ #[.iface t0 x0,.iface t1 x1,.iface t2 x2] (w.heap.size+1) 3 (by simp) (by unfold maxLen;decide) rfl
 have ce:=Zd9 IH ks (.slice (some ⟨w.heap.size+1,0,none⟩) 3 3) sv [.iface t0 x0,.iface t1 x1,.iface t2 x2] bs B fs _ D D2 (fun _=>True) aN aA aW hsz hb hrow (hE.below bel) (hS.below bel) (hA.below bel) (hN.below bel)
 clear hrow hE
 go_enter func191,ntmps191
 go_wp2_with (go_at_call 228;refine ce.mono ?_;rintro e w1 ⟨rfl,hb1⟩)
 go_ret
 exact⟨rfl,bel.trans (hb1.mono bel.size)⟩
theorem Z3c {k:Nat}(IH:Zgk k)(sp:Nat)(ks:List Ex)(ob:ByteArray)(t0 t1:TypeId)(x0 x1:Value)(B:Nat)(fs:List (List UInt8×Nat))(sv:Value)(bs:List ByteArray)(w:World)(D D2:Nat→Prop)(aN aA aW:Addr)(hS:Zcv w D2 sv bs)(hA:Zcw w B fs)(hN:Zgl w aN aA aW)(hsz:Zes ks≤k+1)(hb:bs.length+Zes ks≤100000)(hE:Zbj w D ks [.iface t0 x0,.iface t1 x1]):
  Calls prog 191 #[.iface 427 (.agg #[.int .i64 ((sp:Nat):Int),.string ob,.iface t0 x0,.iface t1 x1]),sv,.map (some B)] w fun r w'=>r=.returned (Zgn (Zfu fs (Zat bs) ks) aN aA aW)∧Below w.heap.size w w':=by
 have bel:Below w.heap.size w ((w.alloc (Obj.cells #[.int .i64 ((sp:Nat):Int),.string ob,.iface t0 x0,.iface t1 x1] 427)).alloc (Obj.cells #[.iface t0 x0,.iface t1 x1] 141)):=((Below.refl _ _).alloc (Nat.le_refl _) _).alloc (by simp) _
 have hrow:Zao ((w.alloc (Obj.cells #[.int .i64 ((sp:Nat):Int),.string ob,.iface t0 x0,.iface t1 x1] 427)).alloc (Obj.cells #[.iface t0 x0,.iface t1 x1] 141)) (fun _=>True) 141 1 (.slice (some ⟨w.heap.size+1,0,none⟩) 2 2) 2 [.iface t0 x0,.iface t1 x1]:=Zvm _ #[.iface t0 x0,.iface t1 x1] (w.heap.size+1) 2 (by simp) (by unfold maxLen;decide) rfl
 have ce:=Zd9 IH ks (.slice (some ⟨w.heap.size+1,0,none⟩) 2 2) sv [.iface t0 x0,.iface t1 x1] bs B fs _ D D2 (fun _=>True) aN aA aW hsz hb hrow (hE.below bel) (hS.below bel) (hA.below bel) (hN.below bel)
 clear hrow hE
 go_enter func191,ntmps191
 go_wp2_with (go_at_call 228;refine ce.mono ?_;rintro e w1 ⟨rfl,hb1⟩)
 go_ret
 exact⟨rfl,bel.trans (hb1.mono bel.size)⟩
theorem Zh4 (w:World)(x y z u:Value)(t:TypeId):let X:=w.alloc (.cells #[x,y,z,u] t)
  X.cell? ⟨w.heap.size,0,none⟩=some x∧X.cell? ⟨w.heap.size,1,none⟩=some y∧X.cell? ⟨w.heap.size,2,none⟩=some z∧X.cell? ⟨w.heap.size,3,none⟩=some u∧w.heap.size<X.heap.size:=by
 have h:(w.alloc (Obj.cells #[x,y,z,u] t)).heap[w.heap.size]?=some (.cells #[x,y,z,u] t):=heap_alloc_new _ _
 refine⟨?_,?_,?_,?_,by simp⟩<;>(unfold World.cell?;rw[h];rfl)
theorem ce_len {k:Nat}(IH:Zgk k)(sp:Nat)(x:Ex)(t0:TypeId)(x0:Value)(B:Nat)(fs:List (List UInt8×Nat))(sv:Value)(bs:List ByteArray)(w:World)(D D2:Nat→Prop)(aN aA aW:Addr)(hS:Zcv w D2 sv bs)(hA:Zcw w B fs)(hN:Zgl w aN aA aW)(hsz:szE x≤k)(hb:bs.length+szE x≤100000)(hE:Zc8 w D x (.iface t0 x0)):
  Calls prog 191 #[.iface 429 (.agg #[.int .i64 ((sp:Nat):Int),.iface t0 x0]),sv,.map (some B)] w fun r w'=>r=.returned (Zgn (nmE fs (Zat bs) x) aN aA aW)∧Below w.heap.size w w':=by
 have bel:Below w.heap.size w (w.alloc (Obj.cells #[.int .i64 ((sp:Nat):Int),.iface t0 x0] 429)):=Zab w _
 have ce:=IH x (.iface t0 x0) sv bs B fs _ D D2 aN aA aW hsz hb (hE.below bel) (hS.below bel) (hA.below bel) (hN.below bel)
 clear hE IH
 go_enter func191,ntmps191
 go_wp2_with (go_at_call 191;refine ce.mono ?_;rintro e w1 ⟨rfl,hb1⟩)
 go_ret
 exact⟨rfl,bel.trans (hb1.mono bel.size)⟩
theorem ce_map {k:Nat}(IH:Zgk k)(sp:Nat)(x:Ex)(nb:ByteArray)(at_:Nat)(t0:TypeId)(x0:Value)(B:Nat)(fs:List (List UInt8×Nat))(sv:Value)(bs:List ByteArray)(w:World)(D D2:Nat→Prop)(aN aA aW:Addr)(hS:Zcv w D2 sv bs)(hA:Zcw w B fs)(hN:Zgl w aN aA aW)(hnb:nb.size≤2000)(hsz:szE x≤k)(hb:bs.length+szE x≤100000)(hE:Zc8 w D x (.iface t0 x0)):
  Calls prog 191 #[.iface 418 (.agg #[.int .i64 ((sp:Nat):Int),.string nb,.int .i64 ((at_:Nat):Int),.iface t0 x0]),sv,.map (some B)] w fun r w'=>r=.returned (Zgn (orE (Zcb fs nb.data.toList at_ 1) (nmE fs (Zat bs) x)) aN aA aW)∧Below w.heap.size w w':=by
 have bel:Below w.heap.size w (w.alloc (Obj.cells #[.int .i64 ((sp:Nat):Int),.string nb,.int .i64 ((at_:Nat):Int),.iface t0 x0] 418)):=Zab w _
 obtain⟨n0,n1,n2,n3,n4⟩:=Zh4 w (.int .i64 ((sp:Nat):Int)) (.string nb) (.int .i64 ((at_:Nat):Int)) (.iface t0 x0) 418
 have ck:=Zt7 B fs nb at_ 1 _ aN aA aW (hA.below bel) (hN.below bel) hnb
 have ce:=fun w' (bel2:Below w.heap.size w w')=>IH x (.iface t0 x0) sv bs B fs w' D D2 aN aA aW hsz hb (hE.below bel2) (hS.below bel2) (hA.below bel2) (hN.below bel2)
 have CE:Hid (∀w' (bel2:Below w.heap.size w w'),Calls prog 191 #[.iface t0 x0,sv,.map (some B)] w' fun r w''=>r=.returned (Zgn (nmE fs (Zat bs) x) aN aA aW)∧Below w'.heap.size w' w''):=ce
 clear hE IH ce hS hA hN
 cases hc:Zcb fs nb.data.toList at_ 1 with
 | some y =>
  obtain⟨c,p⟩:=y
  rw[hc] at ck
  obtain⟨a,ha⟩:∃a,Zgn (some (c,p)) aN aA aW=Za2 p a:=⟨_,rfl⟩
  have e:Zgn (orE (some (c,p)) (nmE fs (Zat bs) x)) aN aA aW=Za2 p a:=ha
  rw[e]
  rw[ha] at ck
  clear hc ha e
  go_enter func191,ntmps191
  go_wp2_with (go_at_call 227;refine ck.mono ?_;rintro e w1 ⟨rfl,hb1⟩)
  go_ret
  exact⟨rfl,bel.trans (hb1.mono bel.size)⟩
 | none =>
  rw[hc] at ck
  have e:orE none (nmE fs (Zat bs) x)=nmE fs (Zat bs) x:=rfl
  rw[e]
  have e2:Zgn none aN aA aW=.nilIface:=rfl
  rw[e2] at ck
  clear hc e e2
  go_enter func191,ntmps191
  go_wp2_with fail
  refine ck.mono ?_
  rintro e w1 ⟨rfl,hb1⟩
  have bel1:=bel.trans (hb1.mono bel.size)
  have m3:w1.cell? ⟨w.heap.size,3,none⟩=some (.iface t0 x0):=Below.cellv hb1 n3
  clear n0 n1 n2 n3 n4 ck
  go_wp2_with (go_at_call 191;refine (CE.out _ bel1).mono ?_;rintro e w2 ⟨rfl,hb2⟩)
  go_ret
  exact⟨rfl,bel1.trans (hb2.mono bel1.size)⟩
theorem ce_call {k:Nat}(IH:Zgk k)(sp:Nat)(ks:List Ex)(nb:ByteArray)(at_:Nat)(ad:Option Addr)(cap:Nat)(vs:List Value)(D3:Nat→Prop)(B:Nat)(fs:List (List UInt8×Nat))(sv:Value)(bs:List ByteArray)(w:World)(D D2:Nat→Prop)(aN aA aW:Addr)(hS:Zcv w D2 sv bs)(hA:Zcw w B fs)(hN:Zgl w aN aA aW)(hnb:nb.size≤2000)(hsz:Zes ks≤k+1)(hb:bs.length+Zes ks≤100000)(hR:Zao w D3 141 1 (.slice ad vs.length cap) vs.length vs)(hE:Zbj w D ks vs):
  Calls prog 191 #[.iface 414 (.agg #[.int .i64 ((sp:Nat):Int),.string nb,.int .i64 ((at_:Nat):Int),.slice ad vs.length cap]),sv,.map (some B)] w fun r w'=>r=.returned (Zgn (orE (Zcb fs nb.data.toList at_ vs.length) (Zfu fs (Zat bs) ks)) aN aA aW)∧Below w.heap.size w w':=by
 have bel:Below w.heap.size w (w.alloc (Obj.cells #[.int .i64 ((sp:Nat):Int),.string nb,.int .i64 ((at_:Nat):Int),.slice ad vs.length cap] 414)):=Zab w _
 obtain⟨n0,n1,n2,n3,n4⟩:=Zh4 w (.int .i64 ((sp:Nat):Int)) (.string nb) (.int .i64 ((at_:Nat):Int)) (.slice ad vs.length cap) 414
 have ck:=Zt7 B fs nb at_ vs.length _ aN aA aW (hA.below bel) (hN.below bel) hnb
 have ce:=fun w' (bel2:Below w.heap.size w w')=>Zd9 IH ks (.slice ad vs.length cap) sv vs bs B fs w' D D2 D3 aN aA aW hsz hb (Zai hR bel2) (hE.below bel2) (hS.below bel2) (hA.below bel2) (hN.below bel2)
 have CE:Hid (∀w' (bel2:Below w.heap.size w w'),Calls prog 228 #[.slice ad vs.length cap,sv,.map (some B)] w' fun r w''=>r=.returned (Zgn (Zfu fs (Zat bs) ks) aN aA aW)∧Below w'.heap.size w' w''):=ce
 clear hE IH ce hS hA hN hR
 cases hc:Zcb fs nb.data.toList at_ vs.length with
 | some y =>
  obtain⟨c,p⟩:=y
  rw[hc] at ck
  obtain⟨a,ha⟩:∃a,Zgn (some (c,p)) aN aA aW=Za2 p a:=⟨_,rfl⟩
  have e:Zgn (orE (some (c,p)) (Zfu fs (Zat bs) ks)) aN aA aW=Za2 p a:=ha
  rw[e]
  rw[ha] at ck
  clear hc ha e
  go_enter func191,ntmps191
  go_wp2_with (go_at_call 227;refine ck.mono ?_;rintro e w1 ⟨rfl,hb1⟩)
  go_ret
  exact⟨rfl,bel.trans (hb1.mono bel.size)⟩
 | none =>
  rw[hc] at ck
  have e:orE none (Zfu fs (Zat bs) ks)=Zfu fs (Zat bs) ks:=rfl
  rw[e]
  have e2:Zgn none aN aA aW=.nilIface:=rfl
  rw[e2] at ck
  clear hc e e2
  go_enter func191,ntmps191
  go_wp2_with fail
  refine ck.mono ?_
  rintro e w1 ⟨rfl,hb1⟩
  have bel1:=bel.trans (hb1.mono bel.size)
  have m3:w1.cell? ⟨w.heap.size,3,none⟩=some (.slice ad vs.length cap):=Below.cellv hb1 n3
  clear n0 n1 n2 n3 n4 ck
  go_wp2_with (go_at_call 228;refine (CE.out _ bel1).mono ?_;rintro e w2 ⟨rfl,hb2⟩)
  go_ret
  exact⟨rfl,bel1.trans (hb2.mono bel1.size)⟩
theorem Zyl (w:World)(x y z u v:Value)(t:TypeId):let X:=w.alloc (.cells #[x,y,z,u,v] t)
  X.cell? ⟨w.heap.size,0,none⟩=some x∧X.cell? ⟨w.heap.size,1,none⟩=some y∧X.cell? ⟨w.heap.size,2,none⟩=some z∧X.cell? ⟨w.heap.size,3,none⟩=some u∧X.cell? ⟨w.heap.size,4,none⟩=some v∧w.heap.size<X.heap.size:=by
 have h:(w.alloc (Obj.cells #[x,y,z,u,v] t)).heap[w.heap.size]?=some (.cells #[x,y,z,u,v] t):=heap_alloc_new _ _
 refine⟨?_,?_,?_,?_,?_,by simp⟩<;>(unfold World.cell?;rw[h];rfl)
theorem ce_let {k:Nat}(IH:Zgk k)(sp:Nat)(x y:Ex)(nb:ByteArray)(at_:Nat)(t0 t1:TypeId)(x0 x1:Value)(B:Nat)(fs:List (List UInt8×Nat))(sv:Value)(bs:List ByteArray)(w:World)(D D2:Nat→Prop)(aN aA aW:Addr)(hS:Zcv w D2 sv bs)(hA:Zcw w B fs)(hN:Zgl w aN aA aW)(hsx:szE x≤k)(hsy:szE y≤k)(hbx:bs.length+szE x≤100000)(hby:bs.length+1+szE y≤100000)(hX:Zc8 w D x (.iface t0 x0))(hY:Zc8 w D y (.iface t1 x1)):
  Calls prog 191 #[.iface 411 (.agg #[.int .i64 ((sp:Nat):Int),.string nb,.int .i64 ((at_:Nat):Int),.iface t0 x0,.iface t1 x1]),sv,.map (some B)] w fun r w'=>r=.returned (Zgn (orE (nmE fs (Zat bs) x) (nmE fs (Zat bs++[nb.data.toList]) y)) aN aA aW)∧Below w.heap.size w w':=by
 have bel:Below w.heap.size w (w.alloc (Obj.cells #[.int .i64 ((sp:Nat):Int),.string nb,.int .i64 ((at_:Nat):Int),.iface t0 x0,.iface t1 x1] 411)):=Zab w _
 obtain⟨n9,n0,n1,n2,n3,n4⟩:=Zyl w (.int .i64 ((sp:Nat):Int)) (.string nb) (.int .i64 ((at_:Nat):Int)) (.iface t0 x0) (.iface t1 x1) 411
 have ce:=IH x (.iface t0 x0) sv bs B fs _ D D2 aN aA aW hsx hbx (hX.below bel) (hS.below bel) (hA.below bel) (hN.below bel)
 have CW:Hid (∀w' (bel2:Below w.heap.size w w'),Calls prog 226 #[sv,Zd7 nb at_] w' fun e w''=>∃v',e=.returned v'∧Zcv w'' (w'.heap.size≤·) v' (bs++[nb])∧Below w'.heap.size w' w''):=fun w' bel2=>Zxi sv bs nb at_ w' D2 (hS.below bel2) (by omega)
 have hns:Zat (bs++[nb])=Zat bs++[nb.data.toList]:=by simp[Zat]
 have CY:Hid (∀w' (D4:Nat→Prop) (v':Value) (bel2:Below w.heap.size w w'),Zcv w' D4 v' (bs++[nb])→Calls prog 191 #[.iface t1 x1,v',.map (some B)] w' fun r w''=>r=.returned (Zgn (nmE fs (Zat bs++[nb.data.toList]) y) aN aA aW)∧Below w'.heap.size w' w''):=fun w' D4 v' bel2 hs=>by
  have:=IH y (.iface t1 x1) v' (bs++[nb]) B fs w' D D4 aN aA aW hsy (by simp;omega) (hY.below bel2) hs (hA.below bel2) (hN.below bel2)
  rw[hns] at this
  exact this
 clear hX hY IH hS hA hN hns
 cases hm:nmE fs (Zat bs) x with
 | some q =>
  obtain⟨c,p⟩:=q
  rw[hm] at ce
  obtain⟨a,ha⟩:∃a,Zgn (some (c,p)) aN aA aW=Za2 p a:=⟨_,rfl⟩
  have e:Zgn (orE (some (c,p)) (nmE fs (Zat bs++[nb.data.toList]) y)) aN aA aW=Za2 p a:=ha
  rw[e]
  rw[ha] at ce
  clear hm ha e
  go_enter func191,ntmps191
  go_wp2_with (go_at_call 191;refine ce.mono ?_;rintro e w1 ⟨rfl,hb1⟩)
  go_ret
  exact⟨rfl,bel.trans (hb1.mono bel.size)⟩
 | none =>
  rw[hm] at ce
  have e:orE none (nmE fs (Zat bs++[nb.data.toList]) y)=nmE fs (Zat bs++[nb.data.toList]) y:=rfl
  rw[e]
  have e2:Zgn none aN aA aW=.nilIface:=rfl
  rw[e2] at ce
  generalize hR:Zgn (nmE fs (Zat bs++[nb.data.toList]) y) aN aA aW=R at CY ⊢
  clear hm e e2 hR
  go_enter func191,ntmps191
  go_wp2_with fail
  refine ce.mono ?_
  rintro e w1 ⟨rfl,hb1⟩
  have bel1:=bel.trans (hb1.mono bel.size)
  have m0:w1.cell? ⟨w.heap.size,1,none⟩=some (.string nb):=Below.cellv hb1 n0
  have m1:w1.cell? ⟨w.heap.size,2,none⟩=some (.int .i64 ((at_:Nat):Int)):=Below.cellv hb1 n1
  have m3:w1.cell? ⟨w.heap.size,4,none⟩=some (.iface t1 x1):=Below.cellv hb1 n3
  clear n9 n0 n1 n2 n3 n4 ce
  go_wp2_with fail
  go_region_held3 (fun w'=>w'.cell? ⟨w.heap.size,1,none⟩=some (.string nb)∧w'.cell? ⟨w.heap.size,2,none⟩=some (.int .i64 ((at_:Nat):Int))∧w'.cell? ⟨w.heap.size,4,none⟩=some (.iface t1 x1)) (first | go_keep | (refine⟨Below.cellv hb2 ?_,Below.cellv hb2 ?_,Below.cellv hb2 ?_⟩<;>assumption) | (refine⟨Below.cellv hb3 ?_,Below.cellv hb3 ?_,Below.cellv hb3 ?_⟩<;>(refine Below.cellv hb2 ?_)<;>assumption))
   ((first
    |(go_at_call 226;refine (CW.out _ ?_).mono ?_;(exact bel1.drew);rintro e w2 ⟨v',rfl,hs2,hb2⟩)
    |(go_at_call 191;refine (CY.out _ _ v' ?_ hs2).mono ?_;(exact bel1.drew.trans (hb2.mono bel1.size));rintro e w3 ⟨rfl,hb3⟩)))
  all_goals go_wp2
  all_goals go_ret
  all_goals exact⟨rfl,(bel1.drew.trans (hb2.mono bel1.size)).trans (hb3.mono (Nat.le_trans bel1.size hb2.size))⟩
end Go.Proofs.YtliapghpeoaonaaGreatDoor
namespace Go.Proofs.YtliapghpeoaonaaGreatDoor
open Go.Proofs.Tryz
open Go.RowKit
theorem Zu4 {w:World}{D:Nat→Prop}{ks:List Ex}{v:Value}(h:Zbj w D ks [v]):∃x,ks=[x]∧Zc8 w D x v:=by
 cases ks with
 | nil=>rw[Zbj] at h;cases h
 | cons x l =>
  rw[Zbj] at h
  obtain⟨v',r,h1,h2,h3⟩:=h
  cases h1
  cases l with
  | nil=>exact⟨x,rfl,h2⟩
  | cons y l=>rw[Zbj] at h3;obtain⟨_,_,h,_⟩:=h3;cases h
theorem rep_two {w:World}{D:Nat→Prop}{ks:List Ex}{v u:Value}(h:Zbj w D ks [v,u]):∃x y,ks=[x,y]∧Zc8 w D x v∧Zc8 w D y u:=by
 cases ks with
 | nil=>rw[Zbj] at h;cases h
 | cons x l =>
  rw[Zbj] at h
  obtain⟨v',r,h1,h2,h3⟩:=h
  cases h1
  obtain⟨y,rfl,h4⟩:=Zu4 h3
  exact⟨x,y,rfl,h2,h4⟩
theorem Zvu:Zgk 0:=by
 intro e v sv bs B fs w D D2 aN aA aW h
 cases e<;>simp[szE] at h
theorem Zvv {k:Nat}(IH:Zgk k):Zgk (k+1):=by
 intro e v sv bs B fs w D D2 aN aA aW hsz hb hR hS hA hN
 cases e with
 | num b =>
  rw[Zc8] at hR
  obtain⟨sp,rfl⟩:=hR
  rw[nmE]
  refine (ce_num sp _ sv B w).mono ?_
  rintro r w' ⟨rfl,rfl⟩
  exact⟨rfl,Below.refl _ _⟩
 | txt b =>
  rw[Zc8] at hR
  obtain⟨sp,bb,_,rfl⟩:=hR
  rw[nmE]
  refine (ce_txt sp _ sv B w).mono ?_
  rintro r w' ⟨rfl,rfl⟩
  exact⟨rfl,Below.refl _ _⟩
 | var n a =>
  rw[Zc8] at hR
  obtain⟨nb,rfl,rfl⟩:=hR
  have hz:1≤szE (.var nb.data.toList a):=by rw[szE];omega
  refine (ce_var nb a sv bs B w D2 aN aA aW hS (by omega) hN).mono ?_
  rintro r w' ⟨rfl,hb'⟩
  refine⟨?_,hb'⟩
  rw[nmE,Zit]
  cases (Zat bs).contains nb.data.toList<;>rfl
 | form wd n a ks =>
  rw[Zc8] at hR
  obtain⟨sp,vs,hE,hF⟩:=hR
  rw[szE] at hsz hb
  rcases hF with ⟨rfl,sl,rfl,hrow⟩ | ⟨rfl,nb,sl,rfl,hz,rfl,hrow⟩ | ⟨rfl,nb,v0,rfl,hz,rfl,rfl⟩ | ⟨rfl,nb,v0,v1,rfl,hz,rfl,rfl⟩ | ⟨rfl,v0,v1,v2,rfl,rfl⟩ | ⟨rfl,v0,v1,v2,rfl,rfl⟩ | ⟨rfl,v0,rfl,rfl⟩ | ⟨hs,ob,v0,v1,rfl,rfl,rfl⟩
  ·obtain⟨ad,len,cap,rfl⟩:=Zgb hrow
   rw[Zj0 (by decide) (by decide) (by decide)]
   exact ce_list IH sp ks ad len cap vs D B fs sv bs w D D2 aN aA aW hS hA hN (by omega) (by omega) hrow hE
  ·obtain⟨ad,cap,rfl⟩:∃ad cap,sl=.slice ad vs.length cap:=by
    rcases hrow.2 with ⟨h,h0⟩ | ⟨g,c,_,h,_⟩
    ·exact⟨none,0,by rw[h,h0]⟩
    ·exact⟨_,_,h⟩
   have e:nmE fs (Zat bs) (.form [99,97,108,108] nb.data.toList a ks)=orE (Zcb fs nb.data.toList a vs.length) (Zfu fs (Zat bs) ks):=by
    rw[nmE,hE.length]
    rfl
   rw[e]
   exact ce_call IH sp ks nb a ad cap vs D B fs sv bs w D D2 aN aA aW hS hA hN hz (by omega) (by omega) hrow hE
  ·obtain⟨x,rfl,hx⟩:=Zu4 hE
   obtain⟨t0,x0,rfl⟩:=hx.iface
   have e:nmE fs (Zat bs) (.form [109,97,112] nb.data.toList a [x])=orE (Zcb fs nb.data.toList a 1) (nmE fs (Zat bs) x):=by
    rw[nmE,Zrc]
    rfl
   rw[e]
   have h1:Zes [x]=szE x+1:=by rw[Zes,Zes]
   exact ce_map IH sp x nb a t0 x0 B fs sv bs w D D2 aN aA aW hS hA hN hz (by omega) (by omega) hx
  ·obtain⟨x,y,rfl,hx,hy⟩:=rep_two hE
   obtain⟨t0,x0,rfl⟩:=hx.iface
   obtain⟨t1,x1,rfl⟩:=hy.iface
   have e:nmE fs (Zat bs) (.form [108,101,116] nb.data.toList a [x,y])=orE (nmE fs (Zat bs) x) (nmE fs (Zat bs++[nb.data.toList]) y):=by
    rw[nmE]
    have:Zq9 fs (Zat bs) nb.data.toList [x,y]=orE (nmE fs (Zat bs) x) (nmE fs (Zat bs++[nb.data.toList]) y):=by rw[Zq9,Zrc]
    rw[this]
    rfl
   rw[e]
   have h1:Zes [x,y]=szE x+(szE y+1)+1:=by rw[Zes,Zes,Zes]
   exact ce_let IH sp x y nb a t0 t1 x0 x1 B fs sv bs w D D2 aN aA aW hS hA hN (by omega) (by omega) (by omega) (by omega) hx hy
  ·obtain⟨t0,x0,rfl⟩:=hE.ifs v0 (by simp)
   obtain⟨t1,x1,rfl⟩:=hE.ifs v1 (by simp)
   obtain⟨t2,x2,rfl⟩:=hE.ifs v2 (by simp)
   rw[Zj0 (by decide) (by decide) (by decide)]
   exact ce_if IH sp ks t0 t1 t2 x0 x1 x2 B fs sv bs w D D2 aN aA aW hS hA hN (by omega) (by omega) hE
  ·obtain⟨t0,x0,rfl⟩:=hE.ifs v0 (by simp)
   obtain⟨t1,x1,rfl⟩:=hE.ifs v1 (by simp)
   obtain⟨t2,x2,rfl⟩:=hE.ifs v2 (by simp)
   rw[Zj0 (by decide) (by decide) (by decide)]
   exact ce_set IH sp ks t0 t1 t2 x0 x1 x2 B fs sv bs w D D2 aN aA aW hS hA hN (by omega) (by omega) hE
  ·obtain⟨x,rfl,hx⟩:=Zu4 hE
   obtain⟨t0,x0,rfl⟩:=hx.iface
   rw[Zj0 (by decide) (by decide) (by decide),Zrc]
   have h1:Zes [x]=szE x+1:=by rw[Zes,Zes]
   exact ce_len IH sp x t0 x0 B fs sv bs w D D2 aN aA aW hS hA hN (by omega) (by omega) hx
  ·obtain⟨t0,x0,rfl⟩:=hE.ifs v0 (by simp)
   obtain⟨t1,x1,rfl⟩:=hE.ifs v1 (by simp)
   rw[Zj0 (by rintro h;rw[h] at hs;revert hs;decide) (by rintro h;rw[h] at hs;revert hs;decide) (by rintro h;rw[h] at hs;revert hs;decide)]
   exact Z3c IH sp ks ob t0 t1 x0 x1 B fs sv bs w D D2 aN aA aW hS hA hN (by omega) (by omega) hE
theorem Zp7:∀k,Zgk k
 | 0=>Zvu
 | k+1=>Zvv (Zp7 k)
end Go.Proofs.YtliapghpeoaonaaGreatDoor
namespace Go.Proofs.YtliapghpeoaonaaGreatDoor
open Go.Proofs.Tryz
open Go.RowKit Go.Maps
attribute [local go_sem ↓] Go.wp_at_zero Go.wp_at_succ
theorem Zho:∀(l:List (ByteArray×Nat)) (j:Nat) (hj:j<l.length),(Zb2 l)[j*2]?=some (.string l[j].1)∧(Zb2 l)[j*2+1]?=some (.int .i64 ((l[j].2:Nat):Int))
 | [],j,hj=>by simp at hj
 | x::r,0,_=>⟨rfl,rfl⟩
 | x::r,j+1,hj=>by
  have:=Zho r j (by simpa using hj)
  rw[show (j+1)*2=j*2+1+1 by omega,show j*2+1+1+1=(j*2+1)+1+1 by omega]
  simpa[Zb2] using this
def Zj8 (l:List (ByteArray×Nat)):List ByteArray:=l.map (·.1)
theorem Zla (nb:ByteArray)(fn:Fn)(ad:Option Addr)(cap:Nat)(ps:List (ByteArray×Nat))(tb:TypeId)(xb:Value)(B:Nat)(fs:List (List UInt8×Nat))(w:World)(D:Nat→Prop)(aN aA aW:Addr)(h1:nb.data.toList=fn.name)(hps:Zas ps=fn.params)(hrow:Zao w D 138 2 (.slice ad ps.length cap) ps.length (Zb2 ps))(hbody:Zc8 w D fn.body (.iface tb xb))(hnb:nb.size≤2000)(hA:Zcw w B fs)(hN:Zgl w aN aA aW)(hpl:fn.params.length+szE fn.body≤100000):
  Calls prog 146 #[.agg #[.string nb,.int .i64 ((fn.at_:Nat):Int),.slice ad ps.length cap,.iface tb xb],.map (some B)] w fun r w'=>r=.returned (Zgn (Zj1 fs fn) aN aA aW)∧Below w.heap.size w w':=by
 obtain⟨n,Dm,hown,hn,hD⟩:=hA
 have hA2:Zcw w B fs:=⟨n,Dm,hown,hn,hD⟩
 obtain⟨d1,d2⟩:=hD nb.data.toList
 have hkey:keyOf prog 9 (.string nb)=some (.string nb.data.toList):=WideMaps.keyOf_string_mk underlying9 (by unfold maxLen;omega)
 have eW:=hN.eW
 have l1:6<w.heap.size:=Zae eW
 cases hL:(Zc9 fs fn.name).isSome with
 | true =>
  have d1':Maps.has Dm (.string nb.data.toList)=true:=by rw[d1,h1];exact hL
  have e:Zgn (Zj1 fs fn) aN aA aW=Za2 fn.at_ aW:=by simp[Zj1,hL,Zgn]
  rw[e]
  generalize fn.at_=at0
  clear d1 d2 hL e hD hA2 hbody hrow hN h1 hps
  go_enter func146,ntmps146
  go_wp2_with (first
   |(at_lookup;refine wpList_lookup_own_ok_int _ rfl _ _ 316 rfl 9 3 .i64 law underlying316 underlying3 (Zzz _) B n Dm rfl (hown.alloc _) _ _ rfl hkey ?_;intro k' hk hwf;clear hwf hk)
   |(go_at_call 189;refine (Ze3 nb at0 aW _).mono ?_;rintro e w' ⟨rfl,hb⟩))
  go_ret
  exact⟨rfl,(Zab w _).trans (hb.mono (by simp))⟩
 | false =>
  have d1':Maps.has Dm (.string nb.data.toList)=false:=by rw[d1,h1];exact hL
  have HQ:Hid (Zj1 fs fn=match Zi9 [] fn.params with | some p=>some (5,p) | none=>nmE fs (fn.params.map (·.1)) fn.body):=by
   show _=_
   simp only[Zj1,hL]
   cases Zi9 [] fn.params<;>rfl
  have HPS:Hid (Zas ps=fn.params):=hps
  clear d1 d2 hL hD h1 hps
  generalize hR:Zgn (Zj1 fs fn) aN aA aW=R
  have HR:Hid (Zgn (Zj1 fs fn) aN aA aW=R):=hR
  clear hR
  go_enter func146,ntmps146
  go_wp2_with (at_lookup;refine wpList_lookup_own_ok_int _ rfl _ _ 316 rfl 9 3 .i64 law underlying316 underlying3 (Zzz _) B n Dm rfl (hown.alloc _) _ _ rfl hkey ?_;intro k' hk hwf;clear hwf hk)
  have bX:Below w.heap.size w (w.alloc (Obj.cells #[.string nb,.int .i64 ((fn.at_:Nat):Int),.slice ad ps.length cap,.iface tb xb] 143)):=Zab w _
  have n3:=(Zh4 w (.string nb) (.int .i64 ((fn.at_:Nat):Int)) (.slice ad ps.length cap) (.iface tb xb) 143).2.2.2.1
  generalize w.alloc (Obj.cells #[.string nb,.int .i64 ((fn.at_:Nat):Int),.slice ad ps.length cap,.iface tb xb] 143)=X at *
  have hlenp:ps.length≤100000:=by
   have:fn.params.length=ps.length:=by rw[←HPS.out];simp[Zas]
   omega
  have hXs:=bX.size
  clear hown hkey d1'
  go_loopg [7,26] ps.length (fun m v i wr=>∃(j:Nat) (bs:List ByteArray),m=ps.length-j∧i=.int .i64 j∧j≤ps.length∧bs=Zj8 (ps.take j)∧wr.ownsRow X.heap.size 9 1 v bs.length (bs.map Value.string)∧Below X.heap.size X wr∧Zi9 [] (Zas ps)=Zi9 (Zat bs) ((Zas ps).drop j))
  case atStart=>exact⟨0,[],by omega,rfl,by omega,rfl,World.ownsRow_nil _ _ _ _,Below.refl _ _,rfl⟩
  case round =>
   obtain⟨j,bs,rfl,rfl,hj,hbs,hownv,hbw,hdup⟩:=hrel
   have HB:Hid (bs=Zj8 (ps.take j)):=hbs
   have HDU:Aside (Zi9 [] (Zas ps)=Zi9 (Zat bs) ((Zas ps).drop j)):=hdup
   have hbl:bs.length≤100000:=by rw[hbs];simp[Zj8];omega
   obtain⟨vad,vcap,rfl⟩:=Zaf hownv
   clear hbs hdup
   have hwz:=hbw.size
   have bw:Below w.heap.size w wr:=bX.trans (hbw.mono bX.size)
   by_cases hjl:j<ps.length
   ·obtain⟨g,cap',hpv,hg,hc1,hc2,hcell⟩:=hrow.cell (by omega)
    cases hpv
    obtain⟨e0,e1⟩:=Zho ps j hjl
    have c0:wr.cell? ⟨g,j*2,none⟩=some (.string ps[j].1):=Below.cellv bw (by rw[hcell (j*2) (by omega)];exact e0)
    have c1:wr.cell? ⟨g,j*2+1,none⟩=some (.int .i64 ((ps[j].2:Nat):Int)):=Below.cellv bw (by rw[hcell (j*2+1) (by omega)];exact e1)
    unfold maxLen at hc2
    have hdrop:(Zas ps).drop j=(ps[j].1.data.toList,ps[j].2)::(Zas ps).drop (j+1):=by
     rw[List.drop_eq_getElem_cons (by simpa[Zas] using hjl)]
     simp[Zas]
    have hD2:Zi9 (Zat bs) ((Zas ps).drop j)=if (Zat bs).contains ps[j].1.data.toList then some ps[j].2 else Zi9 (Zat bs++[ps[j].1.data.toList]) ((Zas ps).drop (j+1)):=by rw[hdrop,Zi9]
    have HDU2:Aside (Zi9 [] (Zas ps)=if (Zat bs).contains ps[j].1.data.toList then some ps[j].2 else Zi9 (Zat bs++[ps[j].1.data.toList]) ((Zas ps).drop (j+1))):=by show _=_;rw[HDU.out,hD2]
    have htake:Zj8 (ps.take (j+1))=Zj8 (ps.take j)++[ps[j].1]:=by
     unfold Zj8;rw[List.take_succ_eq_append_getElem hjl,List.map_append];rfl
    have HT:Hid (Zj8 (ps.take (j+1))=bs++[ps[j].1]):=by show _=_;rw[htake,←HB.out]
    have cc:=fun w h=>Zl1 (.slice vad bs.length vcap) bs ps[j].1 w (X.heap.size≤·) h hbl
    rw[Zit] at cc
    have hgl:=Zae c0
    have eW2:wr.cell? ⟨6,0,none⟩=some (Za8 aW):=Below.cellv bw eW
    have l2:6<wr.heap.size:=Zae eW2
    generalize hpb:ps[j].1=pb at *
    generalize hpn:ps[j].2=pn at *
    clear HDU hD2 hdrop htake hcell hrow e0 e1 hbody hA2 hN eW hpb hpn
    cases hh:(Zat bs).contains pb.data.toList with
    | true =>
     rw[hh] at cc
     have HP:Hid (R=Za2 pn aW):=by
      show _=_
      rw[←HR.out,HQ.out,←HPS.out,HDU2.out,hh]
      rfl
     clear HDU2 HT hh
     go_wp2_with (first
      |(go_at_call 190;refine (cc _ ?_).mono ?_;(exact Zcv.below (Zao.of_owns hownv) (Zab wr _));rintro e w1 ⟨rfl,rfl⟩)
      |(go_at_call 189;refine (Ze3 pb pn aW _).mono ?_;rintro e w2 ⟨rfl,hb2⟩))
     go_ret
     exact⟨by rw[HP.out];rfl,(bw.trans ((Zab wr _).mono bw.size)).trans (hb2.mono (by simp;omega))⟩
    | false =>
     rw[hh] at cc
     have HP:Aside (Zi9 [] (Zas ps)=Zi9 (Zat bs++[pb.data.toList]) ((Zas ps).drop (j+1))):=by show _=_;rw[HDU2.out,hh];rfl
     clear HDU2 hh
     go_wp2_with (first
      |(go_at_call 190;refine (cc _ ?_).mono ?_;(exact Zcv.below (Zao.of_owns hownv) (Zab wr _));rintro e w1 ⟨rfl,rfl⟩)
      |(at_builtin;obtain⟨i0,hi,hz0,hz1,hz2⟩:=info_parts Tryz.infoString;refine wpList_append_own _ rfl _ _ 30 rfl X.heap.size 9 i0 (.string ⟨#[]⟩) 1 16 underlying30 hi hz0 hz1 hz2 rfl (by decide) _ _ _ rfl ((hownv.alloc _).alloc _) ⟨wr.heap.size+1,0,none⟩ 1 1 [.string pb] rfl rfl (Zq7 wr _ _ _) (fun x hx=>by simp at hx;subst hx;rfl) (by unfold maxLen;omega) (by omega) (by simp;omega) ?_;intro v' w6 hown' hgrow hnil;clear hi hz0 hz1 hz2))
     go_roundg (ps.length-(j+1))
     case measure=>omega
     case rel =>
      refine⟨j+1,bs++[pb],rfl,by go_num,by omega,HT.out.symm,?_,?_,?_⟩
      ·rw[List.length_append,List.map_append]
       exact hown'
      ·exact Below.grown ((hbw.alloc hwz _).alloc (by simp;omega) _) hgrow (by simp;omega) (fun k hk=>(hownv.lt k hk).1)
      ·rw[HP.out]
       simp[Zat]
   ·have hjj:j=ps.length:=by omega
    subst hjj
    have hall:Zat bs=fn.params.map (·.1):=by
     rw[←HPS.out,HB.out,List.take_length]
     simp[Zat,Zj8,Zas]
    have hnod:Zi9 [] (Zas ps)=none:=by
     rw[HDU.out,List.drop_eq_nil_of_le (by simp[Zas]),Zi9]
    have HP:Hid (R=Zgn (nmE fs (Zat bs) fn.body) aN aA aW):=by
     show _=_
     rw[←HR.out,HQ.out,←HPS.out,hnod,HPS.out,hall]
    have ce:=Zp7 (szE fn.body) fn.body (.iface tb xb) (.slice vad bs.length vcap) bs B fs wr D (X.heap.size≤·) aN aA aW (Nat.le_refl _) (by
     have:fn.params.length=bs.length:=by rw[HB.out,←HPS.out];simp[Zas,Zj8]
     omega) (hbody.below bw) (Zao.of_owns hownv) (hA2.below bw) (hN.below bw)
    have m3:wr.cell? ⟨w.heap.size,3,none⟩=some (.iface tb xb):=Below.cellv hbw n3
    clear hall hnod HDU hbody hA2 hN hrow
    go_wp2_with (go_at_call 191;refine ce.mono ?_;rintro e w2 ⟨rfl,hb2⟩)
    go_ret
    exact⟨by rw[HP.out];rfl,bw.trans (hb2.mono bw.size)⟩
end Go.Proofs.YtliapghpeoaonaaGreatDoor
