/-
  The program: what is done with values: joined, operate.
-/
import Derived.Test.YtliapghpeoaonaaGreatDoorSegApp
import Derived.Test.YtliapghpeoaonaaGreatDoorNext
import Derived.Test.YtliapghpeoaonaaGreatDoorRvA
set_option maxHeartbeats 4000000
set_option maxRecDepth 8000
namespace Go.Proofs.YtliapghpeoaonaaGreatDoor
open Go.Proofs.Tryz
open Go.RowKit Go.Lib
attribute [local go_sem ↓] Go.wp_at_zero Go.wp_at_succ
attribute [local go_sem] Zdi Zdh Zdj Zdf Zde Zdg Zdl Zdk Zdm
def Zrk:PV→PV→Option PV
 | .txt x,.txt y=>some (.txt (x++y))
 | .lst x,.lst y=>some (.lst (x++y))
 | _,_=>none
theorem Zyz (D:Nat→Prop)(a b:PV)(x y:Value)(w:World)(ha:VL w D a x)(hb:VL w D b y)(hw:wtV a≤600)(hwb:wtV b≤600)(hD:∀g,w.heap.size≤g→D g):
  Calls prog 279 #[x,y] w (Zcx D w (Zrk a b)):=by
 rcases Zcn ha with ⟨z,rfl,rfl⟩ | ⟨s,rfl,rfl⟩ | ⟨l,ad,cap,cs,rfl,rfl,hseg,hvs⟩
 ·rcases Zcn hb with ⟨z2,rfl,rfl⟩ | ⟨s2,rfl,rfl⟩ | ⟨l2,ad2,cap2,cs2,rfl,rfl,_,_⟩
  all_goals
   clear ha hb
   go_enter func279,ntmps279
   go_wp2
   go_ret2
   exact Zhd (by first | exact Below.refl _ _ | exact Zab w _) rfl (Zb9 _)
 ·rcases Zcn hb with ⟨z2,rfl,rfl⟩ | ⟨s2,rfl,rfl⟩ | ⟨l2,ad2,cap2,cs2,rfl,rfl,_,_⟩
  ·clear ha hb
   go_enter func279,ntmps279
   go_wp2
   go_ret2
   exact Zhd (by first | exact Below.refl _ _ | exact Zab w _) rfl (Zb9 _)
  ·have HV:Aside (Zrk (.txt s.data.toList) (.txt s2.data.toList)=some (.txt (s++s2).data.toList)):=by show _=_;rw[Zrk];simp
   generalize Zrk (.txt s.data.toList) (.txt s2.data.toList)=R at *
   clear ha hb
   rw[wtV,Ziy] at hw hwb
   go_enter func279,ntmps279
   go_wp2
   go_ret2
   exact Zkh (by first | exact Below.refl _ _ | exact Zab w _) HV.out (VL_txt _ _ _)
  ·clear ha hb
   go_enter func279,ntmps279
   go_wp2
   go_ret2
   exact Zhd (by first | exact Below.refl _ _ | exact Zab w _) rfl (Zb9 _)
 ·rcases Zcn hb with ⟨z2,rfl,rfl⟩ | ⟨s2,rfl,rfl⟩ | ⟨l2,ad2,cap2,cs2,rfl,rfl,hseg2,hvs2⟩
  ·clear ha hb hseg hvs
   go_enter func279,ntmps279
   go_wp2
   go_ret2
   exact Zhd (by first | exact (Zab w _).alloc (by simp) _ | exact Below.refl _ _ | exact Zab w _) rfl (Zb9 _)
  ·clear ha hb hseg hvs
   go_enter func279,ntmps279
   go_wp2
   go_ret2
   exact Zhd (by first | exact (Zab w _).alloc (by simp) _ | exact Below.refl _ _ | exact Zab w _) rfl (Zb9 _)
  ·have HV:Aside (Zrk (.lst l) (.lst l2)=some (.lst (l++l2))):=show _=_ by rw[Zrk]
   generalize Zrk (.lst l) (.lst l2)=R at *
   clear ha hb
   rw[wtV] at hw hwb
   have hl:=Zhc l
   have hl2:=Zhc l2
   have CI:Hid (∀X,Calls prog 173 #[.agg #[.slice ad l.length cap,.int .i64 ((Zbh l:Nat):Int)]] X _):=fun X=>Zgf ad l.length cap _ X hseg.capOr (by omega)
   have CJ:Hid (∀X,Calls prog 173 #[.agg #[.slice ad2 l2.length cap2,.int .i64 ((Zbh l2:Nat):Int)]] X _):=fun X=>Zgf ad2 l2.length cap2 _ X hseg2.capOr (by omega)
   have CC:Hid (∀(X:World) (b:Nat),Below w.heap.size w X→X.cell? ⟨b,0,none⟩=some (.slice ad l.length l.length)→X.cell? ⟨b,1,none⟩=some (.slice ad2 l2.length l2.length)→Calls prog 287 #[.slice (some ⟨b,0,none⟩) 2 2] X _):=fun X b hX c0 c1=>Zul D l.length l2.length _ _ cs cs2 X b (by omega) (by omega) (hseg.clip.below hX) (hseg2.clip.below hX) hvs.one_cell hvs2.one_cell c0 c1
   go_enter func279,ntmps279
   go_wp2_with fail
   have bX:Below w.heap.size w ((w.alloc (Obj.cells #[.slice ad l.length cap,.int .i64 ((Zbh l:Nat):Int)] 233)).alloc (Obj.cells #[.slice ad2 l2.length cap2,.int .i64 ((Zbh l2:Nat):Int)] 233)):=(Zab w _).alloc (by simp) _
   have q0:((w.alloc (Obj.cells #[.slice ad l.length cap,.int .i64 ((Zbh l:Nat):Int)] 233)).alloc (Obj.cells #[.slice ad2 l2.length cap2,.int .i64 ((Zbh l2:Nat):Int)] 233)).cell? ⟨w.heap.size,0,none⟩=some (.slice ad l.length cap):=by rw[World.cell?_alloc_lt _ _ ⟨w.heap.size,0,none⟩ (by simp)];simp
   have q1:((w.alloc (Obj.cells #[.slice ad l.length cap,.int .i64 ((Zbh l:Nat):Int)] 233)).alloc (Obj.cells #[.slice ad2 l2.length cap2,.int .i64 ((Zbh l2:Nat):Int)] 233)).cell? ⟨w.heap.size,1,none⟩=some (.int .i64 ((Zbh l:Nat):Int)):=by rw[World.cell?_alloc_lt _ _ ⟨w.heap.size,1,none⟩ (by simp)];simp
   have q2:((w.alloc (Obj.cells #[.slice ad l.length cap,.int .i64 ((Zbh l:Nat):Int)] 233)).alloc (Obj.cells #[.slice ad2 l2.length cap2,.int .i64 ((Zbh l2:Nat):Int)] 233)).cell? ⟨w.heap.size+1,0,none⟩=some (.slice ad2 l2.length cap2):=by rw[World.cell?_alloc_at _ _ _ _ (by simp)];rfl
   have q3:((w.alloc (Obj.cells #[.slice ad l.length cap,.int .i64 ((Zbh l:Nat):Int)] 233)).alloc (Obj.cells #[.slice ad2 l2.length cap2,.int .i64 ((Zbh l2:Nat):Int)] 233)).cell? ⟨w.heap.size+1,1,none⟩=some (.int .i64 ((Zbh l2:Nat):Int)):=by rw[World.cell?_alloc_at _ _ _ _ (by simp)];rfl
   generalize ((w.alloc (Obj.cells #[.slice ad l.length cap,.int .i64 ((Zbh l:Nat):Int)] 233)).alloc (Obj.cells #[.slice ad2 l2.length cap2,.int .i64 ((Zbh l2:Nat):Int)] 233))=X at *
   have CN:Hid (∀(A Y:World) (v:Value),Below w.heap.size w A→Below A.heap.size A Y→Y.ownsRow A.heap.size 81 1 v (l.length+l2.length) (cs++cs2)→Calls prog 201 #[v] Y fun e w'=>e=.returned (.agg #[v,.int .i64 ((Zbh (l++l2):Nat):Int)])∧Zcx D w R (.returned (.tuple #[.iface 233 (.agg #[v,.int .i64 ((Zbh (l++l2):Nat):Int)]),.nilIface])) w'):=fun A Y v hA hY own=>by
    have hAz:=hA.size
    have vY:VLs Y D (l++l2) (cs++cs2):=VLs.append ((hvs2.below hA).below hY) ((hvs.below hA).below hY)
    have sY:Zar Y D 81 1 v (l++l2).length (cs++cs2):=by
     rw[List.length_append]
     exact (Zar.of_row (Zao.of_owns own)).weaken fun k hk=>hD k (by omega)
    refine (Zei D (l++l2) v _ Y sY vY (by rw[Zje];omega)).mono fun e w' ⟨h1,h2⟩=>⟨h1,Zkh ((hA.trans (hY.mono hAz)).trans (h2.mono (Nat.le_trans hAz hY.size))) HV.out (Zxa (sY.below h2) (vY.below h2))⟩
   have bXz:=bX.size
   have BD:Hid (∀A B:World,Below X.drew.heap.size X.drew A→Below A.heap.size A B→Below w.heap.size w B):=fun A B h1 h2=>((bX.drew).trans (h1.mono bXz)).trans (h2.mono (Nat.le_trans bXz h1.size))
   clear hvs hvs2 hseg hseg2 HV bX hD
   generalize Zbh (l++l2)=W at *
   go_region_with (first
    |(go_at_call 173;refine (CJ.out _).mono ?_;rintro e w2 ⟨rfl,hb2⟩;have bB:=BD.out _ _ hb1 hb2)
    |(go_at_call 173;refine (CI.out _).mono ?_;rintro e w1 ⟨rfl,hb1⟩;have r2:=Below.cellv hb1 q2;have r3:=Below.cellv hb1 q3)
    |(go_at_call 287;go_loud (refine (CC.out _ _ (bB.alloc bB.size _) (by simp) (by simp)).mono ?_;rintro e w3 ⟨v3,rfl,own3,hb3⟩;obtain⟨a3,k3,rfl⟩:=Zaf own3))
    |(go_at_call 201;go_loud (refine (CN.out _ _ _ (bB.alloc bB.size _) hb3 own3).mono ?_;rintro e w4 ⟨rfl,hv4⟩)))
   all_goals (go_wp2_with fail)
   all_goals (go_ret2;exact hv4)
theorem ba_of {b:ByteArray}{l:List UInt8}(h:b.data.toList=l):b=⟨l.toArray⟩:=by
 cases b with
 | mk d=>simp only at h;subst h;simp
theorem Zpb {D:Nat→Prop}{w w':World}{o:Option PV}{e:Ending}(h:Zcx D w o e w'):∃u f,e=.returned (.tuple #[u,f]):=by
 obtain⟨_,⟨v,x,_,h,_⟩ | ⟨_,u,f,_,h⟩⟩:=h
 ·exact⟨_,_,h⟩
 ·exact⟨_,_,h⟩
theorem op2_at (a b:PV):op2 [97,116] a b=at2 a b:=by cases a<;>cases b<;>rfl
theorem op2_join (a b:PV):op2 [106,111,105,110] a b=Zrk a b:=by cases a<;>cases b<;>rfl
theorem Zyf (D:Nat→Prop)(a b:PV)(x y:Value)(w:World)(ha:VL w D a x)(hb:VL w D b y)(hw:wtV a≤600):
  Calls prog 258 #[.string ⟨#[101,113]⟩,x,y] w (Zcx D w (op2 [101,113] a b)):=by
 have CS:=same_val D a b x y w (by omega) ha hb
 obtain⟨tx,xx,rfl⟩:=ha.iface
 obtain⟨ty,yy,rfl⟩:=hb.iface
 have HV:Aside (op2 [101,113] a b=some (.num (if Zcl a b then 1 else 0))):=show _=_ from rfl
 generalize op2 [101,113] a b=R at *
 generalize Zcl a b=t at *
 have CT:=fun X=>Zm4 t X
 generalize (if t=true then (1:Int) else 0)=q at *
 clear ha hb
 go_enter func258,ntmps258
 go_wp2_with (first
  |(go_at_call 272;refine CS.mono ?_;rintro e w1 ⟨rfl,hb1⟩)
  |(go_at_call 277;refine (CT _).mono ?_;rintro e w2 ⟨rfl,rfl⟩))
 go_ret2
 exact Zkh hb1 HV.out (Zkf _ _ _)
theorem Zyg (D:Nat→Prop)(a b:PV)(x y:Value)(w:World)(ha:VL w D a x)(hb:VL w D b y)(hw:wtV a≤600)(_hwb:wtV b≤600)(_hD:∀g,w.heap.size≤g→D g):
  Calls prog 258 #[.string ⟨#[97,116]⟩,x,y] w (Zcx D w (op2 [97,116] a b)):=by
 rw[op2_at]
 have CS:=Zy2 D a b x y w ha hb hw
 obtain⟨tx,xx,rfl⟩:=ha.iface
 obtain⟨ty,yy,rfl⟩:=hb.iface
 generalize at2 a b=R at *
 clear ha hb
 go_enter func258,ntmps258
 go_wp2_with (go_at_call 278;refine CS.mono ?_;rintro e w1 hv;obtain⟨u,f,rfl⟩:=Zpb hv)
 go_ret2
 exact hv
theorem Zs9 (D:Nat→Prop)(a b:PV)(x y:Value)(w:World)(ha:VL w D a x)(hb:VL w D b y)(hw:wtV a≤600)(hwb:wtV b≤600)(hD:∀g,w.heap.size≤g→D g):
  Calls prog 258 #[.string ⟨#[106,111,105,110]⟩,x,y] w (Zcx D w (op2 [106,111,105,110] a b)):=by
 rw[op2_join]
 have CS:=Zyz D a b x y w ha hb hw hwb hD
 obtain⟨tx,xx,rfl⟩:=ha.iface
 obtain⟨ty,yy,rfl⟩:=hb.iface
 generalize Zrk a b=R at *
 clear ha hb
 go_enter func258,ntmps258
 go_wp2_with (go_at_call 279;refine CS.mono ?_;rintro e w1 hv;obtain⟨u,f,rfl⟩:=Zpb hv)
 go_ret2
 exact hv
theorem Zve (D:Nat→Prop)(a b:PV)(x y:Value)(w:World)(ha:VL w D a x)(hb:VL w D b y):
  Calls prog 258 #[.string ⟨#[97,100,100]⟩,x,y] w (Zcx D w (op2 [97,100,100] a b)):=by
 rcases Zcn ha with ⟨z,rfl,rfl⟩ | ⟨s,rfl,rfl⟩ | ⟨l,ad,cap,cs,rfl,rfl,hseg,hvs⟩
 ·rcases Zcn hb with ⟨z2,rfl,rfl⟩ | ⟨s2,rfl,rfl⟩ | ⟨l2,ad2,cap2,cs2,rfl,rfl,_,_⟩
  ·have HV:Aside (op2 [97,100,100] (.num z) (.num z2)=some (.num (wrap64 (z+z2)))):=show _=_ from rfl
   generalize op2 [97,100,100] (.num z) (.num z2)=R at *
   clear ha hb
   go_enter func258,ntmps258
   go_wp2
   go_ret2
   exact Zkh (Below.refl _ _) HV.out (Zkf _ _ _)
  all_goals
   clear ha hb
   go_enter func258,ntmps258
   go_wp2
   go_ret2
   exact Zhd (Below.refl _ _) rfl (Zb9 _)
 all_goals
  rcases Zcn hb with ⟨z2,rfl,rfl⟩ | ⟨s2,rfl,rfl⟩ | ⟨l2,ad2,cap2,cs2,rfl,rfl,_,_⟩
  all_goals
   clear ha hb
   go_enter func258,ntmps258
   go_wp2
   go_ret2
   exact Zhd (Below.refl _ _) rfl (Zb9 _)
theorem Zvb (D:Nat→Prop)(a b:PV)(x y:Value)(w:World)(ha:VL w D a x)(hb:VL w D b y):
  Calls prog 258 #[.string ⟨#[115,117,98]⟩,x,y] w (Zcx D w (op2 [115,117,98] a b)):=by
 rcases Zcn ha with ⟨z,rfl,rfl⟩ | ⟨s,rfl,rfl⟩ | ⟨l,ad,cap,cs,rfl,rfl,hseg,hvs⟩
 ·rcases Zcn hb with ⟨z2,rfl,rfl⟩ | ⟨s2,rfl,rfl⟩ | ⟨l2,ad2,cap2,cs2,rfl,rfl,_,_⟩
  ·have HV:Aside (op2 [115,117,98] (.num z) (.num z2)=some (.num (wrap64 (z-z2)))):=show _=_ from rfl
   generalize op2 [115,117,98] (.num z) (.num z2)=R at *
   clear ha hb
   go_enter func258,ntmps258
   go_wp2
   go_ret2
   exact Zkh (Below.refl _ _) HV.out (Zkf _ _ _)
  all_goals
   clear ha hb
   go_enter func258,ntmps258
   go_wp2
   go_ret2
   exact Zhd (Below.refl _ _) rfl (Zb9 _)
 all_goals
  rcases Zcn hb with ⟨z2,rfl,rfl⟩ | ⟨s2,rfl,rfl⟩ | ⟨l2,ad2,cap2,cs2,rfl,rfl,_,_⟩
  all_goals
   clear ha hb
   go_enter func258,ntmps258
   go_wp2
   go_ret2
   exact Zhd (Below.refl _ _) rfl (Zb9 _)
theorem Zvc (D:Nat→Prop)(a b:PV)(x y:Value)(w:World)(ha:VL w D a x)(hb:VL w D b y):
  Calls prog 258 #[.string ⟨#[109,117,108]⟩,x,y] w (Zcx D w (op2 [109,117,108] a b)):=by
 rcases Zcn ha with ⟨z,rfl,rfl⟩ | ⟨s,rfl,rfl⟩ | ⟨l,ad,cap,cs,rfl,rfl,hseg,hvs⟩
 ·rcases Zcn hb with ⟨z2,rfl,rfl⟩ | ⟨s2,rfl,rfl⟩ | ⟨l2,ad2,cap2,cs2,rfl,rfl,_,_⟩
  ·have HV:Aside (op2 [109,117,108] (.num z) (.num z2)=some (.num (wrap64 (z*z2)))):=show _=_ from rfl
   generalize op2 [109,117,108] (.num z) (.num z2)=R at *
   clear ha hb
   go_enter func258,ntmps258
   go_wp2
   go_ret2
   exact Zkh (Below.refl _ _) HV.out (Zkf _ _ _)
  all_goals
   clear ha hb
   go_enter func258,ntmps258
   go_wp2
   go_ret2
   exact Zhd (Below.refl _ _) rfl (Zb9 _)
 all_goals
  rcases Zcn hb with ⟨z2,rfl,rfl⟩ | ⟨s2,rfl,rfl⟩ | ⟨l2,ad2,cap2,cs2,rfl,rfl,_,_⟩
  all_goals
   clear ha hb
   go_enter func258,ntmps258
   go_wp2
   go_ret2
   exact Zhd (Below.refl _ _) rfl (Zb9 _)
theorem Zs8 (D:Nat→Prop)(a b:PV)(x y:Value)(w:World)(ha:VL w D a x)(hb:VL w D b y):
  Calls prog 258 #[.string ⟨#[108,101,115,115]⟩,x,y] w (Zcx D w (op2 [108,101,115,115] a b)):=by
 rcases Zcn ha with ⟨z,rfl,rfl⟩ | ⟨s,rfl,rfl⟩ | ⟨l,ad,cap,cs,rfl,rfl,hseg,hvs⟩
 ·rcases Zcn hb with ⟨z2,rfl,rfl⟩ | ⟨s2,rfl,rfl⟩ | ⟨l2,ad2,cap2,cs2,rfl,rfl,_,_⟩
  ·have HV:Aside (op2 [108,101,115,115] (.num z) (.num z2)=some (.num (if decide (z<z2) then 1 else 0))):=show _=_ from rfl
   generalize op2 [108,101,115,115] (.num z) (.num z2)=R at *
   clear ha hb
   by_cases hz:z<z2
   ·rw[show decide (z<z2)=true from by simpa using hz] at HV
    have CT:∀X,Calls prog 277 #[.bool true] X fun e w'=>e=.returned (.iface 228 (.int .i64 1))∧w'=X:=fun X=>Zm4 true X
    go_enter func258,ntmps258
    go_wp2_with (go_at_call 277;refine (CT _).mono ?_;rintro e w2 ⟨rfl,rfl⟩)
    go_ret2
    exact Zkh (Below.refl _ _) HV.out (Zkf _ _ _)
   ·rw[show decide (z<z2)=false from by simpa using hz] at HV
    have CT:∀X,Calls prog 277 #[.bool false] X fun e w'=>e=.returned (.iface 228 (.int .i64 0))∧w'=X:=fun X=>Zm4 false X
    go_enter func258,ntmps258
    go_wp2_with (go_at_call 277;refine (CT _).mono ?_;rintro e w2 ⟨rfl,rfl⟩)
    go_ret2
    exact Zkh (Below.refl _ _) HV.out (Zkf _ _ _)
  all_goals
   clear ha hb
   go_enter func258,ntmps258
   go_wp2
   go_ret2
   exact Zhd (Below.refl _ _) rfl (Zb9 _)
 all_goals
  rcases Zcn hb with ⟨z2,rfl,rfl⟩ | ⟨s2,rfl,rfl⟩ | ⟨l2,ad2,cap2,cs2,rfl,rfl,_,_⟩
  all_goals
   clear ha hb
   go_enter func258,ntmps258
   go_wp2
   go_ret2
   exact Zhd (Below.refl _ _) rfl (Zb9 _)
theorem Zvd (D:Nat→Prop)(wd:List UInt8)(ob:ByteArray)(a b:PV)(x y:Value)(w:World)(hsh:Za3 wd=some (false,2))(hob:ob.data.toList=wd)(ha:VL w D a x)(hb:VL w D b y)(hw:wtV a≤600)(hwb:wtV b≤600)(hD:∀g,w.heap.size≤g→D g):
  Calls prog 258 #[.string ob,x,y] w (Zcx D w (op2 wd a b)):=by
 rw[ba_of hob]
 rcases Zdx wd with rfl | rfl | rfl | rfl | rfl | rfl | rfl | rfl | rfl | rfl | rfl | rfl | rfl | rfl | ⟨h,_⟩
 ·exact absurd hsh (by decide)
 ·exact absurd hsh (by decide)
 ·exact absurd hsh (by decide)
 ·exact absurd hsh (by decide)
 ·exact absurd hsh (by decide)
 ·exact absurd hsh (by decide)
 ·exact absurd hsh (by decide)
 ·exact Zve D a b x y w ha hb
 ·exact Zvb D a b x y w ha hb
 ·exact Zvc D a b x y w ha hb
 ·exact Zyf D a b x y w ha hb hw
 ·exact Zs8 D a b x y w ha hb
 ·exact Zyg D a b x y w ha hb hw hwb hD
 ·exact Zs9 D a b x y w ha hb hw hwb hD
 ·rw[h] at hsh;cases hsh
end Go.Proofs.YtliapghpeoaonaaGreatDoor
