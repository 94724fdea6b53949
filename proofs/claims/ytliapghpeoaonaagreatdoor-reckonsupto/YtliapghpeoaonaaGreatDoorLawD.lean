/-
  The law's code and is, at what Check answers.
-/
import Derived.Test.YtliapghpeoaonaaGreatDoorLawA
import Derived.Deep.QuietTactic
set_option maxHeartbeats 4000000
set_option maxRecDepth 8000
namespace Go.Proofs.YtliapghpeoaonaaGreatDoor
open Go.Proofs.Tryz
open Go.RowKit
attribute [local go_sem ↓] Go.wp_at_zero Go.wp_at_succ
structure Zed (w:World)(E:Nat→Addr):Prop where
 er:Errs w E
 e8:w.cell? ⟨0,0,none⟩=some (Za8 (E 8))
 e9:w.cell? ⟨1,0,none⟩=some (Za8 (E 9))
 et:w.cell? ⟨9,0,none⟩=some (.iface 334 (.agg #[.pointer (some ⟨15,51,none⟩)]))
 row:∀i,1≤i→i≤9→∃c t,w.heap[(E i).block]?=some (.cells c t (0,0))
 ne:∀i j,1≤i→i≤9→1≤j→j≤9→i≠j→E i≠E j
theorem Zed.below {w w':World}{E:Nat→Addr}(h:Zed w E)(hb:Below w.heap.size w w'):Zed w' E :=
 ⟨h.er.below hb,Below.cellv hb h.e8,Below.cellv hb h.e9,Below.cellv hb h.et,fun i h1 h2=>by
  obtain⟨c,t,hc⟩:=h.row i h1 h2
  exact⟨c,t,by rw[hb.block _ (Zag hc)];exact hc⟩,h.ne⟩
theorem is_no {w:World}{E:Nat→Addr}(h:Zed w E)(c x p:Nat)(h1:1≤c)(h2:c≤9)(h3:1≤x)(h4:x≤9)(hne:c≠x):
  Calls prog 71 #[Za2 p (E c),Za8 (E x)] w fun e w'=>e=.returned (.bool false)∧Below w.heap.size w w':=by
 obtain⟨c1,t1,r1⟩:=h.row c h1 h2
 obtain⟨c2,t2,r2⟩:=h.row x h3 h4
 exact Zo4 p (E c) (E x) c1 c2 t1 t2 w (h.ne c x h1 h2 h3 h4 hne) r1 r2
theorem Zw4 (w:World):Calls prog 37 #[.nilIface] w fun e w'=>e=.returned (.tuple #[.int .i64 0,.int .i64 0])∧Below w.heap.size w w':=by
 go_enter func37,ntmps37
 go_wp2
 go_ret2
 exact⟨rfl,Below.refl _ _⟩
abbrev Zmu:Obj:=.cells #[.int .i64 0,.nilIface] 163
theorem Zed.touch {X w':World}{E:Nat→Addr}{o:Obj}(h:Zed X E)(ht:Zaa (·=X.heap.size) (X.alloc o) w'):Zed w' E:=by
 have key:∀{p:Addr} {v:Value},X.cell? p=some v→w'.cell? p=some v:=fun hc=>ht.cell (Zac hc) (Nat.ne_of_lt (Zae hc))
 exact⟨⟨key h.er.e1,key h.er.e2,key h.er.e3,key h.er.e4,key h.er.e5,key h.er.e6,key h.er.e7⟩,key h.e8,key h.e9,key h.et,fun i h1 h2=>by
  obtain⟨c,t,hc⟩:=h.row i h1 h2
  have hl:=Zag hc
  exact⟨c,t,by rw[ht.block _ (by simp;omega) (Nat.ne_of_lt hl),(Zab X o).block _ hl];exact hc⟩,h.ne⟩
theorem Zed.all {w:World}{E:Nat→Addr}(S:Zed w E):w.cell? ⟨2,0,none⟩=some (Za8 (E 1))∧w.cell? ⟨3,0,none⟩=some (Za8 (E 2))∧w.cell? ⟨4,0,none⟩=some (Za8 (E 3))∧w.cell? ⟨5,0,none⟩=some (Za8 (E 4))∧w.cell? ⟨6,0,none⟩=some (Za8 (E 5))∧w.cell? ⟨7,0,none⟩=some (Za8 (E 6))∧w.cell? ⟨8,0,none⟩=some (Za8 (E 7))∧w.cell? ⟨0,0,none⟩=some (Za8 (E 8))∧w.cell? ⟨1,0,none⟩=some (Za8 (E 9)):=⟨S.er.e1,S.er.e2,S.er.e3,S.er.e4,S.er.e5,S.er.e6,S.er.e7,S.e8,S.e9⟩
theorem Zb3 {w:World}{E:Nat→Addr}(h:Zed w E)(c x p:Nat)(hc:(1≤c∧c≤9)∧(1≤x∧x≤9)∧c≠x):
  Calls prog 71 #[Za2 p (E c),Za8 (E x)] w fun e w'=>e=.returned (.bool false)∧Below w.heap.size w w':=is_no h c x p hc.1.1 hc.1.2 hc.2.1.1 hc.2.1.2 hc.2.2
theorem Zdw {X w':World}{o:Obj}(ht:Zaa (·=X.heap.size) (X.alloc o) w'):Below X.heap.size X w':=Zaa.fresh (Zab X o) ht fun _k hk=>Nat.ne_of_lt hk
theorem code_1 (p:Nat)(E:Nat→Addr)(w:World)(S:Zed w E):Calls prog 37 #[Za2 p (E 1)] w fun e w'=>e=.returned (.tuple #[.int .i64 1,.int .i64 ((p:Nat):Int)])∧Below w.heap.size w w':=by
 have B:Below w.heap.size w w:=Below.refl _ _
 have e8:=S.e8
 have e9:=S.e9
 go_enter func37,ntmps37
 go_wp2_with (first
  |(go_at_call 71;have m1:=mA;clear mA;refine (Zcz p (E 1) _).mono ?_;rintro e w2 ⟨rfl,hb⟩;have S:=S.below hb;obtain⟨e1,e2,e3,e4,e5,e6,e7,e8,e9⟩:=S.all;have B:=B.trans (hb.mono B.size);have pc:=Below.cellv hb pc)
  |(go_at_call 72;have mA:=m9;clear m9;go_loud (refine (Zon p (E 1) _ (.int .i64 0) .nilIface _ (S.below (Zab _ Zmu)).et (by simp) (by simp) (by simp) (by simp)).mono ?_;rintro e w2 ⟨rfl,htA,pc⟩;have hb:=Zdw htA;have S:=S.touch htA;obtain⟨e1,e2,e3,e4,e5,e6,e7,e8,e9⟩:=S.all;have B:=B.trans (hb.mono B.size)))
  |(go_at_call 71;have m9:=m8;clear m8;refine (Zb3 S 1 9 p (by decide)).mono ?_;rintro e w2 ⟨rfl,hb⟩;have S:=S.below hb;obtain⟨e1,e2,e3,e4,e5,e6,e7,e8,e9⟩:=S.all;have B:=B.trans (hb.mono B.size))
  |(go_at_call 71;have m8:=True.intro;refine (Zb3 S 1 8 p (by decide)).mono ?_;rintro e w2 ⟨rfl,hb⟩;have S:=S.below hb;obtain⟨e1,e2,e3,e4,e5,e6,e7,e8,e9⟩:=S.all;have B:=B.trans (hb.mono B.size)))
 go_quiet (fail)
 go_wp2
 go_ret2
 exact⟨rfl,below_drewN B _⟩
theorem code_2 (p:Nat)(E:Nat→Addr)(w:World)(S:Zed w E):Calls prog 37 #[Za2 p (E 2)] w fun e w'=>e=.returned (.tuple #[.int .i64 2,.int .i64 ((p:Nat):Int)])∧Below w.heap.size w w':=by
 have B:Below w.heap.size w w:=Below.refl _ _
 have e8:=S.e8
 have e9:=S.e9
 go_enter func37,ntmps37
 go_wp2_with (first
  |(go_at_call 71;have m2:=m1;clear m1;refine (Zcz p (E 2) _).mono ?_;rintro e w2 ⟨rfl,hb⟩;have S:=S.below hb;obtain⟨e1,e2,e3,e4,e5,e6,e7,e8,e9⟩:=S.all;have B:=B.trans (hb.mono B.size);have pc:=Below.cellv hb pc)
  |(go_at_call 71;have m1:=mA;clear mA;refine (Zb3 S 2 1 p (by decide)).mono ?_;rintro e w2 ⟨rfl,hb⟩;have S:=S.below hb;obtain⟨e1,e2,e3,e4,e5,e6,e7,e8,e9⟩:=S.all;have B:=B.trans (hb.mono B.size);have pc:=Below.cellv hb pc)
  |(go_at_call 72;have mA:=m9;clear m9;go_loud (refine (Zon p (E 2) _ (.int .i64 0) .nilIface _ (S.below (Zab _ Zmu)).et (by simp) (by simp) (by simp) (by simp)).mono ?_;rintro e w2 ⟨rfl,htA,pc⟩;have hb:=Zdw htA;have S:=S.touch htA;obtain⟨e1,e2,e3,e4,e5,e6,e7,e8,e9⟩:=S.all;have B:=B.trans (hb.mono B.size)))
  |(go_at_call 71;have m9:=m8;clear m8;refine (Zb3 S 2 9 p (by decide)).mono ?_;rintro e w2 ⟨rfl,hb⟩;have S:=S.below hb;obtain⟨e1,e2,e3,e4,e5,e6,e7,e8,e9⟩:=S.all;have B:=B.trans (hb.mono B.size))
  |(go_at_call 71;have m8:=True.intro;refine (Zb3 S 2 8 p (by decide)).mono ?_;rintro e w2 ⟨rfl,hb⟩;have S:=S.below hb;obtain⟨e1,e2,e3,e4,e5,e6,e7,e8,e9⟩:=S.all;have B:=B.trans (hb.mono B.size)))
 go_quiet (fail)
 go_wp2
 go_ret2
 exact⟨rfl,below_drewN B _⟩
theorem code_3 (p:Nat)(E:Nat→Addr)(w:World)(S:Zed w E):Calls prog 37 #[Za2 p (E 3)] w fun e w'=>e=.returned (.tuple #[.int .i64 3,.int .i64 ((p:Nat):Int)])∧Below w.heap.size w w':=by
 have B:Below w.heap.size w w:=Below.refl _ _
 have e8:=S.e8
 have e9:=S.e9
 go_enter func37,ntmps37
 go_wp2_with (first
  |(go_at_call 71;have m3:=m2;clear m2;refine (Zcz p (E 3) _).mono ?_;rintro e w2 ⟨rfl,hb⟩;have S:=S.below hb;obtain⟨e1,e2,e3,e4,e5,e6,e7,e8,e9⟩:=S.all;have B:=B.trans (hb.mono B.size);have pc:=Below.cellv hb pc)
  |(go_at_call 71;have m2:=m1;clear m1;refine (Zb3 S 3 2 p (by decide)).mono ?_;rintro e w2 ⟨rfl,hb⟩;have S:=S.below hb;obtain⟨e1,e2,e3,e4,e5,e6,e7,e8,e9⟩:=S.all;have B:=B.trans (hb.mono B.size);have pc:=Below.cellv hb pc)
  |(go_at_call 71;have m1:=mA;clear mA;refine (Zb3 S 3 1 p (by decide)).mono ?_;rintro e w2 ⟨rfl,hb⟩;have S:=S.below hb;obtain⟨e1,e2,e3,e4,e5,e6,e7,e8,e9⟩:=S.all;have B:=B.trans (hb.mono B.size);have pc:=Below.cellv hb pc)
  |(go_at_call 72;have mA:=m9;clear m9;go_loud (refine (Zon p (E 3) _ (.int .i64 0) .nilIface _ (S.below (Zab _ Zmu)).et (by simp) (by simp) (by simp) (by simp)).mono ?_;rintro e w2 ⟨rfl,htA,pc⟩;have hb:=Zdw htA;have S:=S.touch htA;obtain⟨e1,e2,e3,e4,e5,e6,e7,e8,e9⟩:=S.all;have B:=B.trans (hb.mono B.size)))
  |(go_at_call 71;have m9:=m8;clear m8;refine (Zb3 S 3 9 p (by decide)).mono ?_;rintro e w2 ⟨rfl,hb⟩;have S:=S.below hb;obtain⟨e1,e2,e3,e4,e5,e6,e7,e8,e9⟩:=S.all;have B:=B.trans (hb.mono B.size))
  |(go_at_call 71;have m8:=True.intro;refine (Zb3 S 3 8 p (by decide)).mono ?_;rintro e w2 ⟨rfl,hb⟩;have S:=S.below hb;obtain⟨e1,e2,e3,e4,e5,e6,e7,e8,e9⟩:=S.all;have B:=B.trans (hb.mono B.size)))
 go_quiet (fail)
 go_wp2
 go_ret2
 exact⟨rfl,below_drewN B _⟩
theorem code_4 (p:Nat)(E:Nat→Addr)(w:World)(S:Zed w E):Calls prog 37 #[Za2 p (E 4)] w fun e w'=>e=.returned (.tuple #[.int .i64 4,.int .i64 ((p:Nat):Int)])∧Below w.heap.size w w':=by
 have B:Below w.heap.size w w:=Below.refl _ _
 have e8:=S.e8
 have e9:=S.e9
 go_enter func37,ntmps37
 go_wp2_with (first
  |(go_at_call 71;have m4:=m3;clear m3;refine (Zcz p (E 4) _).mono ?_;rintro e w2 ⟨rfl,hb⟩;have S:=S.below hb;obtain⟨e1,e2,e3,e4,e5,e6,e7,e8,e9⟩:=S.all;have B:=B.trans (hb.mono B.size);have pc:=Below.cellv hb pc)
  |(go_at_call 71;have m3:=m2;clear m2;refine (Zb3 S 4 3 p (by decide)).mono ?_;rintro e w2 ⟨rfl,hb⟩;have S:=S.below hb;obtain⟨e1,e2,e3,e4,e5,e6,e7,e8,e9⟩:=S.all;have B:=B.trans (hb.mono B.size);have pc:=Below.cellv hb pc)
  |(go_at_call 71;have m2:=m1;clear m1;refine (Zb3 S 4 2 p (by decide)).mono ?_;rintro e w2 ⟨rfl,hb⟩;have S:=S.below hb;obtain⟨e1,e2,e3,e4,e5,e6,e7,e8,e9⟩:=S.all;have B:=B.trans (hb.mono B.size);have pc:=Below.cellv hb pc)
  |(go_at_call 71;have m1:=mA;clear mA;refine (Zb3 S 4 1 p (by decide)).mono ?_;rintro e w2 ⟨rfl,hb⟩;have S:=S.below hb;obtain⟨e1,e2,e3,e4,e5,e6,e7,e8,e9⟩:=S.all;have B:=B.trans (hb.mono B.size);have pc:=Below.cellv hb pc)
  |(go_at_call 72;have mA:=m9;clear m9;go_loud (refine (Zon p (E 4) _ (.int .i64 0) .nilIface _ (S.below (Zab _ Zmu)).et (by simp) (by simp) (by simp) (by simp)).mono ?_;rintro e w2 ⟨rfl,htA,pc⟩;have hb:=Zdw htA;have S:=S.touch htA;obtain⟨e1,e2,e3,e4,e5,e6,e7,e8,e9⟩:=S.all;have B:=B.trans (hb.mono B.size)))
  |(go_at_call 71;have m9:=m8;clear m8;refine (Zb3 S 4 9 p (by decide)).mono ?_;rintro e w2 ⟨rfl,hb⟩;have S:=S.below hb;obtain⟨e1,e2,e3,e4,e5,e6,e7,e8,e9⟩:=S.all;have B:=B.trans (hb.mono B.size))
  |(go_at_call 71;have m8:=True.intro;refine (Zb3 S 4 8 p (by decide)).mono ?_;rintro e w2 ⟨rfl,hb⟩;have S:=S.below hb;obtain⟨e1,e2,e3,e4,e5,e6,e7,e8,e9⟩:=S.all;have B:=B.trans (hb.mono B.size)))
 go_quiet (fail)
 go_wp2
 go_ret2
 exact⟨rfl,below_drewN B _⟩
theorem code_5 (p:Nat)(E:Nat→Addr)(w:World)(S:Zed w E):Calls prog 37 #[Za2 p (E 5)] w fun e w'=>e=.returned (.tuple #[.int .i64 5,.int .i64 ((p:Nat):Int)])∧Below w.heap.size w w':=by
 have B:Below w.heap.size w w:=Below.refl _ _
 have e8:=S.e8
 have e9:=S.e9
 go_enter func37,ntmps37
 go_wp2_with (first
  |(go_at_call 71;have m5:=m4;clear m4;refine (Zcz p (E 5) _).mono ?_;rintro e w2 ⟨rfl,hb⟩;have S:=S.below hb;obtain⟨e1,e2,e3,e4,e5,e6,e7,e8,e9⟩:=S.all;have B:=B.trans (hb.mono B.size);have pc:=Below.cellv hb pc)
  |(go_at_call 71;have m4:=m3;clear m3;refine (Zb3 S 5 4 p (by decide)).mono ?_;rintro e w2 ⟨rfl,hb⟩;have S:=S.below hb;obtain⟨e1,e2,e3,e4,e5,e6,e7,e8,e9⟩:=S.all;have B:=B.trans (hb.mono B.size);have pc:=Below.cellv hb pc)
  |(go_at_call 71;have m3:=m2;clear m2;refine (Zb3 S 5 3 p (by decide)).mono ?_;rintro e w2 ⟨rfl,hb⟩;have S:=S.below hb;obtain⟨e1,e2,e3,e4,e5,e6,e7,e8,e9⟩:=S.all;have B:=B.trans (hb.mono B.size);have pc:=Below.cellv hb pc)
  |(go_at_call 71;have m2:=m1;clear m1;refine (Zb3 S 5 2 p (by decide)).mono ?_;rintro e w2 ⟨rfl,hb⟩;have S:=S.below hb;obtain⟨e1,e2,e3,e4,e5,e6,e7,e8,e9⟩:=S.all;have B:=B.trans (hb.mono B.size);have pc:=Below.cellv hb pc)
  |(go_at_call 71;have m1:=mA;clear mA;refine (Zb3 S 5 1 p (by decide)).mono ?_;rintro e w2 ⟨rfl,hb⟩;have S:=S.below hb;obtain⟨e1,e2,e3,e4,e5,e6,e7,e8,e9⟩:=S.all;have B:=B.trans (hb.mono B.size);have pc:=Below.cellv hb pc)
  |(go_at_call 72;have mA:=m9;clear m9;go_loud (refine (Zon p (E 5) _ (.int .i64 0) .nilIface _ (S.below (Zab _ Zmu)).et (by simp) (by simp) (by simp) (by simp)).mono ?_;rintro e w2 ⟨rfl,htA,pc⟩;have hb:=Zdw htA;have S:=S.touch htA;obtain⟨e1,e2,e3,e4,e5,e6,e7,e8,e9⟩:=S.all;have B:=B.trans (hb.mono B.size)))
  |(go_at_call 71;have m9:=m8;clear m8;refine (Zb3 S 5 9 p (by decide)).mono ?_;rintro e w2 ⟨rfl,hb⟩;have S:=S.below hb;obtain⟨e1,e2,e3,e4,e5,e6,e7,e8,e9⟩:=S.all;have B:=B.trans (hb.mono B.size))
  |(go_at_call 71;have m8:=True.intro;refine (Zb3 S 5 8 p (by decide)).mono ?_;rintro e w2 ⟨rfl,hb⟩;have S:=S.below hb;obtain⟨e1,e2,e3,e4,e5,e6,e7,e8,e9⟩:=S.all;have B:=B.trans (hb.mono B.size)))
 go_quiet (fail)
 go_wp2
 go_ret2
 exact⟨rfl,below_drewN B _⟩
theorem code_6 (p:Nat)(E:Nat→Addr)(w:World)(S:Zed w E):Calls prog 37 #[Za2 p (E 6)] w fun e w'=>e=.returned (.tuple #[.int .i64 6,.int .i64 ((p:Nat):Int)])∧Below w.heap.size w w':=by
 have B:Below w.heap.size w w:=Below.refl _ _
 have e8:=S.e8
 have e9:=S.e9
 go_enter func37,ntmps37
 go_wp2_with (first
  |(go_at_call 71;have m6:=m5;clear m5;refine (Zcz p (E 6) _).mono ?_;rintro e w2 ⟨rfl,hb⟩;have S:=S.below hb;obtain⟨e1,e2,e3,e4,e5,e6,e7,e8,e9⟩:=S.all;have B:=B.trans (hb.mono B.size);have pc:=Below.cellv hb pc)
  |(go_at_call 71;have m5:=m4;clear m4;refine (Zb3 S 6 5 p (by decide)).mono ?_;rintro e w2 ⟨rfl,hb⟩;have S:=S.below hb;obtain⟨e1,e2,e3,e4,e5,e6,e7,e8,e9⟩:=S.all;have B:=B.trans (hb.mono B.size);have pc:=Below.cellv hb pc)
  |(go_at_call 71;have m4:=m3;clear m3;refine (Zb3 S 6 4 p (by decide)).mono ?_;rintro e w2 ⟨rfl,hb⟩;have S:=S.below hb;obtain⟨e1,e2,e3,e4,e5,e6,e7,e8,e9⟩:=S.all;have B:=B.trans (hb.mono B.size);have pc:=Below.cellv hb pc)
  |(go_at_call 71;have m3:=m2;clear m2;refine (Zb3 S 6 3 p (by decide)).mono ?_;rintro e w2 ⟨rfl,hb⟩;have S:=S.below hb;obtain⟨e1,e2,e3,e4,e5,e6,e7,e8,e9⟩:=S.all;have B:=B.trans (hb.mono B.size);have pc:=Below.cellv hb pc)
  |(go_at_call 71;have m2:=m1;clear m1;refine (Zb3 S 6 2 p (by decide)).mono ?_;rintro e w2 ⟨rfl,hb⟩;have S:=S.below hb;obtain⟨e1,e2,e3,e4,e5,e6,e7,e8,e9⟩:=S.all;have B:=B.trans (hb.mono B.size);have pc:=Below.cellv hb pc)
  |(go_at_call 71;have m1:=mA;clear mA;refine (Zb3 S 6 1 p (by decide)).mono ?_;rintro e w2 ⟨rfl,hb⟩;have S:=S.below hb;obtain⟨e1,e2,e3,e4,e5,e6,e7,e8,e9⟩:=S.all;have B:=B.trans (hb.mono B.size);have pc:=Below.cellv hb pc)
  |(go_at_call 72;have mA:=m9;clear m9;go_loud (refine (Zon p (E 6) _ (.int .i64 0) .nilIface _ (S.below (Zab _ Zmu)).et (by simp) (by simp) (by simp) (by simp)).mono ?_;rintro e w2 ⟨rfl,htA,pc⟩;have hb:=Zdw htA;have S:=S.touch htA;obtain⟨e1,e2,e3,e4,e5,e6,e7,e8,e9⟩:=S.all;have B:=B.trans (hb.mono B.size)))
  |(go_at_call 71;have m9:=m8;clear m8;refine (Zb3 S 6 9 p (by decide)).mono ?_;rintro e w2 ⟨rfl,hb⟩;have S:=S.below hb;obtain⟨e1,e2,e3,e4,e5,e6,e7,e8,e9⟩:=S.all;have B:=B.trans (hb.mono B.size))
  |(go_at_call 71;have m8:=True.intro;refine (Zb3 S 6 8 p (by decide)).mono ?_;rintro e w2 ⟨rfl,hb⟩;have S:=S.below hb;obtain⟨e1,e2,e3,e4,e5,e6,e7,e8,e9⟩:=S.all;have B:=B.trans (hb.mono B.size)))
 go_quiet (fail)
 go_wp2
 go_ret2
 exact⟨rfl,below_drewN B _⟩
theorem code_7 (p:Nat)(E:Nat→Addr)(w:World)(S:Zed w E):Calls prog 37 #[Za2 p (E 7)] w fun e w'=>e=.returned (.tuple #[.int .i64 7,.int .i64 ((p:Nat):Int)])∧Below w.heap.size w w':=by
 have B:Below w.heap.size w w:=Below.refl _ _
 have e8:=S.e8
 have e9:=S.e9
 go_enter func37,ntmps37
 go_wp2_with (first
  |(go_at_call 71;have m7:=m6;clear m6;refine (Zcz p (E 7) _).mono ?_;rintro e w2 ⟨rfl,hb⟩;have S:=S.below hb;obtain⟨e1,e2,e3,e4,e5,e6,e7,e8,e9⟩:=S.all;have B:=B.trans (hb.mono B.size);have pc:=Below.cellv hb pc)
  |(go_at_call 71;have m6:=m5;clear m5;refine (Zb3 S 7 6 p (by decide)).mono ?_;rintro e w2 ⟨rfl,hb⟩;have S:=S.below hb;obtain⟨e1,e2,e3,e4,e5,e6,e7,e8,e9⟩:=S.all;have B:=B.trans (hb.mono B.size);have pc:=Below.cellv hb pc)
  |(go_at_call 71;have m5:=m4;clear m4;refine (Zb3 S 7 5 p (by decide)).mono ?_;rintro e w2 ⟨rfl,hb⟩;have S:=S.below hb;obtain⟨e1,e2,e3,e4,e5,e6,e7,e8,e9⟩:=S.all;have B:=B.trans (hb.mono B.size);have pc:=Below.cellv hb pc)
  |(go_at_call 71;have m4:=m3;clear m3;refine (Zb3 S 7 4 p (by decide)).mono ?_;rintro e w2 ⟨rfl,hb⟩;have S:=S.below hb;obtain⟨e1,e2,e3,e4,e5,e6,e7,e8,e9⟩:=S.all;have B:=B.trans (hb.mono B.size);have pc:=Below.cellv hb pc)
  |(go_at_call 71;have m3:=m2;clear m2;refine (Zb3 S 7 3 p (by decide)).mono ?_;rintro e w2 ⟨rfl,hb⟩;have S:=S.below hb;obtain⟨e1,e2,e3,e4,e5,e6,e7,e8,e9⟩:=S.all;have B:=B.trans (hb.mono B.size);have pc:=Below.cellv hb pc)
  |(go_at_call 71;have m2:=m1;clear m1;refine (Zb3 S 7 2 p (by decide)).mono ?_;rintro e w2 ⟨rfl,hb⟩;have S:=S.below hb;obtain⟨e1,e2,e3,e4,e5,e6,e7,e8,e9⟩:=S.all;have B:=B.trans (hb.mono B.size);have pc:=Below.cellv hb pc)
  |(go_at_call 71;have m1:=mA;clear mA;refine (Zb3 S 7 1 p (by decide)).mono ?_;rintro e w2 ⟨rfl,hb⟩;have S:=S.below hb;obtain⟨e1,e2,e3,e4,e5,e6,e7,e8,e9⟩:=S.all;have B:=B.trans (hb.mono B.size);have pc:=Below.cellv hb pc)
  |(go_at_call 72;have mA:=m9;clear m9;go_loud (refine (Zon p (E 7) _ (.int .i64 0) .nilIface _ (S.below (Zab _ Zmu)).et (by simp) (by simp) (by simp) (by simp)).mono ?_;rintro e w2 ⟨rfl,htA,pc⟩;have hb:=Zdw htA;have S:=S.touch htA;obtain⟨e1,e2,e3,e4,e5,e6,e7,e8,e9⟩:=S.all;have B:=B.trans (hb.mono B.size)))
  |(go_at_call 71;have m9:=m8;clear m8;refine (Zb3 S 7 9 p (by decide)).mono ?_;rintro e w2 ⟨rfl,hb⟩;have S:=S.below hb;obtain⟨e1,e2,e3,e4,e5,e6,e7,e8,e9⟩:=S.all;have B:=B.trans (hb.mono B.size))
  |(go_at_call 71;have m8:=True.intro;refine (Zb3 S 7 8 p (by decide)).mono ?_;rintro e w2 ⟨rfl,hb⟩;have S:=S.below hb;obtain⟨e1,e2,e3,e4,e5,e6,e7,e8,e9⟩:=S.all;have B:=B.trans (hb.mono B.size)))
 go_quiet (fail)
 go_wp2
 go_ret2
 exact⟨rfl,below_drewN B _⟩
end Go.Proofs.YtliapghpeoaonaaGreatDoor
