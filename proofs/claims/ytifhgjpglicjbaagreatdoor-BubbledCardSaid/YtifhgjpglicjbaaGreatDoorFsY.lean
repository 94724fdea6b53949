/-
  Frames, the program: Way.
-/
import Derived.Test.YtifhgjpglicjbaaGreatDoorFsS
set_option maxHeartbeats 1000000
set_option maxRecDepth 8000
namespace Go.Proofs.YtifhgjpglicjbaaGreatDoor
open Go.Proofs.Tryz
open Go.RowKit Go.Lib
attribute [local go_sem ↓] Go.wp_at_zero Go.wp_at_succ
theorem Tryz.infoFound:(prog.info? 150).map (fun i=>(i.zero,i.size,i.bytes))=some (some (.agg #[.nilIface,.slice none 0 0]),2,40):=by kernel_rfl
theorem underlying108:prog.underlying 108=some (.slice 150):=by kernel_rfl
def wyP (w:World)(D:Nat→Prop)(R:Option (List (An×Tg)))(e:Ending)(w':World):Prop :=
 Below w.heap.size w w'∧((∃fs ad cap cs,R=some fs∧e=.returned (.tuple #[.slice ad fs.length cap,.nilIface])∧SegAt w' TT 150 2 (.slice ad fs.length cap) fs.length cs∧FndC w' fs cs∧(∀y∈fs,AnD w' D y.1∧shownA y.1=true∧y.2.length≤1000)∧fs.length≤1001)∨(R=none∧∃j:Nat,e=.returned (.tuple #[.slice none 0 0,.iface 153 (.agg #[.int .i64 ((j:Nat):Int)])])))
theorem WyI.start {w w1:World}{D:Nat→Prop}{n:An}{path:List Nat}(h:AnD w D n)(hz:sizeA n≤1000)(hb:Below w.heap.size w w1){tv:Value}(ho:w1.ownsRow w.heap.size 9 1 tv (tagsA n).length ((tagsA n).map fun b=>Value.string (bsA b))):
  WyI w D (topW n) path w1.heap.size ((w1.alloc (.cells #[(bareA n).val,tv] 150)).alloc (.cells #[(bareA n).val,tv] 150)) 0 (topW n) [topW n] tv (.slice (some ⟨w1.heap.size+1,0,none⟩) 1 1):=by
 have b1:=below1 w1 (.cells #[(bareA n).val,tv] 150)
 have b2:=below1 (w1.alloc (.cells #[(bareA n).val,tv] 150)) (.cells #[(bareA n).val,tv] 150)
 have q1:(w1.alloc (.cells #[(bareA n).val,tv] 150)).heap[w1.heap.size]?=some (.cells #[(bareA n).val,tv] 150):=heap_alloc_new _ _
 have q2:((w1.alloc (.cells #[(bareA n).val,tv] 150)).alloc (.cells #[(bareA n).val,tv] 150)).heap[w1.heap.size+1]?=some (.cells #[(bareA n).val,tv] 150):=by
  have:=heap_alloc_new (w1.alloc (.cells #[(bareA n).val,tv] 150)) (.cells #[(bareA n).val,tv] 150)
  simpa using this
 have hs:=hb.size
 have st:SegAt w1 TT 9 1 tv (topW n).2.length (tgV (topW n).2):=(SegAt.of_row (RowAt.of_owns ho)).weaken fun _ _=>trivial
 have st2:=(st.below b1).below b2
 have hz2:=bare_size n
 refine⟨by simp,rfl,(hb.trans (b1.mono hs)).trans (b2.mono (by simp;omega)),hs,(b2.block _ (by simp)).trans q1,st2,h.bare,?_,?_,?_,?_⟩
 ·intro y hy
  rw[List.mem_singleton] at hy
  subst hy
  exact⟨h.bare,bareA_shown n,by show (tagsA n).length≤1000;omega⟩
 ·exact⟨[(bareA n).val,tv],⟨rfl,Or.inr ⟨w1.heap.size+1,1,#[(bareA n).val,tv],rfl,by omega,q2,Nat.le_refl _,by unfold maxLen;omega,rfl,rfl⟩⟩,⟨tv,[],rfl,st2,rfl⟩⟩
 ·intro e
  simp[Value.ownBlock] at e
 ·show (tagsA n).length+sizeA (bareA n)≤1000∧1+sizeA (bareA n)≤1001
  omega
theorem WyI.done {w wr:World}{D:Nat→Prop}{x0:An×Tg}{path:List Nat}{fb j:Nat}{x:An×Tg}{fs:List (An×Tg)}{tv:Value}{ad:Option Addr}{cap:Nat}(h:WyI w D x0 path fb wr j x fs tv (.slice ad fs.length cap))(hj:¬ j<path.length):wyP w D ((wayA x0 path).map (x0::·)) (.returned (.tuple #[.slice ad fs.length cap,.nilIface])) wr:=by
 obtain⟨cs,h1,h2⟩:=h.own
 have hz:=h.size
 refine⟨h.bel,Or.inl ⟨fs,ad,cap,cs,?_,rfl,(SegAt.of_row (RowAt.of_owns h1)).weaken fun _ _=>trivial,h2,fun y hy=>?_,by omega⟩⟩
 ·rw[h.eq,List.drop_eq_nil_of_le (by omega),wayA]
  simp
 ·obtain⟨p1,p2⟩:=h.nodes y hy
  exact⟨p1.below h.bel,p2⟩
def pathV (path:List Nat):List Value:=path.map fun i=>Value.int .i64 ((i:Nat):Int)
theorem Way_any (D:Nat→Prop)(n:An)(path:List Nat)(pv:Value)(w:World)(h:AnD w D n)(hz:sizeA n≤1000)(hp:SegAt w TT 3 1 pv path.length (pathV path))(hpl:path.length≤1000000)(hpi:∀i∈path,i≤1000000000):Calls prog 44 #[n.val,pv] w (wyP w D ((wayA (topW n) path).map (topW n::·))):=by
 obtain⟨pad,pcap,rfl⟩:=hp.slice
 have CB:=bare_any (some n) w (h.weaken fun _ _=>trivial)
 have CT:=tags_any n w (h.weaken fun _ _=>trivial) hz
 have ST:Hid (∀w1 tv,Below w.heap.size w w1→w1.ownsRow w.heap.size 9 1 tv (tagsA n).length ((tagsA n).map fun b=>Value.string (bsA b))→WyI w D (topW n) path w1.heap.size ((w1.alloc (.cells #[(bareA n).val,tv] 150)).alloc (.cells #[(bareA n).val,tv] 150)) 0 (topW n) [topW n] tv (.slice (some ⟨w1.heap.size+1,0,none⟩) 1 1)):=fun w1 tv hb ho=>WyI.start h hz hb ho
 have hpli:(path.length:Int)≤1000000:=by omega
 have TG:Hid (∀e w',tgP w (tagsA n) e w'→∃tad tcap,e=.returned (.slice tad (tagsA n).length tcap)∧w'.ownsRow w.heap.size 9 1 (.slice tad (tagsA n).length tcap) (tagsA n).length ((tagsA n).map fun b=>Value.string (bsA b))∧Below w.heap.size w w'):=fun e w' ⟨v,h1,h2,h3⟩=>by
  obtain⟨ad,cap,rfl⟩:=owns_slice h2
  exact⟨ad,cap,h1,h2,h3⟩
 have CB':Calls prog 64 #[n.val] w fun e w'=>e=.returned (bareA n).val∧w=w':=CB.mono fun e w' hh=>⟨hh.1,hh.2.symm⟩
 obtain⟨tn,bn,hn⟩:=n.val_iface
 obtain⟨tm,bm,hm⟩:=(bareA n).val_iface
 rw[hn] at CT CB' ⊢
 rw[hm] at CB' ST
 have DONE:Hid (∀wr j x fs tv wad wcap,∀fb,WyI w D (topW n) path fb wr j x fs tv (.slice wad (j+1) wcap)→¬ j<path.length→wyP w D ((wayA (topW n) path).map (topW n::·)) (.returned (.tuple #[.slice wad (j+1) wcap,.nilIface])) wr):=fun wr j x fs tv wad wcap fb hA hj=>by
  have:=hA.lenfs
  rw[←this] at hA ⊢
  exact hA.done (by omega)
 have NONE:Hid (∀wr j x fs tv wad wcap,∀fb X,WyI w D (topW n) path fb wr j x fs tv (.slice wad (j+1) wcap)→∀hj:j<path.length,¬ path[j]<(kidsO (some x.1)).length→Below wr.heap.size wr X→wyP w D ((wayA (topW n) path).map (topW n::·)) (.returned (.tuple #[.slice none 0 0,.iface 153 (.agg #[.int .i64 ((j:Nat):Int)])])) X):=fun wr j x fs tv wad wcap fb X hA hj hk hX=>by
  refine⟨hA.bel.trans (hX.mono hA.bel.size),Or.inr ⟨?_,j,rfl⟩⟩
  rw[hA.eq,List.drop_eq_getElem_cons hj,wayA,stepW,List.getElem?_eq_none (by omega)]
  rfl
 generalize (wayA (topW n) path).map (topW n::·)=R at *
 clear CB
 go_enter func44,ntmps44
 go_wp2_with (first
  |(go_at_call 64;refine CB'.mono ?_;rintro e w1 ⟨rfl,rfl⟩)
  |(go_at_call 65;refine CT.mono ?_;intro e w1 hq;obtain⟨tad,tcap,rfl,hto,hb1⟩:=TG.out _ _ hq;clear hq))
 have S1:Hid (WyI w D (topW n) path w1.heap.size ((w1.alloc (.cells #[.iface tm (.pointer (some ⟨bm,0,none⟩)),.slice tad (tagsA n).length tcap] 150)).alloc (.cells #[.iface tm (.pointer (some ⟨bm,0,none⟩)),.slice tad (tagsA n).length tcap] 150)) 0 (topW n) [topW n] (.slice tad (tagsA n).length tcap) (.slice (some ⟨w1.heap.size+1,0,none⟩) 1 1)):=ST.out _ _ hb1 hto
 generalize w1.heap.size=fb at *
 generalize ((w1.alloc (.cells #[.iface tm (.pointer (some ⟨bm,0,none⟩)),.slice tad (tagsA n).length tcap] 150)).alloc (.cells #[.iface tm (.pointer (some ⟨bm,0,none⟩)),.slice tad (tagsA n).length tcap] 150))=w2 at *
 clear ST hto hb1 CB' CT TG hn hm h
 go_loopg [7,24] path.length (fun gh wv jv wr=>∃(j:Nat) (x:An×Tg) (fs:List (An×Tg)) (tv:Value) (wad:Option Addr) (wcap:Nat),gh=path.length-j∧jv=.int .i64 ((j:Nat):Int)∧j≤path.length∧wv=.slice wad (j+1) wcap∧Aside (WyI w D (topW n) path fb wr j x fs tv wv))
 case atStart=>exact⟨0,topW n,[topW n],_,_,_,by omega,rfl,Nat.zero_le _,rfl,(show WyI w D (topW n) path fb _ 0 _ _ _ _ from S1.out)⟩
 case round =>
  obtain⟨j,x,fs,tv,wad,wcap,rfl,rfl,hj,rfl,hA⟩:=hrel
  by_cases hlt:j<path.length
  ·have hji:(j:Int)<(path.length:Int):=by omega
   obtain⟨gp,op,pc2,he,_,hp1,hp2,hpc⟩:=hp.cell (by omega)
   cases he
   obtain⟨i,hi⟩:∃i,i=path[j]:=⟨_,rfl⟩
   have hib:i≤1000000000:=by rw[hi];exact hpi _ (List.getElem_mem hlt)
   have pc:wr.cell? ⟨gp,op+j,none⟩=some (.int .i64 ((i:Nat):Int)):=by
    refine Below.cellv hA.out.bel ?_
    rw[hpc j (by omega),pathV,List.getElem?_map,List.getElem?_eq_getElem hlt,←hi]
    rfl
   have c0:wr.cell? ⟨fb,0,none⟩=some x.1.val:=by unfold World.cell?;rw[hA.out.blk];rfl
   have CI:Calls prog 66 #[x.1.val] wr (inP wr (some x.1)):=inside_any (some x.1) wr ((hA.out.node.below hA.out.bel).weaken fun _ _=>trivial)
   have hsz:=hA.out.size
   have hkl:=sizeL_len (kidsO (some x.1))
   have hks:=sizeA_kids x.1
   obtain⟨tx,bx,hx⟩:=x.1.val_iface
   rw[hx] at c0 CI
   have hklen:((kidsO (some x.1)).length:Int)≤1000:=by omega
   have hib2:(i:Int)≤1000000000:=by omega
   have hi0:decide ((i:Int)<0)=false:=by simp
   unfold maxLen at hp2
   by_cases hik:i<(kidsO (some x.1)).length
   ·obtain⟨kid,hkid⟩:∃kid,kid=(kidsO (some x.1))[i]:=⟨_,rfl⟩
    obtain⟨y,hy⟩:∃y:An×Tg,y=(bareA kid,tagsA kid++x.2):=⟨_,rfl⟩
    have hstep:stepW x path[j]=some y:=by
     rw[stepW,←hi,List.getElem?_eq_getElem hik,←hkid,hy]
     rfl
    have hkn:AnD wr D kid:=by
     rw[hkid]
     exact (hA.out.node.kids.at i hik).below hA.out.bel
    have hkz:sizeA kid≤1000:=by
     have:=sizeL_mem (List.getElem?_eq_getElem hik)
     rw[←hkid] at this
     omega
    have hyz:=stepW_size hstep
    have hkt:=tagsA_len kid
    have KID:Hid (∀X,Below wr.heap.size wr X→(Calls prog 64 #[kid.val] X fun e w'=>e=.returned y.1.val∧w'=X)∧(Calls prog 65 #[kid.val] X fun e w'=>∃ad cap,e=.returned (.slice ad (tagsA kid).length cap)∧SegAt w' TT 9 1 (.slice ad (tagsA kid).length cap) (tagsA kid).length (tgV (tagsA kid))∧Below wr.heap.size wr w')):=fun X hX=>by
     refine⟨?_,?_⟩
     ·have:=bare_any (some kid) X ((hkn.below hX).weaken fun _ _=>trivial)
      rw[hy]
      exact this
     ·refine (tags_any kid X ((hkn.below hX).weaken fun _ _=>trivial) hkz).mono fun e w' ⟨v,h1,h2,h3⟩=>?_
      obtain⟨ad,cap,rfl⟩:=owns_slice h2
      exact⟨ad,cap,h1,(SegAt.of_row (RowAt.of_owns h2)).weaken fun _ _=>trivial,hX.trans (h3.mono hX.size)⟩
    have CON:Hid (∀X ad cap,Below wr.heap.size wr X→SegAt X TT 9 1 (.slice ad (tagsA kid).length cap) (tagsA kid).length (tgV (tagsA kid))→Calls prog 67 #[.slice (some ⟨X.heap.size,0,none⟩) 2 2] (X.alloc (.cells #[.slice ad (tagsA kid).length cap,tv] 26)) fun e w'=>∃ad' cap',e=.returned (.slice ad' y.2.length cap')∧SegAt w' TT 9 1 (.slice ad' y.2.length cap') y.2.length (tgV y.2)∧Below wr.heap.size wr w'):=fun X ad cap hX hsg=>by
     have ba:=below1 X (.cells #[.slice ad (tagsA kid).length cap,tv] 26)
     have hst:=(hA.out.tags.below hX).below ba
     have hq:(X.alloc (.cells #[.slice ad (tagsA kid).length cap,tv] 26)).heap[X.heap.size]?=some (.cells #[.slice ad (tagsA kid).length cap,tv] 26):=heap_alloc_new _ _
     have oc:∀l:Tg,∀u∈tgV l,u.oneCell'=true:=fun l u hu=>by
      simp[tgV] at hu
      obtain⟨b,_,rfl⟩:=hu
      rfl
     refine (sconcat_any TT (tagsA kid).length x.2.length _ _ (tgV (tagsA kid)) (tgV x.2) _ X.heap.size (by omega) (by omega) (hsg.below ba) hst (oc _) (oc _) (by unfold World.cell?;rw[hq];rfl) (by unfold World.cell?;rw[hq];rfl)).mono fun e w' ⟨v',h1,h2,h3⟩=>?_
     have el:(tagsA kid).length+x.2.length=y.2.length:=by rw[hy,List.length_append]
     have ev:tgV (tagsA kid)++tgV x.2=tgV y.2:=by rw[hy];simp[tgV]
     rw[el,ev] at h2
     obtain⟨ad',cap',rfl⟩:=owns_slice h2
     exact⟨ad',cap',h1,(SegAt.of_row (RowAt.of_owns h2)).weaken fun _ _=>trivial,(hX.trans (ba.mono hX.size)).trans (h3.mono (by have:=hX.size;simp;omega))⟩
    have hAl:=hA.out.lenfs
    have END:Hid (∀X tv',Below wr.heap.size wr X→SegAt X TT 9 1 tv' y.2.length (tgV y.2)→(X.cell? ⟨fb,0,none⟩=some x.1.val∧X.cell? ⟨fb,1,none⟩=some tv∧X.frozen? ⟨fb,0,none⟩=false∧X.frozen? ⟨fb,1,none⟩=false)∧(wyW X fb y.1.val tv').cell? ⟨fb,0,none⟩=some y.1.val∧(wyW X fb y.1.val tv').cell? ⟨fb,1,none⟩=some tv'∧∃cs,(wyW X fb y.1.val tv').ownsRow w.heap.size 150 2 (.slice wad (j+1) wcap) (j+1) cs∧w.heap.size≤(wyW X fb y.1.val tv').heap.size∧∀v' w6,w6.ownsRow w.heap.size 150 2 v' (j+1+1) (cs++[y.1.val,tv'])→((wyW X fb y.1.val tv').alloc (.cells #[y.1.val,tv'] 150)).grownBy w6 (Value.slice wad (j+1) wcap).ownBlock→(v'.ownBlock=(Value.slice wad (j+1) wcap).ownBlock∨v'.ownBlock=some ((wyW X fb y.1.val tv').alloc (.cells #[y.1.val,tv'] 150)).heap.size)→WyI w D (topW n) path fb w6 (j+1) y (fs++[y]) tv' v'):=fun X tv' hX hsg=>by
     have hA2:=hA.out
     obtain⟨p1,⟨cs,p2⟩,p3,p4,p5,p6,p7⟩:=hA2.put hX y.1.val tv'
     refine⟨⟨p5,p6,p7 0,p7 1⟩,by unfold World.cell?;rw[p1];rfl,by unfold World.cell?;rw[p1];rfl,cs,by rw[←hAl];rw[←hAl] at p2;exact p2.1,p3.size,fun v' w6 h1 h2 h3=>?_⟩
     rw[←hAl] at h1 h2 h3 hA2 p2
     exact hA2.next hX hlt hstep hsg p2 h1 h2 h3
    have INP:Hid (∀e w',inP wr (some x.1) e w'→∃iad icap,e=.returned (.slice (some iad) (kidsO (some x.1)).length icap)∧Below wr.heap.size wr w'∧(kidsO (some x.1)).length≤icap∧icap≤9223372036854775807∧∃g o,iad=⟨g,o,none⟩∧∀X,Below w'.heap.size w' X→X.cell? ⟨g,o+i,none⟩=some kid.val):=fun e w' ⟨h1,ad,cap,h2,h3⟩=>by
     obtain⟨g,o,rfl,q1,q2,q3⟩:=seg_at h3 hik
     unfold maxLen at q2
     refine⟨_,cap,h2,h1,q1,by omega,g,o,rfl,fun X hX=>Below.cellv hX ?_⟩
     rw[q3,List.getElem?_map,List.getElem?_eq_getElem hik,←hkid]
     rfl
    have TV:Hid (∀X,Below wr.heap.size wr X→X.cell? ⟨fb,1,none⟩=some tv):=fun X hX=>Below.cellv hX (by unfold World.cell?;rw[hA.out.blk];rfl)
    obtain⟨tad,tcap2,htv⟩:=hA.out.tags.slice
    have hiki:(i:Int)<((kidsO (some x.1)).length:Int):=by omega
    obtain⟨tk,bk,hk⟩:=kid.val_iface
    obtain⟨ty,by_,hyv⟩:=y.1.val_iface
    have hj1:(j:Int)+1≤1001:=by omega
    have hj2:j+1≤1001:=by omega
    have NXT:Hid (∀X,(∃fs tv',WyI w D (topW n) path fb X (j+1) y fs tv' (.slice wad (j+1) wcap))→True):=fun _ _=>trivial
    rw[hk] at KID INP
    rw[hyv] at KID END
    rw[hx] at END
    rw[htv] at CON TV END
    clear hkid hkn hy
    generalize (kidsO (some x.1)).length=kl at *
    generalize (tagsA kid).length=kt at *
    generalize y.2.length=yt at *
    generalize tgV y.2=yvs at *
    generalize tgV (tagsA kid)=kvs at *
    generalize x.2.length=xt at *
    clear hA hpc hi hkl hks hsz hx NONE DONE S1 hk hyv htv hstep hkz hyz hkt hAl NXT
    go_wp2_with (go_at_call 66;refine CI.mono ?_;intro e w3 hq;obtain⟨_,icap,rfl,hb3,hi1,hi2,gi,oi,rfl,hcell⟩:=INP.out _ _ hq;clear hq)
    have IC:Hid (∀X,Below w3.heap.size w3 X→X.cell? ⟨gi,oi+i,none⟩=some (.iface tk (.pointer (some ⟨bk,0,none⟩)))):=hcell
    have ic0:=hcell w3 (Below.refl _ _)
    have tv0:=TV.out w3 hb3
    clear hcell INP CI
    go_region_with (first
     |(go_at_call 64;refine ((KID.out _ ?_).1).mono ?_;(first | exact hb7 | exact hb5.alloc hb5.size _ | exact hb5 | exact hb3.drew | exact hb3);rintro e w4 ⟨rfl,rfl⟩)
     |(go_at_call 65;refine ((KID.out _ ?_).2).mono ?_;(first | exact hb3.drew | exact hb3);rintro e w5 ⟨kad,kcap,rfl,hseg5,hb5⟩;have tv5:=TV.out _ hb5)
     |(go_at_call 67;refine (CON.out _ _ _ hb5 hseg5).mono ?_;rintro e w7 ⟨yad,ycap,rfl,hseg7,hb7⟩;obtain⟨⟨e0,e1,e2,e3⟩,EN⟩:=END.out _ _ hb7 hseg7;have EN2:Hid _:=EN;clear EN))
    all_goals
     obtain⟨f0,f1,cs,own8,hbs8,NX⟩:=EN2.out
     unfold wyW at f0 f1 own8 hbs8 NX
     have NX2:Hid _:=NX
     clear NX EN2 e0 e1 e2 e3 END KID CON TV IC
     generalize ((w7.setCell ⟨fb,0,none⟩ (.iface ty (.pointer (some ⟨by_,0,none⟩)))).setCell ⟨fb,1,none⟩ (.slice yad yt ycap))=W8 at *
     go_wp2_with (at_builtin;obtain⟨i0,hi,hz0,hz1,hz2⟩:=info_parts Tryz.infoFound;refine wpList_append_own_at _ rfl _ _ 108 rfl w.heap.size 150 i0 (.agg #[.nilIface,.slice none 0 0]) 2 40 underlying108 hi hz0 hz1 hz2 rfl (by decide) _ _ _ rfl (own8.alloc _) ⟨W8.heap.size,0,none⟩ 1 1 [.iface ty (.pointer (some ⟨by_,0,none⟩)),.slice yad yt ycap] rfl rfl (World.news_of_block (heap_alloc_new _ _)) (fun u hu=>by simp at hu;rcases hu with rfl | rfl<;>rfl) (by unfold maxLen;omega) (by omega) (by simp;omega) ?_;intro v9 w9 own9 hg9 hn9 hob9;clear hi hz0 hz1 hz2)
     have NX3:=NX2.out v9 w9 own9 hg9 hob9
     obtain⟨ad9,cap9,rfl⟩:=owns_slice own9
     go_roundg (path.length-(j+1))
     case measure=>omega
     case rel=>exact⟨j+1,y,_,_,ad9,cap9,rfl,by go_num,by omega,rfl,(show WyI w D (topW n) path fb _ (j+1) y _ _ _ from NX3)⟩
   ·have FI:Hid (∀X,Below wr.heap.size wr X→wyP w D R (.returned (.tuple #[.slice none 0 0,.iface 153 (.agg #[.int .i64 ((j:Nat):Int)])])) X):=fun X hX=>NONE.out wr j x fs tv wad wcap fb X hA.out hlt (by rw[←hi];exact hik) hX
    have hiki:((kidsO (some x.1)).length:Int)≤(i:Int):=by omega
    have INP:Hid (∀e w',inP wr (some x.1) e w'→∃ad cap,e=.returned (.slice ad (kidsO (some x.1)).length cap)∧Below wr.heap.size wr w'):=fun e w' ⟨h1,ad,cap,h2,h3⟩=>⟨ad,cap,h2,h1⟩
    generalize (kidsO (some x.1)).length=kl at *
    clear hA hpc hi hkl hks hsz hx NONE DONE S1
    go_wp2_with (go_at_call 66;refine CI.mono ?_;intro e w3 hq;obtain⟨iad,icap,rfl,hb3⟩:=INP.out _ _ hq;clear hq)
    go_ret2
    exact FI.out _ hb3
  ·have hji:¬ (j:Int)<(path.length:Int):=by omega
   have FI:=DONE.out wr j x fs tv wad wcap fb hA.out hlt
   clear hA
   go_wp2_with fail
   go_ret2
   exact FI
end Go.Proofs.YtifhgjpglicjbaaGreatDoor
