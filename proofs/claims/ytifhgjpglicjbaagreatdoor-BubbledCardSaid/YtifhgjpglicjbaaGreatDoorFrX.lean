/-
  Frames, the program: Look.
-/
import Derived.Test.YtifhgjpglicjbaaGreatDoorFrT
set_option maxHeartbeats 4000000
set_option maxRecDepth 8000
namespace Go.Proofs.YtifhgjpglicjbaaGreatDoor
open Go.Proofs.Tryz
open Go.RowKit Go.Lib
attribute [local go_sem ↓] Go.wp_at_zero Go.wp_at_succ
attribute [local go_sem] va_num_num va_num_txt va_num_lst va_txt_num va_txt_txt va_txt_lst va_lst_num va_lst_txt va_lst_lst
theorem lookX_some {fns:List Fn}{S:LkS}{c z:Nat}{o:Option An}{l:List PV}{R:Ln×Nat×Nat}(h:lookX fns S c z o l=some R):∃w r,headV l=some (w,r) ∧
  ((w=[101,108]∧lookE S c z o r=some R)∨(w=[107,101,121,101,100]∧lookK S c z o r=some R)∨(w=[116,97,103]∧lookT fns S c z o r=some R)∨(w=[108,97,122,121]∧lookZ fns S c z o r=some R)):=by
 unfold lookX at h
 split at h
 ·cases h
 ·rename_i w r e
  refine⟨w,r,e,?_⟩
  split at h
  ·rename_i hw;exact Or.inl ⟨hw,h⟩
  ·split at h
   ·rename_i hw;exact Or.inr (Or.inl ⟨hw,h⟩)
   ·split at h
    ·rename_i hw;exact Or.inr (Or.inr (Or.inl ⟨hw,h⟩))
    ·split at h
     ·rename_i hw;exact Or.inr (Or.inr (Or.inr ⟨hw,h⟩))
     ·cases h
theorem str_lit {s:ByteArray}{w u:List UInt8}(h:s.data.toList=w):(s.toList==u)=decide (w=u):=by
 rw[ByteArray.toList_eq,h]
 by_cases e:w=u<;>simp[e]
theorem lookList_of {fns:List Fn}(hP:ProgOk fns)(hU:UniqF fns){lb f:Nat}(IH:LDo fns lb f)(D:Nat→Prop)(o:Option An)(l:List PV)(ad:Option Addr)(cap:Nat)(cs:List Value)(c z:Nat)(k:Ln)(c' z':Nat)(w:World)
  (he:lookX fns (lookA fns f) c z o l=some (k,c',z')) (hz:z+1≤c) (hc:c≤100) (hK:LK w lb fns c z) (hD:∀g,w.heap.size≤g→D g) (hseg:SegAt w D 74 1 (.slice ad l.length cap) l.length cs) (hvs:VLs w D l cs) (hf:∀v∈l,Fine v) (hw:wtVs l≤600) (hO:OD w D o) (hOk:OldOk lb o) :
  Calls prog 123 #[.pointer (some ⟨lb,0,none⟩),.slice ad l.length cap,valN o] w (lkP D lb fns w k c' z'):=by
 obtain⟨t,r,e1,hcase⟩:=lookX_some he
 have hfr:∀v∈r,Fine v:=fun v hv=>hf v (headV_mem e1 v hv)
 have hwr:=headV_rest e1
 have hrl:=vlen_le r
 have CH:=headed_some e1 ad cap cs w hseg hvs
 have UP:Hid (∀(X:World) (e:Ending) (w':World),Below w.heap.size w X→lkP D lb fns X k c' z' e w'→lkP D lb fns w k c' z' e w'∧∃tn bn,e=.returned (.tuple #[.iface tn (.pointer (some ⟨bn,0,none⟩)),.nilIface])):=fun X e w' hX h=>by
  obtain⟨h1,h2,m,F,h3,h4,h5,h6,h7,h8⟩:=h
  obtain⟨tn,bn,hn⟩:=m.val_iface
  exact⟨⟨(LT.of_below hX).trans h1,h2,m,F,h3,h4,h5,h6,fun q hq=>by have:=h7 q hq;have:=hX.size;omega,h8⟩,tn,bn,by rw[h3,hn]⟩
 rcases hcase with ⟨rfl,e2⟩ | ⟨rfl,e2⟩ | ⟨rfl,e2⟩ | ⟨rfl,e2⟩
 ·have CX:Hid (∀(X:World) (ad2:Option Addr) (cap2:Nat) (cs2:List Value),Below w.heap.size w X→SegAt X D 74 1 (.slice ad2 r.length cap2) r.length cs2→VLs X D r cs2→Calls prog 162 #[.pointer (some ⟨lb,0,none⟩),.slice ad2 r.length cap2,valN o] X (lkP D lb fns X k c' z')):=fun X ad2 cap2 cs2 hX h1 h2 =>
   element_of IH D o r ad2 cap2 cs2 c z k c' z' X e2 (by omega) hc (hK.below hX) (fun g hg=>hD g (by have:=hX.size;omega)) h1 h2 hfr (by omega) (hO.below hX) hOk
  have LIT:Hid (∀(s:ByteArray),s.data.toList=[101,108]→(s.toList==[101,108])=true∧(s.toList==[107,101,121,101,100])=false∧(s.toList==[116,97,103])=false∧(s.toList==[108,97,122,121])=false):=fun s hs=>⟨(str_lit hs).trans (by decide),(str_lit hs).trans (by decide),(str_lit hs).trans (by decide),(str_lit hs).trans (by decide)⟩
  clear IH hD hO hOk hfr hK he hseg hvs hf e1 e2 hP hU
  go_enter func123,ntmps123
  go_wp2_with (first
   |(go_at_call 161;refine CH.mono ?_;rintro e w1 ⟨s,ad2,cap2,cs2,rfl,hs,hb1,sg,vl⟩;have CX1:=CX.out w1 ad2 cap2 cs2 hb1 sg vl;obtain⟨l1,l2,l3,l4⟩:=LIT.out s hs;clear sg vl CH CX LIT)
   |(go_at_call 162;refine CX1.mono ?_;intro e w2 hq;obtain⟨hq2,tn,bn,rfl⟩:=UP.out _ _ _ hb1 hq;have FI:Hid _:=hq2;clear hq hq2))
  go_ret2
  exact FI.out
 ·have CX:Hid (∀(X:World) (ad2:Option Addr) (cap2:Nat) (cs2:List Value),Below w.heap.size w X→SegAt X D 74 1 (.slice ad2 r.length cap2) r.length cs2→VLs X D r cs2→Calls prog 163 #[.pointer (some ⟨lb,0,none⟩),.slice ad2 r.length cap2,valN o] X (lkP D lb fns X k c' z')):=fun X ad2 cap2 cs2 hX h1 h2 =>
   keyed_of IH D o r ad2 cap2 cs2 c z k c' z' X e2 (by omega) hc (hK.below hX) (fun g hg=>hD g (by have:=hX.size;omega)) h1 h2 hfr (by omega) (hO.below hX) hOk
  have LIT:Hid (∀(s:ByteArray),s.data.toList=[107,101,121,101,100]→(s.toList==[101,108])=false∧(s.toList==[107,101,121,101,100])=true∧(s.toList==[116,97,103])=false∧(s.toList==[108,97,122,121])=false):=fun s hs=>⟨(str_lit hs).trans (by decide),(str_lit hs).trans (by decide),(str_lit hs).trans (by decide),(str_lit hs).trans (by decide)⟩
  clear IH hD hO hOk hfr hK he hseg hvs hf e1 e2 hP hU
  go_enter func123,ntmps123
  go_wp2_with (first
   |(go_at_call 161;refine CH.mono ?_;rintro e w1 ⟨s,ad2,cap2,cs2,rfl,hs,hb1,sg,vl⟩;have CX1:=CX.out w1 ad2 cap2 cs2 hb1 sg vl;obtain⟨l1,l2,l3,l4⟩:=LIT.out s hs;clear sg vl CH CX LIT)
   |(go_at_call 163;refine CX1.mono ?_;intro e w2 hq;obtain⟨hq2,tn,bn,rfl⟩:=UP.out _ _ _ hb1 hq;have FI:Hid _:=hq2;clear hq hq2))
  go_ret2
  exact FI.out
 ·have CX:Hid (∀(X:World) (ad2:Option Addr) (cap2:Nat) (cs2:List Value),Below w.heap.size w X→SegAt X D 74 1 (.slice ad2 r.length cap2) r.length cs2→VLs X D r cs2→Calls prog 164 #[.pointer (some ⟨lb,0,none⟩),.slice ad2 r.length cap2,valN o] X (lkP D lb fns X k c' z')):=fun X ad2 cap2 cs2 hX h1 h2 =>
   tagged_of IH D o r ad2 cap2 cs2 c z k c' z' X e2 (by omega) (hK.below hX) (fun g hg=>hD g (by have:=hX.size;omega)) h1 h2 hfr (hO.below hX) hOk
  have LIT:Hid (∀(s:ByteArray),s.data.toList=[116,97,103]→(s.toList==[101,108])=false∧(s.toList==[107,101,121,101,100])=false∧(s.toList==[116,97,103])=true∧(s.toList==[108,97,122,121])=false):=fun s hs=>⟨(str_lit hs).trans (by decide),(str_lit hs).trans (by decide),(str_lit hs).trans (by decide),(str_lit hs).trans (by decide)⟩
  clear IH hD hO hOk hfr hK he hseg hvs hf e1 e2 hP hU
  go_enter func123,ntmps123
  go_wp2_with (first
   |(go_at_call 161;refine CH.mono ?_;rintro e w1 ⟨s,ad2,cap2,cs2,rfl,hs,hb1,sg,vl⟩;have CX1:=CX.out w1 ad2 cap2 cs2 hb1 sg vl;obtain⟨l1,l2,l3,l4⟩:=LIT.out s hs;clear sg vl CH CX LIT)
   |(go_at_call 164;refine CX1.mono ?_;intro e w2 hq;obtain⟨hq2,tn,bn,rfl⟩:=UP.out _ _ _ hb1 hq;have FI:Hid _:=hq2;clear hq hq2))
  go_ret2
  exact FI.out
 ·have CX:Hid (∀(X:World) (ad2:Option Addr) (cap2:Nat) (cs2:List Value),Below w.heap.size w X→SegAt X D 74 1 (.slice ad2 r.length cap2) r.length cs2→VLs X D r cs2→Calls prog 165 #[.pointer (some ⟨lb,0,none⟩),.slice ad2 r.length cap2,valN o] X (lkP D lb fns X k c' z')):=fun X ad2 cap2 cs2 hX h1 h2 =>
   lazy_of hP hU IH D o r ad2 cap2 cs2 c z k c' z' X e2 hz hc (hK.below hX) (fun g hg=>hD g (by have:=hX.size;omega)) h1 h2 hfr (by omega) (hO.below hX) hOk
  have LIT:Hid (∀(s:ByteArray),s.data.toList=[108,97,122,121]→(s.toList==[101,108])=false∧(s.toList==[107,101,121,101,100])=false∧(s.toList==[116,97,103])=false∧(s.toList==[108,97,122,121])=true):=fun s hs=>⟨(str_lit hs).trans (by decide),(str_lit hs).trans (by decide),(str_lit hs).trans (by decide),(str_lit hs).trans (by decide)⟩
  clear IH hD hO hOk hfr hK he hseg hvs hf e1 e2 hP hU
  go_enter func123,ntmps123
  go_wp2_with (first
   |(go_at_call 161;refine CH.mono ?_;rintro e w1 ⟨s,ad2,cap2,cs2,rfl,hs,hb1,sg,vl⟩;have CX1:=CX.out w1 ad2 cap2 cs2 hb1 sg vl;obtain⟨l1,l2,l3,l4⟩:=LIT.out s hs;clear sg vl CH CX LIT)
   |(go_at_call 165;refine CX1.mono ?_;intro e w2 hq;obtain⟨hq2,tn,bn,rfl⟩:=UP.out _ _ _ hb1 hq;have FI:Hid _:=hq2;clear hq hq2))
  go_ret2
  exact FI.out
theorem txt_done {D:Nat→Prop}{lb:Nat}{fns:List Fn}{w X:World}{s:List UInt8}{c z:Nat}(hL:LT lb w X)(hK:LK X lb fns c z):
  lkP D lb fns w (.txt s) c z (.returned (.tuple #[.iface 213 (.pointer (some ⟨X.heap.size,0,none⟩)),.nilIface])) (X.alloc (.cells #[.int .i64 0,.bool false,.string ⟨#[]⟩,.string (bsA s)] 216)):=by
 have hb:Below X.heap.size X (X.alloc (.cells #[.int .i64 0,.bool false,.string ⟨#[]⟩,.string (bsA s)] 216)):=(Below.refl _ _).alloc (Nat.le_refl _) _
 refine⟨hL.alloc _,hK.below hb,.txt X.heap.size mk0 s,[X.heap.size],rfl,?_,?_,by simp,?_,?_⟩
 ·rw[AnD];exact heap_alloc_new _ _
 ·rw[Made];exact⟨_,rfl,rfl⟩
 ·intro b hb
  have:=hL.size
  simp at hb ⊢
  omega
 ·intro b hb
  rw[blocksA] at hb
  exact Or.inl hb
theorem look_step {fns:List Fn}(hP:ProgOk fns)(hU:UniqF fns){lb f:Nat}(IH:LDo fns lb f):LDo fns lb (f+1):=by
 intro D c z v o k c' z' x w he hz hK hD hv hfv hO hOk
 simp only[lookA] at he
 split at he
 ·cases he
 ·rename_i hc
  have CC:=count_ok 1 w hK (by omega)
  have e1:((1:Nat):Int)=1:=rfl
  rw[e1] at CC
  rcases VL_kind hv with ⟨i,rfl,rfl⟩ | ⟨s,rfl,rfl⟩ | ⟨l,ad,cap,cs,rfl,rfl,hseg,hvs⟩
  ·simp only[Option.some.injEq,Prod.mk.injEq] at he
   obtain⟨rfl,rfl,rfl⟩:=he
   have CW:Hid (∀X,LK X lb fns (c+1) z→Calls prog 29 #[.iface 190 (.int .i64 i)] X fun e w'=>e=.returned (.string (bsA (itoa i)))∧Below X.heap.size X w'):=fun X hX =>
    Write_any TT (.num i) _ X (by rw[VL]) hfv.1 (by have:=hfv.2;omega) hX.num.p10
   have FIN:Hid (∀X Y,LT lb w X→LK X lb fns (c+1) z→Below X.heap.size X Y→lkP D lb fns w (.txt (itoa i)) (c+1) z (.returned (.tuple #[.iface 213 (.pointer (some ⟨Y.heap.size,0,none⟩)),.nilIface])) (Y.alloc (.cells #[.int .i64 0,.bool false,.string ⟨#[]⟩,.string (bsA (itoa i))] 216))):=fun X Y h1 h2 h3=>txt_done (h1.below h3) (h2.below h3)
   generalize valN o=vo at *
   clear IH hD hO hOk hK hv hP hU hfv
   go_enter func87,ntmps87
   go_wp2_with (first
    |(go_at_call 122;refine CC.mono ?_;rintro e w1 ⟨rfl,hl1,hk1,-⟩;have CW1:=CW.out w1 hk1;have FI:Hid _:=fun Y=>FIN.out w1 Y hl1 hk1;clear hl1 hk1 FIN CW)
    |(go_at_call 29;refine CW1.mono ?_;rintro e w2 ⟨rfl,hb2⟩))
   go_ret2
   exact FI.out _ hb2
  ·simp only[Option.some.injEq,Prod.mk.injEq] at he
   obtain⟨rfl,rfl,rfl⟩:=he
   have FIN:Hid (∀X,LT lb w X→LK X lb fns (c+1) z→lkP D lb fns w (.txt s.data.toList) (c+1) z (.returned (.tuple #[.iface 213 (.pointer (some ⟨X.heap.size,0,none⟩)),.nilIface])) (X.alloc (.cells #[.int .i64 0,.bool false,.string ⟨#[]⟩,.string s] 216))):=fun X h1 h2=>by
    have:=txt_done (D:=D) (s:=s.data.toList) h1 h2
    rw[bsA_data] at this
    exact this
   generalize valN o=vo at *
   clear IH hD hO hOk hK hv hP hU hfv
   go_enter func87,ntmps87
   go_wp2_with (go_at_call 122;refine CC.mono ?_;rintro e w1 ⟨rfl,hl1,hk1,-⟩;have FI:Hid _:=FIN.out w1 hl1 hk1;clear hl1 hk1 FIN)
   go_ret2
   exact FI.out
  ·have hwt:=hfv.2
   rw[wtV] at hwt
   have hll:=vlen_le l
   have CI:Hid (∀X,Calls prog 124 #[.agg #[.slice ad l.length cap,.int .i64 ((wtVs l:Nat):Int)]] X _):=fun X=>items2_any ad l.length cap _ X hseg.capOr (by omega)
   have CL:Hid (∀X,LT lb w X→LK X lb fns (c+1) z→Calls prog 123 #[.pointer (some ⟨lb,0,none⟩),.slice ad l.length l.length,valN o] X fun e w'=>lkP D lb fns w k c' z' e w'∧∃tn bn,e=.returned (.tuple #[.iface tn (.pointer (some ⟨bn,0,none⟩)),.nilIface])):=fun X hX hXK=>by
    refine (lookList_of hP hU IH D o l ad l.length cs (c+1) z k c' z' X he (by omega) (by omega) hXK (fun g hg=>hD g (by have:=hX.size;omega)) (hseg.clip.tyKeep hX.rows.kv) (hvs.tyKeep hX.rows.kv) (fun v hv=>hfv.item hv) (by omega) (hO.lt' hX hOk) hOk).mono fun e w' h=>?_
    obtain⟨h1,h2,m,F,h3,h4,h5,h6,h7,h8⟩:=h
    obtain⟨tn,bn,hn⟩:=m.val_iface
    exact⟨⟨hX.trans h1,h2,m,F,h3,h4,h5,h6,fun q hq=>by have:=h7 q hq;have:=hX.size;omega,h8⟩,tn,bn,by rw[h3,hn]⟩
   generalize wtVs l=wl at *
   generalize valN o=vo at *
   clear IH hD hO hOk hK hv hP hU hfv hseg hvs he
   go_enter func87,ntmps87
   go_wp2_with (first
    |(go_at_call 122;refine CC.mono ?_;rintro e w1 ⟨rfl,hl1,hk1,-⟩;have CL1:Hid (∀Y,Below w1.heap.size w1 Y→_):=fun Y hY=>CL.out Y (hl1.below hY) (hk1.below hY);clear hl1 hk1 CL)
    |(go_at_call 124;refine (CI.out _).mono ?_;rintro e w2 ⟨rfl,hb2⟩)
    |(go_at_call 123;refine (CL1.out _ ((below1 w1 _).trans (hb2.mono (by simp)))).mono ?_;rintro e w3 ⟨hq,tn,bn,rfl⟩;have FI:Hid _:=hq;clear hq))
   go_ret2
   exact FI.out
theorem look_all {fns:List Fn}(hP:ProgOk fns)(hU:UniqF fns)(lb:Nat):∀f,LDo fns lb f
 | 0=>fun D c z v o k c' z' x w he=>by simp[lookA] at he
 | f+1=>look_step hP hU (look_all hP hU lb f)
end Go.Proofs.YtifhgjpglicjbaaGreatDoor
namespace Go.Proofs.YtifhgjpglicjbaaGreatDoor
open Go.Proofs.Tryz
open Go.RowKit Go.Lib
attribute [local go_sem ↓] Go.wp_at_zero Go.wp_at_succ
def loP (D:Nat→Prop)(w:World)(k:Ln)(z:Nat)(e:Ending)(w':World):Prop :=
 Below w.heap.size w w'∧∃n F lb,e=.returned (.tuple #[n.val,.int .i64 ((z:Nat):Int),.nilIface])∧AnD w' D n∧Made k n F∧F.Nodup∧(w.heap.size≤lb∧lb≤w'.heap.size)∧(∀b∈F,lb≤b∧b<w'.heap.size)∧∀b∈blocksA n,b∈F∨b<lb
theorem loP.drew {D:Nat→Prop}{w w':World}{k:Ln}{z:Nat}{e:Ending}(h:loP D w k z e w'):loP D w k z e w'.drew:=by
 obtain⟨h1,n,F,lb,h2,h3,h4⟩:=h
 exact⟨h1.drew,n,F,lb,h2,h3.below ((Below.refl _ _).drew),h4⟩
theorem Look_ok (D:Nat→Prop){fns:List Fn}(hP:ProgOk fns)(hU:UniqF fns)(f:Nat)(pa:Option Addr)(pn pc:Nat)(v:PV)(x:Value)(o:Option An)(k:Ln)(c' z':Nat)(w:World)(he:lookA fns f 0 0 v o=some (k,c',z'))(hprog:ProgAt w TT (.slice pa pn pc) fns)(hG:FltG w)(hN:NumG w)(h15:15≤w.heap.size)(hD:∀g,w.heap.size≤g→D g)(hv:VL w D v x)(hfv:Fine v)(hO:OD w D o)(hOk:OldOk w.heap.size o):
  Calls prog 59 #[.agg #[.slice pa pn pc],x,valN o] w (loP D w k z'):=by
 have hp:ProgAt w (·<w.heap.size) (.slice pa pn pc) fns:=(hprog.keep fun _ _ _=>rfl).weaken fun q hq=>hq.2
 have hb0:Below w.heap.size w (w.alloc (.cells #[.slice pa pn pc] 57)):=(Below.refl _ _).alloc (Nat.le_refl _) _
 have hsz:(w.alloc (.cells #[.slice pa pn pc] 57)).heap.size=w.heap.size+1:=by simp
 have FRZ:Hid (∀X,LT (w.heap.size+1) (((w.alloc (.cells #[.slice pa pn pc] 57)).alloc (.cells #[.slice pa pn pc,.int .i64 0,.int .i64 0] 206))) X→X.cell? ⟨w.heap.size,0,none⟩=some (.slice pa pn pc)):=fun X hX=>by
  refine hX.touch.cell (alloc_cell ?_) (by show ¬ w.heap.size=w.heap.size+1;omega)
  unfold World.cell?
  rw[heap_alloc_new]
  rfl
 obtain⟨X,hX⟩:∃X,X=w.alloc (.cells #[.slice pa pn pc] 57):=⟨_,rfl⟩
 rw[←hX] at hb0 hsz FRZ
 have hb:Below X.heap.size X (X.alloc (.cells #[.slice pa pn pc,.int .i64 0,.int .i64 0] 206)):=(Below.refl _ _).alloc (Nat.le_refl _) _
 have hbw:Below w.heap.size w (X.alloc (.cells #[.slice pa pn pc,.int .i64 0,.int .i64 0] 206)):=hb0.trans (hb.mono hb0.size)
 have hK:LK (X.alloc (.cells #[.slice pa pn pc,.int .i64 0,.int .i64 0] 206)) X.heap.size fns 0 0:=⟨⟨pa,pn,pc,heap_alloc_new _ _,(hp.below hbw).weaken fun q hq=>by have:q<w.heap.size:=hq;show q<X.heap.size;omega⟩,hG.below hbw,hN.same fun q hq=>hbw.block q (by omega),by omega⟩
 have hOk2:OldOk X.heap.size o:=fun n hn=>⟨(hOk n hn).1,(hOk n hn).2.1,fun b hb=>by have:=(hOk n hn).2.2 b hb;omega⟩
 have CL:=look_all hP hU X.heap.size f D 0 0 v o k c' z' x _ he (Nat.le_refl _) hK (fun g hg=>hD g (by have:=hbw.size;omega)) (hv.below hbw) hfv (hO.below hbw) hOk2
 have FIN:Hid (∀n F Y,LT X.heap.size (X.alloc (.cells #[.slice pa pn pc,.int .i64 0,.int .i64 0] 206)) Y→AnD Y D n→Made k n F→F.Nodup→(∀b∈F,(X.alloc (.cells #[.slice pa pn pc,.int .i64 0,.int .i64 0] 206)).heap.size≤b∧b<Y.heap.size)→(∀b∈blocksA n,b∈F∨b<X.heap.size)→loP D w k z' (.returned (.tuple #[n.val,.int .i64 ((z':Nat):Int),.nilIface])) Y):=fun n F Y h1 h2 h3 h4 h5 h6=>by
  refine⟨Touch.fresh hbw h1.touch fun q hq e=>?_,n,F,X.heap.size,rfl,h2,h3,h4,⟨by omega,by have:=h1.size;simp at this;omega⟩,fun b hb=>?_,h6⟩
  ·have:q=X.heap.size:=e
   omega
  ·have:=h5 b hb
   simp at this
   omega
 obtain⟨tx,xx,rfl⟩:=hv.iface
 clear he hprog hp hG hN hv hfv hO hOk hK hP hU hb hb0 hbw hOk2
 rw[hsz] at CL FIN
 subst hX
 generalize valN o=vo at *
 go_enter func59,ntmps59
 go_wp2_with (go_at_call 87;refine CL.mono ?_;rintro e w1 ⟨h1,h2,m,F,rfl,h3,h4,h5,h6,h7⟩;obtain⟨_,_,_,d0,d1,d2,df,_⟩:=h2.facts;have FI:Hid _:=FIN.out m F w1 h1 h3 h4 h5 h6 h7;obtain⟨tn,bn,hn⟩:=m.val_iface;rw[hn] at FI ⊢;clear h1 h2 h3 h4 h5 h6 h7 CL FIN)
 go_region
 all_goals (try go_wp2_with fail)
 all_goals go_ret3
 all_goals first | exact FI.out | exact loP.drew FI.out
end Go.Proofs.YtifhgjpglicjbaaGreatDoor
namespace Go.Proofs.YtifhgjpglicjbaaGreatDoor
open Go.Proofs.Tryz
open Go.Lib
def markOf:An→Mk
 | .txt _ m _=>m
 | .el _ m _ _ _ _=>m
 | .ky _ m _ _ _ _ _=>m
 | _=>mk0
def markA (k:Kd)(o:Option An)(g:Nat):Mk×Nat:=match o with
 | some n=>if alikeK k (kdA n) then (markOf n,g) else (⟨g+1,none⟩,g+1)
 | none=>(⟨g+1,none⟩,g+1)
mutual
def numA:An→Option An→Nat→An×Nat
 | .txt b _ s,o,g=>(.txt b (markA .txt o g).1 s,(markA .txt o g).2)
 | .el b _ t ats hs ks,o,g=>(.el b (markA (.el t) o g).1 t ats hs (numAs (.el t) o 0 ks (markA (.el t) o g).2).1,(numAs (.el t) o 0 ks (markA (.el t) o g).2).2)
 | .ky b _ t ats hs keys ks,o,g=>(.ky b (markA (.ky t keys) o g).1 t ats hs keys (numAs (.ky t keys) o 0 ks (markA (.ky t keys) o g).2).1,(numAs (.ky t keys) o 0 ks (markA (.ky t keys) o g).2).2)
 | .tg b f n,o,g=>(.tg b f (numA n o g).1,(numA n o g).2)
 | .lz b f args n,o,g=>(.lz b f args (numA n o g).1,(numA n o g).2)
def numAs (k:Kd)(o:Option An):Nat→List An→Nat→List An×Nat
 | _,[],g=>([],g)
 | i,n::r,g=>((numA n (bareO (oppA k o i)) g).1::(numAs k o (i+1) r (numA n (bareO (oppA k o i)) g).2).1,(numAs k o (i+1) r (numA n (bareO (oppA k o i)) g).2).2)
end
theorem numA_val (n:An)(o:Option An)(g:Nat):(numA n o g).1.val=n.val:=by cases n<;>simp[numA,An.val]
theorem numA_kd (n:An)(o:Option An)(g:Nat):kdA (numA n o g).1=kdA n:=by cases n<;>simp[numA,kdA]
mutual
theorem numA_blocks:∀(n:An) (o:Option An) (g:Nat),blocksA (numA n o g).1=blocksA n∧sizeA (numA n o g).1=sizeA n∧(WfA n→WfA (numA n o g).1)
 | .txt b m s,o,g=>by simp[numA,blocksA,sizeA,WfA]
 | .el b m t ats hs ks,o,g=>by
  have:=numAs_blocks (.el t) o ks 0 (markA (.el t) o g).2
  simp only[numA,blocksA,sizeA,WfA,this.1,this.2.1]
  exact⟨trivial,trivial,this.2.2.1⟩
 | .ky b m t ats hs keys ks,o,g=>by
  have:=numAs_blocks (.ky t keys) o ks 0 (markA (.ky t keys) o g).2
  simp only[numA,blocksA,sizeA,WfA,this.1,this.2.1]
  exact⟨trivial,trivial,fun h=>⟨by rw[this.2.2.2];exact h.1,h.2.1,this.2.2.1 h.2.2⟩⟩
 | .tg b f n,o,g=>by
  have:=numA_blocks n o g
  simp only[numA,blocksA,sizeA,WfA,this.1,this.2.1]
  exact⟨trivial,trivial,this.2.2⟩
 | .lz b f args n,o,g=>by
  have:=numA_blocks n o g
  simp only[numA,blocksA,sizeA,WfA,this.1,this.2.1]
  exact⟨trivial,trivial,fun h=>⟨h.1,this.2.2 h.2⟩⟩
theorem numAs_blocks (k:Kd)(o:Option An):∀(l:List An) (i g:Nat),blocksL (numAs k o i l g).1=blocksL l∧sizeL (numAs k o i l g).1=sizeL l∧(WfL l→WfL (numAs k o i l g).1)∧(numAs k o i l g).1.length=l.length
 | [],i,g=>by simp[numAs]
 | n::r,i,g=>by
  have h1:=numA_blocks n (bareO (oppA k o i)) g
  have h2:=numAs_blocks k o r (i+1) (numA n (bareO (oppA k o i)) g).2
  simp only[numAs,blocksL,sizeL,WfL,h1.1,h2.1,h1.2.1,h2.2.1,List.length_cons,h2.2.2.2]
  exact⟨trivial,trivial,fun h=>⟨h1.2.2 h.1,h2.2.2.1 h.2⟩,trivial⟩
end
mutual
def Fit (base:Nat):An→Option An→Prop
 | .txt b m s,o=>base≤b∨o=some (.txt b m s)
 | .el b m t ats hs ks,o=>(base≤b∨o=some (.el b m t ats hs ks))∧FitL base (.el t) o 0 ks
 | .ky b m t ats hs keys ks,o=>(base≤b∨o=some (.ky b m t ats hs keys ks))∧FitL base (.ky t keys) o 0 ks
 | .tg _ _ n,o=>Fit base n o
 | .lz _ _ _ n,o=>Fit base n o
def FitL (base:Nat)(k:Kd)(o:Option An):Nat→List An→Prop
 | _,[]=>True
 | i,n::r=>Fit base n (bareO (oppA k o i))∧FitL base k o (i+1) r
end
mutual
theorem Fit.fresh {base:Nat}:∀{n:An} {o:Option An},(∀b∈blocksA n,base≤b)→Fit base n o
 | .txt b m s,o,h=>by rw[Fit];exact Or.inl (h b (by simp[blocksA]))
 | .el b m t ats hs ks,o,h=>by rw[Fit];exact⟨Or.inl (h b (by simp[blocksA])),FitL.fresh fun q hq=>h q (by simp[blocksA,hq])⟩
 | .ky b m t ats hs keys ks,o,h=>by rw[Fit];exact⟨Or.inl (h b (by simp[blocksA])),FitL.fresh fun q hq=>h q (by simp[blocksA,hq])⟩
 | .tg b f n,o,h=>by rw[Fit];exact Fit.fresh fun q hq=>h q (by simp[blocksA,hq])
 | .lz b f args n,o,h=>by rw[Fit];exact Fit.fresh fun q hq=>h q (by simp[blocksA,hq])
theorem FitL.fresh {base:Nat}{k:Kd}{o:Option An}:∀{l:List An} {i:Nat},(∀b∈blocksL l,base≤b)→FitL base k o i l
 | [],i,h=>by rw[FitL];trivial
 | n::r,i,h=>by rw[FitL];exact⟨Fit.fresh fun q hq=>h q (by simp[blocksL,hq]),FitL.fresh fun q hq=>h q (by simp[blocksL,hq])⟩
end
theorem nodup_find {keys:List (List UInt8)}(h:keys.Nodup){i:Nat}(hi:i<keys.length):keys.findIdx? (keys[i]==·)=some i:=by
 refine findIdx_at _ keys i hi (fun j hj hl=>?_) (by simp)
 cases e:(keys[i]==keys[j]) with
 | false=>rfl
 | true =>
  have e:=beq_iff_eq.1 e
  exact absurd e.symm (List.pairwise_iff_getElem.1 h j i hl hi hj)
mutual
theorem Fit.refl {base:Nat}:∀{n:An},WfA n→Fit base n (bareO (some n))
 | .txt b m s,h=>by rw[Fit];exact Or.inr rfl
 | .el b m t ats hs ks,h=>by
  rw[WfA] at h
  rw[Fit]
  exact⟨Or.inr rfl,FitL.refl (fun j hj=>by simp[bareO,bareA,oppA,hj]) h⟩
 | .ky b m t ats hs keys ks,h=>by
  rw[WfA] at h
  rw[Fit]
  refine⟨Or.inr rfl,FitL.refl (fun j hj=>?_) h.2.2⟩
  have hj2:j<keys.length:=by omega
  simp[bareO,bareA,oppA,List.getElem?_eq_getElem hj2,nodup_find h.2.1 hj2,hj]
 | .tg b f n,h=>by
  rw[WfA] at h
  rw[Fit]
  exact Fit.refl h
 | .lz b f args n,h=>by
  rw[WfA] at h
  rw[Fit]
  exact Fit.refl h.2
theorem FitL.refl {base:Nat}{k:Kd}{o:Option An}:∀{l:List An} {i:Nat},(∀j (hj:j<l.length),oppA k o (i+j)=some l[j])→WfL l→FitL base k o i l
 | [],i,_,_=>by rw[FitL];trivial
 | n::r,i,h,hw=>by
  rw[WfL] at hw
  rw[FitL]
  have h0:=h 0 (by simp)
  simp only[Nat.add_zero,List.getElem_cons_zero] at h0
  rw[h0]
  refine⟨Fit.refl hw.1,FitL.refl (fun j hj=>?_) hw.2⟩
  have:=h (j+1) (by simp;omega)
  simp only[List.getElem_cons_succ] at this
  rw[←this]
  congr 1
  omega
end
theorem opp_bare (k:Kd)(hk:(∃t,k=.el t)∨∃t keys,k=.ky t keys)(o:Option An)(i:Nat):oppA k o i=oppA k (bareO o) i∨oppA k o i=none:=by
 rcases o with _ | n
 ·exact Or.inl rfl
 ·rcases hk with ⟨t,rfl⟩ | ⟨t,keys,rfl⟩<;>cases n<;>first | exact Or.inl rfl | exact Or.inr rfl
def FactS (S:LkS):Prop:=∀c z v o k c' z',S c z v o=some (k,c',z')→Fine v→(∀m,o=some m→WfA m)→∀n F,Made k n F→(∀base,(∀b∈F,base≤b)→Fit base n (bareO o))∧(o=none→∀b∈blocksA n,b∈F)∧WfA n
theorem opp_wf {o:Option An}(h:∀m,o=some m→WfA m)(k:Kd)(i:Nat):∀m,oppA k o i=some m→WfA m:=by
 intro n hn
 unfold oppA at hn
 split at hn
 ·split at hn
  ·have:=h _ rfl
   rw[WfA] at this
   exact this.at hn
  ·cases hn
 ·split at hn
  ·have:=h _ rfl
   rw[WfA] at this
   obtain⟨q,_,hn⟩:=Option.bind_eq_some_iff.1 hn
   obtain⟨j,_,hn⟩:=Option.bind_eq_some_iff.1 hn
   exact this.2.2.at hn
  ·cases hn
 ·have:=h _ rfl
  rw[WfA] at this
  cases hn
  exact this
 ·have:=h _ rfl
  rw[WfA] at this
  cases hn
  exact this.2
 ·cases hn
theorem lookL_facts {S:LkS}(hS:FactS S){k:Kd}(hk:(∃t,k=.el t)∨∃t keys,k=.ky t keys){o:Option An}(ho:∀m,o=some m→WfA m):∀{l:List PV} {i c z:Nat} {ks:List Ln} {c' z':Nat},lookL S k o i c z l=some (ks,c',z')→(∀v∈l,Fine v)→∀ns F,MadeL ks ns F →
  (∀base,(∀b∈F,base≤b)→FitL base k (bareO o) i ns)∧(o=none→∀b∈blocksL ns,b∈F)∧WfL ns
 | [],i,c,z,ks,c',z',h,hf,ns,F,hM=>by
  rw[lookL] at h
  cases h
  rw[MadeL] at hM
  obtain⟨rfl,rfl⟩:=hM
  exact⟨fun _ _=>by rw[FitL];trivial,fun _ b hb=>by simp[blocksL] at hb,by rw[WfL];trivial⟩
 | v::r,i,c,z,ks,c',z',h,hf,ns,F,hM=>by
  obtain⟨n,c1,z1,ms,e1,e2,rfl⟩:=lookL_step h
  rw[MadeL] at hM
  obtain⟨m,ms',F1,F2,rfl,rfl,h1,h2⟩:=hM
  have a1:=hS _ _ _ _ _ _ _ e1 (hf v (by simp)) (opp_wf ho k i) m F1 h1
  have a2:=lookL_facts hS hk ho e2 (fun v hv=>hf v (by simp[hv])) ms' F2 h2
  refine⟨fun base hb=>?_,fun hn b hb=>?_,by rw[WfL];exact⟨a1.2.2,a2.2.2⟩⟩
  ·rw[FitL]
   refine⟨?_,a2.1 base fun b hq=>hb b (List.mem_append_right _ hq)⟩
   rcases opp_bare k hk o i with e | e
   ·rw[←e]
    exact a1.1 base fun b hq=>hb b (List.mem_append_left _ hq)
   ·exact Fit.fresh fun b hq=>hb b (List.mem_append_left _ (a1.2.1 e b hq))
  ·rw[blocksL] at hb
   rcases List.mem_append.1 hb with hb | hb
   ·exact List.mem_append_left _ (a1.2.1 (by rw[hn];cases k<;>rfl) b hb)
   ·exact List.mem_append_right _ (a2.2.1 hn b hb)
theorem look_facts {fns:List Fn}(hP:ProgOk fns):∀f,FactS (lookA fns f)
 | 0=>fun c z v o k c' z' h=>by simp[lookA] at h
 | f+1=>fun c z v o k c' z' h hf ho n F hM=>by
  have ih:=look_facts hP f
  simp only[lookA] at h
  split at h
  ·cases h
  ·cases v with
   | num i =>
    simp only[Option.some.injEq,Prod.mk.injEq] at h
    obtain⟨rfl,rfl,rfl⟩:=h
    rw[Made] at hM
    obtain⟨b,rfl,rfl⟩:=hM
    exact⟨fun base hb=>by rw[Fit];exact Or.inl (hb b (by simp)),fun _ q hq=>by rw[blocksA] at hq;exact hq,by rw[WfA];trivial⟩
   | txt i =>
    simp only[Option.some.injEq,Prod.mk.injEq] at h
    obtain⟨rfl,rfl,rfl⟩:=h
    rw[Made] at hM
    obtain⟨b,rfl,rfl⟩:=hM
    exact⟨fun base hb=>by rw[Fit];exact Or.inl (hb b (by simp)),fun _ q hq=>by rw[blocksA] at hq;exact hq,by rw[WfA];trivial⟩
   | lst l =>
    have hfl:∀v∈l,Fine v:=fun v hv=>hf.item hv
    obtain⟨w,r,e1,hc⟩:=lookX_some h
    have hfr:∀v∈r,Fine v:=fun v hv=>hfl v (headV_mem e1 v hv)
    rcases hc with ⟨rfl,e2⟩ | ⟨rfl,e2⟩ | ⟨rfl,e2⟩ | ⟨rfl,e2⟩
    ·obtain⟨t,ats,hs,ks,ns,e3,e4,rfl⟩:=lookE_some e2
     rw[Made] at hM
     obtain⟨b,ns',G,rfl,rfl,hM⟩:=hM
     have a:=lookL_facts ih (Or.inl ⟨t,rfl⟩) ho e4 (elOf_fine e3 hfr).1 ns' G hM
     refine⟨fun base hb=>?_,fun hn q hq=>?_,by rw[WfA];exact a.2.2⟩
     ·rw[Fit]
      exact⟨Or.inl (hb b (by simp)),a.1 base fun q hq=>hb q (by simp[hq])⟩
     ·rw[blocksA] at hq
      rcases List.mem_cons.1 hq with rfl | hq
      ·simp
      ·simp[a.2.1 hn q hq]
    ·obtain⟨t,ats,hs,ps,keys,ks,ns,e3,e5,e4,rfl⟩:=lookK_some e2
     rw[Made] at hM
     obtain⟨b,ns',G,rfl,rfl,hM⟩:=hM
     have hp:=pairL_good e5 rfl (by simp) (by simp) (elOf_fine e3 hfr).1
     have a:=lookL_facts ih (Or.inr ⟨t,keys,rfl⟩) ho e4 hp.2.2.1 ns' G hM
     have hl:=(lookL_good (lookA_good fns f) (by omega) e4).2.2.1
     refine⟨fun base hb=>?_,fun hn q hq=>?_,by rw[WfA];exact⟨by rw[hM.length,hl];exact hp.1,hp.2.1,a.2.2⟩⟩
     ·rw[Fit]
      exact⟨Or.inl (hb b (by simp)),a.1 base fun q hq=>hb q (by simp[hq])⟩
     ·rw[blocksA] at hq
      rcases List.mem_cons.1 hq with rfl | hq
      ·simp
      ·simp[a.2.1 hn q hq]
    ·obtain⟨t,v,m,e3,_,e4,rfl⟩:=lookT_some e2
     rw[Made] at hM
     obtain⟨b,m',G,rfl,rfl,hM⟩:=hM
     have a:=ih _ _ _ _ _ _ _ e4 (hfr v (headV_mem e3 v (by simp))) (opp_wf ho .tg 0) m' G hM
     refine⟨fun base hb=>?_,fun hn q hq=>?_,by rw[WfA];exact a.2.2⟩
     ·rw[Fit]
      rcases o with _ | m0
      ·exact Fit.fresh fun q hq=>hb q (by simp[a.2.1 rfl q hq])
      ·cases m0 with
       | tg=>simpa[oppA,bareO,bareA] using a.1 base fun q hq=>hb q (by simp[hq])
       | _=>exact Fit.fresh fun q hq=>hb q (by simp[a.2.1 rfl q hq])
     ·rw[blocksA] at hq
      rcases List.mem_cons.1 hq with rfl | hq
      ·simp
      ·subst hn
       simp[a.2.1 rfl q hq]
    ·obtain⟨t,args,e3,_,hc⟩:=lookZ_some e2
     have hfa:∀v∈args,Fine v:=fun v hv=>hfr v (headV_mem e3 v hv)
     rcases hc with ⟨m,e4,_,rfl,rfl,rfl⟩ | ⟨e4,e5⟩
     ·rw[Made] at hM
      obtain⟨rfl,rfl⟩:=hM
      have hom:o=some n:=by
       unfold againA at e4
       split at e4
       ·split at e4
        ·exact e4
        ·cases e4
       ·cases e4
      refine⟨fun base _=>by rw[hom];exact Fit.refl (ho n hom),fun hn=>absurd (hn.symm.trans hom) (by simp),ho n hom⟩
     ·obtain⟨v,m,e6,e7,rfl⟩:=lookN_some e5
      rw[Made] at hM
      obtain⟨b,m',G,rfl,rfl,hM⟩:=hM
      have a:=ih _ _ _ _ _ _ _ e7 (reckP_fine hP hfa e6) (opp_wf ho .lz 0) m' G hM
      have hal:args.length≤600:=by
       have h1:=hf.2
       rw[wtV] at h1
       have h2:=vlen_le args
       have h3:=headV_rest e1
       have h4:=headV_rest e3
       omega
      refine⟨fun base hb=>?_,fun hn q hq=>?_,by rw[WfA];exact⟨⟨hal,hfa⟩,a.2.2⟩⟩
      ·rw[Fit]
       rcases o with _ | m0
       ·exact Fit.fresh fun q hq=>hb q (by simp[a.2.1 rfl q hq])
       ·cases m0 with
        | lz=>simpa[oppA,bareO,bareA] using a.1 base fun q hq=>hb q (by simp[hq])
        | _=>exact Fit.fresh fun q hq=>hb q (by simp[a.2.1 rfl q hq])
      ·rw[blocksA] at hq
       rcases List.mem_cons.1 hq with rfl | hq
       ·simp
       ·subst hn
        simp[a.2.1 rfl q hq]
end Go.Proofs.YtifhgjpglicjbaaGreatDoor
namespace Go.Proofs.YtifhgjpglicjbaaGreatDoor
open Go.Proofs.Tryz
open Go.RowKit Go.Lib
attribute [local go_sem ↓] Go.wp_at_zero Go.wp_at_succ
attribute [local go_sem] nt_Node_Text_Text nt_Node_Text_Element nt_Node_Text_Keyed nt_Node_Text_Tagged nt_Node_Text_Lazy nt_Node_Element_Text nt_Node_Element_Element nt_Node_Element_Keyed nt_Node_Element_Tagged nt_Node_Element_Lazy nt_Node_Keyed_Text nt_Node_Keyed_Element nt_Node_Keyed_Keyed nt_Node_Keyed_Tagged nt_Node_Keyed_Lazy nt_Node_Tagged_Text nt_Node_Tagged_Element nt_Node_Tagged_Keyed nt_Node_Tagged_Tagged nt_Node_Tagged_Lazy nt_Node_Lazy_Text nt_Node_Lazy_Element nt_Node_Lazy_Keyed nt_Node_Lazy_Tagged nt_Node_Lazy_Lazy nt_Node_nil_Text nt_Node_nil_Element nt_Node_nil_Keyed nt_Node_nil_Tagged nt_Node_nil_Lazy nt_Shown_Text_Text nt_Shown_Text_Element nt_Shown_Text_Keyed nt_Shown_Element_Text nt_Shown_Element_Element nt_Shown_Element_Keyed nt_Shown_Keyed_Text nt_Shown_Keyed_Element nt_Shown_Keyed_Keyed nt_Shown_nil_Text nt_Shown_nil_Element nt_Shown_nil_Keyed nt_Shown_of_Text nt_Shown_of_Element nt_Shown_of_Keyed nt_Shown_of_nil
def shownA:An→Bool
 | .txt _ _ _=>true
 | .el _ _ _ _ _ _=>true
 | .ky _ _ _ _ _ _ _=>true
 | _=>false
def blkA:An→Nat
 | .txt b _ _=>b
 | .el b _ _ _ _ _=>b
 | .ky b _ _ _ _ _ _=>b
 | .tg b _ _=>b
 | .lz b _ _ _=>b
def setM:An→Mk→An
 | .txt b _ s,m=>.txt b m s
 | .el b _ t ats hs ks,m=>.el b m t ats hs ks
 | .ky b _ t ats hs keys ks,m=>.ky b m t ats hs keys ks
 | n,_=>n
def setK:An→List An→An
 | .el b m t ats hs _,ks=>.el b m t ats hs ks
 | .ky b m t ats hs keys _,ks=>.ky b m t ats hs keys ks
 | n,_=>n
theorem bareA_shown:∀n:An,shownA (bareA n)=true
 | .txt _ _ _=>rfl
 | .el _ _ _ _ _ _=>rfl
 | .ky _ _ _ _ _ _ _=>rfl
 | .tg _ _ n=>by rw[bareA];exact bareA_shown n
 | .lz _ _ _ n=>by rw[bareA];exact bareA_shown n
theorem bareA_id {n:An}(h:shownA n=true):bareA n=n:=by cases n<;>first | rfl | cases h
theorem mk_T (b:Nat)(w:World):(Go.method 533 213 (.pointer (some ⟨b,0,none⟩)) "Marked").run prog w=.ok (245,.pointer (some ⟨b,0,none⟩)) w:=by kernel_rfl
theorem mk_E (b:Nat)(w:World):(Go.method 533 217 (.pointer (some ⟨b,0,none⟩)) "Marked").run prog w=.ok (245,.pointer (some ⟨b,0,none⟩)) w:=by kernel_rfl
theorem mk_K (b:Nat)(w:World):(Go.method 533 219 (.pointer (some ⟨b,0,none⟩)) "Marked").run prog w=.ok (245,.pointer (some ⟨b,0,none⟩)) w:=by kernel_rfl
theorem Marked_any (x:Value)(w:World):Calls prog 245 #[x] w fun e w'=>e=.returned x∧w'=w:=by
 go_enter func245,ntmps245
 go_wp2_with fail
 go_ret
 exact⟨rfl,rfl⟩
def MarkAt (x:Value)(b:Nat):Prop:=∃t,x=.iface t (.pointer (some ⟨b,0,none⟩))∧∀w,(Go.method 533 t (.pointer (some ⟨b,0,none⟩)) "Marked").run prog w=.ok (245,.pointer (some ⟨b,0,none⟩)) w
theorem shown_mark {n:An}(h:shownA n=true):MarkAt n.val (blkA n):=by
 cases n with
 | txt b m s=>exact⟨_,rfl,mk_T b⟩
 | el b m t ats hs ks=>exact⟨_,rfl,mk_E b⟩
 | ky b m t ats hs keys ks=>exact⟨_,rfl,mk_K b⟩
 | tg b f n=>cases h
 | lz b f args n=>cases h
theorem mark_cells {w:World}{D:Nat→Prop}{n:An}(h:AnD w D n)(hs:shownA n=true):w.cell? ⟨blkA n,0,none⟩=some (mkN (markOf n))∧w.cell? ⟨blkA n,1,none⟩=some (mkW (markOf n))∧w.cell? ⟨blkA n,2,none⟩=some (mkS (markOf n))∧∀j,w.frozen? ⟨blkA n,j,none⟩=false:=by
 cases n with
 | txt b m s =>
  rw[AnD] at h
  refine⟨?_,?_,?_,fun j=>?_⟩<;>first | (unfold World.cell?;simp only[blkA,h];rfl) | (unfold World.frozen?;simp only[blkA,h];rfl)
 | el b m t ats hs ks =>
  rw[AnD] at h
  obtain⟨⟨av,hv,nv,hc,h,h2⟩,h3⟩:=h
  refine⟨?_,?_,?_,fun j=>?_⟩<;>first | (unfold World.cell?;simp only[blkA,h];rfl) | (unfold World.frozen?;simp only[blkA,h];rfl)
 | ky b m t ats hs keys ks =>
  rw[AnD] at h
  obtain⟨⟨av,hv,nv,hc,kv,h,h2⟩,h3⟩:=h
  refine⟨?_,?_,?_,fun j=>?_⟩<;>first | (unfold World.cell?;simp only[blkA,h];rfl) | (unfold World.frozen?;simp only[blkA,h];rfl)
 | tg b f n=>cases hs
 | lz b f args n=>cases hs
def NB (w:World)(nb g:Nat):Prop:=w.heap[nb]?=some (.cells #[.int .i64 ((g:Nat):Int)] 211)
theorem NB.facts {w:World}{nb g:Nat}(h:NB w nb g):w.cell? ⟨nb,0,none⟩=some (.int .i64 ((g:Nat):Int))∧∀j,w.frozen? ⟨nb,j,none⟩=false:=by
 refine⟨?_,fun j=>?_⟩
 ·unfold World.cell?;rw[h];rfl
 ·unfold World.frozen?;rw[h];rfl
theorem NB.set {w:World}{nb g:Nat}(h:NB w nb g)(k:Nat):NB (w.setCell ⟨nb,0,none⟩ (.int .i64 ((k:Nat):Int))) nb k:=by
 unfold NB
 rw[set_block h]
 rfl
theorem markFor_any (k:Kd)(x:Value)(o:Option An)(g nb:Nat)(w:World)(hk:KindAt w x k)(hO:OAt w o)(hsh:∀n,o=some n→shownA n=true)(hN:NB w nb g)(hg:g≤1000000000):
  Calls prog 125 #[.pointer (some ⟨nb,0,none⟩),x,valN o] w fun e w'=>e=.returned (.agg #[mkN (markA k o g).1,mkW (markA k o g).1,mkS (markA k o g).1])∧LT nb w w'∧NB w' nb (markA k o g).2:=by
 have bX:Below w.heap.size w (w.alloc (.cells #[.int .i64 0,.bool false,.string ⟨#[]⟩] 107)):=(Below.refl _ _).alloc (Nat.le_refl _) _
 have q0:(w.alloc (.cells #[.int .i64 0,.bool false,.string ⟨#[]⟩] 107)).heap[w.heap.size]?=some (.cells #[.int .i64 0,.bool false,.string ⟨#[]⟩] 107):=heap_alloc_new _ _
 have CA:=alike_any k x o _ (hk.below bX) (OD.below hO bX)
 have QX:Hid (∀X,Below (w.alloc (.cells #[.int .i64 0,.bool false,.string ⟨#[]⟩] 107)).heap.size (w.alloc (.cells #[.int .i64 0,.bool false,.string ⟨#[]⟩] 107)) X→Below w.heap.size w X∧X.heap[w.heap.size]?=some (.cells #[.int .i64 0,.bool false,.string ⟨#[]⟩] 107)):=fun X hX=>⟨bX.trans (hX.mono bX.size),(hX.block _ (block_lt q0)).trans q0⟩
 have hnb:nb<w.heap.size:=block_lt hN
 have hne:¬ nb=w.heap.size:=by omega
 have hne2:¬ w.heap.size=nb:=by omega
 cases hal:alikeO k o with
 | true =>
  rw[hal] at CA
  obtain⟨n,rfl⟩:∃n,o=some n:=by cases o with
   | none=>cases hal
   | some n=>exact⟨n,rfl⟩
  have hsn:=hsh n rfl
  have hm:markA k (some n) g=(markOf n,g):=by
   have:alikeK k (kdA n)=true:=hal
   simp[markA,this]
  rw[hm]
  have hO':AnAt w n:=hO
  have hbl:blkA n<w.heap.size:=cell_lt (mark_cells hO' hsn).1
  have hnB:¬ blkA n=w.heap.size:=by omega
  have LTX:Hid (∀X,Below w.heap.size w X→(X.cell? ⟨blkA n,0,none⟩=some (mkN (markOf n))∧X.cell? ⟨blkA n,1,none⟩=some (mkW (markOf n))∧X.cell? ⟨blkA n,2,none⟩=some (mkS (markOf n)))∧∀a b c,LT nb w (((X.setCell ⟨w.heap.size,0,none⟩ a).setCell ⟨w.heap.size,1,none⟩ b).setCell ⟨w.heap.size,2,none⟩ c)∧NB (((X.setCell ⟨w.heap.size,0,none⟩ a).setCell ⟨w.heap.size,1,none⟩ b).setCell ⟨w.heap.size,2,none⟩ c) nb g):=fun X hX=>by
   obtain⟨m0,m1,m2,_⟩:=mark_cells (hO'.below hX) hsn
   refine⟨⟨m0,m1,m2⟩,fun a b c=>?_⟩
   have hB:=below_s3 hX a b c
   exact⟨LT.of_below hB,(hB.block nb hnb).trans hN⟩
  obtain⟨t,hx,hmeth⟩:=shown_mark hsn
  have hv:valN (some n)=.iface t (.pointer (some ⟨blkA n,0,none⟩)):=hx
  rw[hv] at CA ⊢
  have CM:=fun X=>Marked_any (.pointer (some ⟨blkA n,0,none⟩)) X
  generalize markOf n=mm at *
  generalize blkA n=bb at *
  simp only[mkN,mkW,mkS] at LTX ⊢
  clear hO hO' hsh hsn hm hal hk hx hv q0 bX hN hnb hbl
  go_enter func125,ntmps125
  go_wp2_with fail
  refine CA.mono ?_
  rintro e w1 ⟨rfl,hb1⟩
  obtain⟨b1,q1⟩:=QX.out w1 hb1
  obtain⟨⟨q3,q4,q5⟩,q6⟩:=LTX.out w1 b1
  have r0:w1.cell? ⟨w.heap.size,0,none⟩=some (.int .i64 0):=by unfold World.cell?;rw[q1];rfl
  have r1:w1.cell? ⟨w.heap.size,1,none⟩=some (.bool false):=by unfold World.cell?;rw[q1];rfl
  have r2:w1.cell? ⟨w.heap.size,2,none⟩=some (.string ⟨#[]⟩):=by unfold World.cell?;rw[q1];rfl
  have f0:=fun j=>(show w1.frozen? ⟨w.heap.size,j,none⟩=false by unfold World.frozen?;rw[q1];rfl)
  have LTY:Hid _:=q6
  clear q6 q1 LTX QX CA
  go_wp2_with (go_at_call 245;refine (CM _).mono ?_;rintro e w2 ⟨rfl,rfl⟩)
  exact bodyPost_ret (v:=.agg #[.int .i64 ((mm.num:Nat):Int),.bool mm.note.isSome,.string (bsA (mm.note.getD []))]) (by simp[results,results125,go_sem,r0,r1,r2]) rfl ⟨rfl,LTY.out _ _ _⟩
 | false =>
  rw[hal] at CA
  have hm:markA k o g=(⟨g+1,none⟩,g+1):=by
   cases o with
   | none=>rfl
   | some n =>
    have:alikeK k (kdA n)=false:=hal
    simp[markA,this]
  rw[hm]
  have SET:Hid (∀X,Below w.heap.size w X→(X.cell? ⟨nb,0,none⟩=some (.int .i64 ((g:Nat):Int))∧X.frozen? ⟨nb,0,none⟩=false)∧∀a b c,LT nb w ((((X.setCell ⟨nb,0,none⟩ (.int .i64 ((g:Int)+1))).setCell ⟨w.heap.size,0,none⟩ a).setCell ⟨w.heap.size,1,none⟩ b).setCell ⟨w.heap.size,2,none⟩ c)∧NB ((((X.setCell ⟨nb,0,none⟩ (.int .i64 ((g:Int)+1))).setCell ⟨w.heap.size,0,none⟩ a).setCell ⟨w.heap.size,1,none⟩ b).setCell ⟨w.heap.size,2,none⟩ c) nb (g+1)):=fun X hX=>by
   have hNX:NB X nb g:=(hX.block nb hnb).trans hN
   obtain⟨d0,df⟩:=hNX.facts
   refine⟨⟨d0,df 0⟩,fun a b c=>⟨?_,?_⟩⟩
   ·exact ((((LT.of_below hX).trans ⟨(Touch.refl (·=nb) X).setCell (p:=⟨nb,0,none⟩) (Or.inl rfl) _,RK.setCell hNX (by decide) _⟩).fresh (Nat.le_refl _) a).fresh (Nat.le_refl _) b).fresh (Nat.le_refl _) c
   ·have h1:=hNX.set (g+1)
    unfold NB at h1 ⊢
    rw[Below.heap_setCell _ ⟨w.heap.size,2,none⟩ c nb hne,Below.heap_setCell _ ⟨w.heap.size,1,none⟩ b nb hne,Below.heap_setCell _ ⟨w.heap.size,0,none⟩ a nb hne]
    exact h1
  have gi:(g:Int)≤1000000000:=by omega
  have e1:(((⟨g+1,none⟩:Mk).num:Nat):Int)=(g:Int)+1:=by show ((g+1:Nat):Int)=_;omega
  simp only[mkN,mkW,mkS]
  rw[e1]
  generalize valN o=vo at *
  clear hO hsh hm hal hk q0 bX hN hnb e1
  go_enter func125,ntmps125
  go_wp2_with fail
  refine CA.mono ?_
  rintro e w1 ⟨rfl,hb1⟩
  obtain⟨b1,q1⟩:=QX.out w1 hb1
  obtain⟨⟨q3,q4⟩,q6⟩:=SET.out w1 b1
  have r0:w1.cell? ⟨w.heap.size,0,none⟩=some (.int .i64 0):=by unfold World.cell?;rw[q1];rfl
  have r1:w1.cell? ⟨w.heap.size,1,none⟩=some (.bool false):=by unfold World.cell?;rw[q1];rfl
  have r2:w1.cell? ⟨w.heap.size,2,none⟩=some (.string ⟨#[]⟩):=by unfold World.cell?;rw[q1];rfl
  have f0:=fun j=>(show w1.frozen? ⟨w.heap.size,j,none⟩=false by unfold World.frozen?;rw[q1];rfl)
  have LTY:Hid _:=q6
  clear q6 q1 SET QX CA
  go_wp2_with fail
  exact bodyPost_ret (v:=.agg #[.int .i64 ((g:Int)+1),.bool false,.string ⟨#[]⟩]) (by simp[results,results125,go_sem,r0,r1,r2]) rfl ⟨rfl,LTY.out _ _ _⟩
end Go.Proofs.YtifhgjpglicjbaaGreatDoor
