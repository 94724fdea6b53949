/-
  Frames, the program: the head of a list. (Begun.)
-/
import Derived.Test.YtifhgjpglicjbaaGreatDoorReA
set_option maxHeartbeats 4000000
set_option maxRecDepth 8000
namespace Go.Proofs.YtifhgjpglicjbaaGreatDoor
open Go.Proofs.Tryz
open Go.RowKit Go.Lib
attribute [local go_sem ↓] Go.wp_at_zero Go.wp_at_succ
attribute [local go_sem] va_num_num va_num_txt va_num_lst va_txt_num va_txt_txt va_txt_lst va_lst_num va_lst_txt va_lst_lst
def headV:List PV→Option (List UInt8×List PV)
 | .txt b::r=>some (b,r)
 | _=>none
def heP (D:Nat→Prop)(w:World)(o:Option (List UInt8×List PV))(e:Ending)(w':World):Prop :=
 Below w.heap.size w w'∧((∃(s:ByteArray) (r:List PV) (ad:Option Addr) (cap:Nat) (cs:List Value),o=some (s.data.toList,r)∧e=.returned (.tuple #[.string s,.slice ad r.length cap,.nilIface])∧SegAt w' D 74 1 (.slice ad r.length cap) r.length cs∧VLs w' D r cs) ∨
  (o=none∧∃b:ByteArray,e=.returned (.tuple #[.string ⟨#[]⟩,.slice none 0 0,whyB b])))
theorem headed_any (D:Nat→Prop)(l:List PV)(ad:Option Addr)(cap:Nat)(cs:List Value)(w:World)(hseg:SegAt w D 74 1 (.slice ad l.length cap) l.length cs)(hvs:VLs w D l cs):
  Calls prog 161 #[.slice ad l.length cap] w (heP D w (headV l)):=by
 cases l with
 | nil =>
  have FIN:Hid (∀b:ByteArray,heP D w none (.returned (.tuple #[.string ⟨#[]⟩,.slice none 0 0,whyB b])) w):=fun b=>⟨Below.refl _ _,Or.inr ⟨rfl,b,rfl⟩⟩
  show Calls _ _ _ _ (heP D w none)
  clear hseg hvs
  generalize heP D w none=Q at *
  simp only[List.length_nil]
  go_enter func161,ntmps161
  go_wp2_with fail
  go_ret3
  exact FIN.out _
 | cons v r =>
  obtain⟨x,hx,hvx⟩:=hvs.at 0 (by simp)
  obtain⟨g,o,cp,hcap,hgD,hc1,hc2,hcell⟩:=hseg.cell (by simp)
  cases hcap
  have c0:w.cell? ⟨g,o,none⟩=some x:=by
   have:=hcell 0 (by simp)
   rw[hx] at this
   exact this
  have hrs:VLs w D r (cs.drop 1):=by
   rw[VLs] at hvs
   obtain⟨y,ys,rfl,_,h3⟩:=hvs
   exact h3
  have hsuf0:=hseg.suf 1 (by simp)
  simp only[List.length_cons,Nat.add_sub_cancel,Nat.one_mul] at hsuf0
  obtain⟨ya,hya,hsuf⟩:∃ya,(if cap=1 then some (⟨g,o,none⟩:Addr) else some ⟨g,o+1,none⟩)=ya∧SegAt w D 74 1 (.slice ya r.length (cap-1)) r.length (cs.drop 1):=by
   refine⟨_,rfl,?_⟩
   split
   ·have h0:r.length=0:=by simp at hc1;omega
    exact⟨hsuf0.1,Or.inl ⟨⟨_,_,by rw[h0]⟩,h0⟩⟩
   ·exact hsuf0
  have hl1:(1:Int)≤(r.length:Int)+1:=by omega
  have hl2:¬ (r.length:Int)+1=0:=by omega
  unfold maxLen at hc2
  simp only[List.length_cons] at hc1 ⊢
  clear hsuf0 hcell hx hvs hseg
  rcases VL_kind hvx with ⟨z,rfl,rfl⟩ | ⟨s,rfl,rfl⟩ | ⟨l,ad,cap,cs,rfl,rfl,_,_⟩
  ·have FIN:Hid (∀b:ByteArray,heP D w (headV (.num z::r)) (.returned (.tuple #[.string ⟨#[]⟩,.slice none 0 0,whyB b])) w):=fun b=>⟨Below.refl _ _,Or.inr ⟨rfl,b,rfl⟩⟩
   clear hsuf hrs hvx
   go_enter func161,ntmps161
   go_wp2_with fail
   go_ret3
   exact FIN.out _
  ·have FIN:Hid (∀X,Below w.heap.size w X→heP D w (headV (.txt s.data.toList::r)) (.returned (.tuple #[.string s,.slice ya r.length (cap-1),.nilIface])) X):=fun X hX=>⟨hX,Or.inl ⟨s,r,ya,cap-1,_,rfl,rfl,hsuf.below hX,hrs.below hX⟩⟩
   clear hsuf hrs hvx
   go_enter func161,ntmps161
   go_wp2_with fail
   go_region
   all_goals (go_wp2_with fail)
   all_goals go_ret3
   all_goals exact FIN.out _ (by first | exact Below.refl _ _ | exact (Below.refl _ _).drew)
  ·have FIN:Hid (∀X (b:ByteArray),Below w.heap.size w X→heP D w (headV (.lst l::r)) (.returned (.tuple #[.string ⟨#[]⟩,.slice none 0 0,whyB b])) X):=fun X b hX=>⟨hX,Or.inr ⟨rfl,b,rfl⟩⟩
   clear hsuf hrs hvx
   go_enter func161,ntmps161
   go_wp2_with fail
   go_ret3
   exact FIN.out _ _ (by first | exact Below.refl _ _ | exact below1 _ _)
def pairV:PV→Option (List UInt8×PV)
 | .lst [.txt k,v]=>some (k,v)
 | _=>none
def kvP (D:Nat→Prop)(w:World)(o:Option (List UInt8×PV))(e:Ending)(w':World):Prop :=
 Below w.heap.size w w'∧((∃(s:ByteArray) (v:PV) (x:Value),o=some (s.data.toList,v)∧e=.returned (.tuple #[.string s,x,.nilIface])∧VL w' D v x) ∨
  (o=none∧∃b:ByteArray,e=.returned (.tuple #[.string ⟨#[]⟩,.nilIface,whyB b])))
theorem pairV_none {l:List PV}(h:headV l=none):pairV (.lst l)=none:=by
 cases l with
 | nil=>rfl
 | cons a r=>cases a<;>first | rfl | cases h
def one1 (b:List UInt8):List PV→Option (List UInt8×PV)
 | [v]=>some (b,v)
 | _=>none
theorem one1_none {b:List UInt8}{r:List PV}(h:r.length≠1):one1 b r=none:=by
 match r,h with
 | [],_=>rfl
 | [_],h=>exact absurd rfl h
 | _::_::_,_=>rfl
theorem pairV_some {l r:List PV}{b:List UInt8}(h:headV l=some (b,r)):pairV (.lst l)=one1 b r:=by
 cases l with
 | nil=>cases h
 | cons a q =>
  cases a with
  | num _=>cases h
  | lst _=>cases h
  | txt c =>
   cases h
   match r with
   | []=>rfl
   | [v]=>rfl
   | _::_::_=>rfl
theorem keyAndValue_any (D:Nat→Prop)(v:PV)(x:Value)(w:World)(hv:VL w D v x)(hw:wtV v≤600):
  Calls prog 216 #[x] w (kvP D w (pairV v)):=by
 obtain⟨R,hR⟩:∃R,R=pairV v:=⟨_,rfl⟩
 rw[←hR]
 have FIN:Hid (∀X (b:ByteArray),R=none→Below w.heap.size w X→kvP D w R (.returned (.tuple #[.string ⟨#[]⟩,.nilIface,whyB b])) X):=fun X b h hX=>⟨hX,Or.inr ⟨h,b,rfl⟩⟩
 rcases VL_kind hv with ⟨z,rfl,rfl⟩ | ⟨s,rfl,rfl⟩ | ⟨l,ad,cap,cs,rfl,rfl,hseg,hvs⟩
 ·have HO:Hid (R=none):=hR
  clear hv hR
  go_enter func216,ntmps216
  go_wp2_with fail
  go_ret3
  exact FIN.out _ _ HO.out (by first | exact Below.refl _ _ | exact below1 _ _)
 ·have HO:Hid (R=none):=hR
  clear hv hR
  go_enter func216,ntmps216
  go_wp2_with fail
  go_ret3
  exact FIN.out _ _ HO.out (by first | exact Below.refl _ _ | exact below1 _ _)
 ·rw[wtV] at hw
  have hll:=vlen_le l
  have CI:Hid (∀X,Calls prog 124 #[.agg #[.slice ad l.length cap,.int .i64 ((wtVs l:Nat):Int)]] X _):=fun X=>items2_any ad l.length cap _ X hseg.capOr (by omega)
  have CH:Hid (∀X,Below w.heap.size w X→Calls prog 161 #[.slice ad l.length l.length] X (heP D X (headV l))):=fun X hX=>headed_any D l ad l.length cs X (hseg.clip.below hX) (hvs.below hX)
  have N0:Hid (headV l=none→R=none):=fun h=>by rw[hR];exact pairV_none h
  have N1:Hid (∀b r,headV l=some (b,r)→R=one1 b r):=fun b r h=>by rw[hR];exact pairV_some h
  generalize wtVs l=wl at *
  clear hv hR hseg hvs
  go_enter func216,ntmps216
  go_wp2_with (go_at_call 124;refine (CI.out _).mono ?_;rintro e w1 ⟨rfl,hb1⟩)
  have B1:Below w.heap.size w w1:=(below1 w _).trans (hb1.mono (by simp))
  refine (CH.out w1 B1).mono ?_
  rintro e w2 ⟨hb2,⟨s,r,ra,rc,rcs,ho,rfl,hsg,hrv⟩ | ⟨ho,b,rfl⟩⟩
  ·have HE:=N1.out _ _ ho
   have B2:=B1.trans (hb2.mono B1.size)
   by_cases h1:r.length=1
   ·obtain⟨u,rfl⟩:∃u,r=[u]:=by
     match r,h1 with
     | [u],_=>exact⟨u,rfl⟩
    obtain⟨y,hy,hvy⟩:=hrv.at 0 (by simp)
    obtain⟨g,o,cp,hcap,_,hc1,hc2,hcell⟩:=hsg.cell (by simp)
    cases hcap
    have c0:w2.cell? ⟨g,o,none⟩=some y:=by
     have:=hcell 0 (by simp)
     rw[hy] at this
     exact this
    have FI2:Hid (∀X,Below w2.heap.size w2 X→kvP D w R (.returned (.tuple #[.string s,y,.nilIface])) X):=fun X hX=>⟨B2.trans (hX.mono B2.size),Or.inl ⟨s,u,y,HE,rfl,hvy.below hX⟩⟩
    obtain⟨ty,yy,rfl⟩:=hvy.iface
    unfold maxLen at hc2
    clear CH CI N0 N1 HE ho hsg hrv hcell hy hvy
    simp only[List.length_cons,List.length_nil] at hc1 ⊢
    go_wp2_with fail
    go_region
    all_goals (go_wp2_with fail)
    all_goals go_ret3
    all_goals exact FI2.out _ (by first | exact Below.refl _ _ | exact (Below.refl _ _).drew)
   ·have HO:Hid (R=none):=by rw[HE];exact one1_none h1
    have hi1:decide ((r.length:Int)=1)=false:=decide_eq_false (by omega)
    have hi2:¬ (r.length:Int)=1:=by omega
    clear CH CI N0 N1 HE ho hsg hrv
    go_wp2_with fail
    go_ret3
    exact FIN.out _ _ HO.out B2
  ·have HO:Hid (R=none):=N0.out ho
   have B2:=B1.trans (hb2.mono B1.size)
   clear CH CI N0 N1 ho
   go_wp2_with fail
   go_ret3
   exact FIN.out _ _ HO.out B2
def atOf (n:List UInt8):List PV→Option (List UInt8)
 | [.txt t]=>if wordN n then some t else none
 | _=>none
def aoP (w:World)(nb:ByteArray)(o:Option (List UInt8))(e:Ending)(w':World):Prop :=
 Below w.heap.size w w'∧((∃s:ByteArray,o=some s.data.toList∧e=.returned (.tuple #[.agg #[.string nb,.string s],.nilIface])) ∨
  (o=none∧∃b:ByteArray,e=.returned (.tuple #[.agg #[.string ⟨#[]⟩,.string ⟨#[]⟩],whyB b])))
theorem atOf_no {n:List UInt8}{r:List PV}(h:wordN n=false∨r.length≠1):atOf n r=none:=by
 match r,h with
 | [],_=>rfl
 | [.num _],_=>rfl
 | [.lst _],_=>rfl
 | [.txt t],h =>
  rcases h with h | h
  ·simp[atOf,h]
  ·exact absurd rfl h
 | .num _::_::_,_=>rfl
 | .lst _::_::_,_=>rfl
 | .txt _::_::_,_=>rfl
theorem attributeOf_any (D:Nat→Prop)(nb:ByteArray)(r:List PV)(ad:Option Addr)(cap:Nat)(cs:List Value)(w:World)(hn:nb.size≤maxLen)(hseg:SegAt w D 74 1 (.slice ad r.length cap) r.length cs)(hvs:VLs w D r cs):
  Calls prog 224 #[.string nb,.slice ad r.length cap] w (aoP w nb (atOf nb.data.toList r)):=by
 obtain⟨R,hR⟩:∃R,R=atOf nb.data.toList r:=⟨_,rfl⟩
 rw[←hR]
 have FIN:Hid (∀X (b:ByteArray),R=none→Below w.heap.size w X→aoP w nb R (.returned (.tuple #[.agg #[.string ⟨#[]⟩,.string ⟨#[]⟩],whyB b])) X):=fun X b h hX=>⟨hX,Or.inr ⟨h,b,rfl⟩⟩
 have CW:=fun X=>isWord_any nb X hn
 have NO:Hid (wordN nb.data.toList=false∨r.length≠1→R=none):=fun h=>by rw[hR];exact atOf_no h
 cases hwd:wordN nb.data.toList with
 | false =>
  have HO:Hid (R=none):=NO.out (Or.inl hwd)
  rw[hwd] at CW
  clear hR hseg hvs NO
  go_enter func224,ntmps224
  go_wp2_with (go_at_call 214;refine (CW _).mono ?_;rintro e w1 ⟨rfl,rfl⟩)
  exact bodyPost_ret (v:=.tuple #[.agg #[.string ⟨#[]⟩,.string ⟨#[]⟩],whyB _]) (by simp[results,results224,go_sem];rfl) rfl (FIN.out _ _ HO.out (by first | exact Below.refl _ _ | exact below1 _ _))
 | true =>
  rw[hwd] at CW
  by_cases h1:r.length=1
  ·obtain⟨u,rfl⟩:∃u,r=[u]:=by
    match r,h1 with
    | [u],_=>exact⟨u,rfl⟩
   obtain⟨y,hy,hvy⟩:=hvs.at 0 (by simp)
   obtain⟨g,o,cp,hcap,_,hc1,hc2,hcell⟩:=hseg.cell (by simp)
   cases hcap
   have c0:w.cell? ⟨g,o,none⟩=some y:=by
    have:=hcell 0 (by simp)
    rw[hy] at this
    exact this
   have hgl:=cell_lt c0
   have c1:=alloc_cell (o:=Obj.cells #[.string ⟨#[]⟩,.string ⟨#[]⟩] 270) c0
   unfold maxLen at hc2
   simp only[List.length_cons,List.length_nil] at hc1 ⊢
   clear hseg hcell hy hvs NO
   rcases VL_kind hvy with ⟨z,rfl,rfl⟩ | ⟨s,rfl,rfl⟩ | ⟨l,ad,cap,cs,rfl,rfl,_,_⟩
   ·have HO:Hid (R=none):=hR
    clear hR hvy
    go_enter func224,ntmps224
    go_wp2_with (go_at_call 214;refine (CW _).mono ?_;rintro e w1 ⟨rfl,rfl⟩)
    exact bodyPost_ret (v:=.tuple #[.agg #[.string ⟨#[]⟩,.string ⟨#[]⟩],whyB _]) (by simp[results,results224,go_sem];rfl) rfl (FIN.out _ _ HO.out (by first | exact Below.refl _ _ | exact below1 _ _))
   ·have FI2:Hid (∀X,Below w.heap.size w X→aoP w nb R (.returned (.tuple #[.agg #[.string nb,.string s],.nilIface])) X):=fun X hX=>⟨hX,Or.inl ⟨s,by rw[hR];simp[atOf,hwd],rfl⟩⟩
    clear hR hvy
    go_enter func224,ntmps224
    go_wp2_with (go_at_call 214;refine (CW _).mono ?_;rintro e w1 ⟨rfl,rfl⟩)
    exact bodyPost_ret (v:=.tuple #[.agg #[.string nb,.string s],.nilIface]) (by simp[results,results224,go_sem]) rfl (FI2.out _ (by first | exact Below.refl _ _ | exact below1 _ _))
   ·have HO:Hid (R=none):=hR
    clear hR hvy
    go_enter func224,ntmps224
    go_wp2_with (go_at_call 214;refine (CW _).mono ?_;rintro e w1 ⟨rfl,rfl⟩)
    exact bodyPost_ret (v:=.tuple #[.agg #[.string ⟨#[]⟩,.string ⟨#[]⟩],whyB _]) (by simp[results,results224,go_sem];rfl) rfl (FIN.out _ _ HO.out (by first | exact Below.refl _ _ | exact below1 _ _))
  ·have HO:Hid (R=none):=NO.out (Or.inr h1)
   have hi2:¬ (r.length:Int)=1:=by omega
   clear hR hseg hvs NO
   go_enter func224,ntmps224
   go_wp2_with (go_at_call 214;refine (CW _).mono ?_;rintro e w1 ⟨rfl,rfl⟩)
   exact bodyPost_ret (v:=.tuple #[.agg #[.string ⟨#[]⟩,.string ⟨#[]⟩],whyB _]) (by simp[results,results224,go_sem];rfl) rfl (FIN.out _ _ HO.out (by first | exact Below.refl _ _ | exact below1 _ _))
def hdR:List PV→Option (PV×Bool)
 | [m]=>some (m,false)
 | [m,.num z]=>some (m,decide (z≠0))
 | _=>none
def hdOf (l:List PV):Option Hd:=match headV l with
 | none=>none
 | some (e,r)=>if wordN e then (hdR r).map fun x=>⟨e,x.1,x.2⟩ else none
def hoP (D:Nat→Prop)(w:World)(o:Option Hd)(e:Ending)(w':World):Prop :=
 Below w.heap.size w w'∧((∃(s:ByteArray) (m:PV) (x:Value) (t:Bool),o=some ⟨s.data.toList,m,t⟩∧e=.returned (.tuple #[.agg #[.string s,x,.bool t],.nilIface])∧VL w' D m x) ∨
  (o=none∧∃b:ByteArray,e=.returned (.tuple #[.agg #[.string ⟨#[]⟩,.nilIface,.bool false],whyB b])))
theorem hdR_no {r:List PV}(h:r.length<1∨2<r.length):hdR r=none:=by
 match r,h with
 | [],_=>rfl
 | [_],h=>simp at h
 | [_,_],h=>simp at h
 | _::.num _::_::_,_=>rfl
 | _::.txt _::_::_,_=>rfl
 | _::.lst _::_::_,_=>rfl
theorem headV_wt {l r:List PV}{b:List UInt8}(h:headV l=some (b,r)):b.length≤wtVs l:=by
 cases l with
 | nil=>cases h
 | cons a q =>
  cases a with
  | num _=>cases h
  | lst _=>cases h
  | txt c =>
   cases h
   rw[wtVs,wtV]
   omega
theorem below_s3 {w X:World}(h:Below w.heap.size w X)(a b c:Value):Below w.heap.size w (((X.setCell ⟨w.heap.size,0,none⟩ a).setCell ⟨w.heap.size,1,none⟩ b).setCell ⟨w.heap.size,2,none⟩ c):=((h.setCell (p:=⟨w.heap.size,0,none⟩) (Nat.le_refl _) a).setCell (p:=⟨w.heap.size,1,none⟩) (Nat.le_refl _) b).setCell (p:=⟨w.heap.size,2,none⟩) (Nat.le_refl _) c
theorem resN3 {X:World}{B:Nat}{x0 x1 x2:Value}{t:TypeId}(hq:X.heap[B]?=some (.cells #[x0,x1,x2] t))(a b c:Value)(o:Obj):
  ((((X.setCell ⟨B,0,none⟩ a).setCell ⟨B,1,none⟩ b).setCell ⟨B,2,none⟩ c).alloc o).cell? ⟨B,0,none⟩=some a∧((((X.setCell ⟨B,0,none⟩ a).setCell ⟨B,1,none⟩ b).setCell ⟨B,2,none⟩ c).alloc o).cell? ⟨B,1,none⟩=some b∧((((X.setCell ⟨B,0,none⟩ a).setCell ⟨B,1,none⟩ b).setCell ⟨B,2,none⟩ c).alloc o).cell? ⟨B,2,none⟩=some c:=by
 have h1:=set_block (j:=2) (set_block (j:=1) (set_block (j:=0) hq a) b) c
 refine⟨alloc_cell ?_,alloc_cell ?_,alloc_cell ?_⟩<;>(unfold World.cell?;rw[h1];rfl)
theorem vl_over {w w2 X:World}{D:Nat→Prop}{v:PV}{x:Value}(h2:Below w.heap.size w w2)(hX:Below w.heap.size w X)(h:VL w2 (fun g=>D g∧g<w.heap.size) v x):VL X D v x :=
 h.map fun _ _ _ g=>(g.keep fun q hq _=>by rw[hX.block q hq.2,h2.block q hq.2]).weaken fun q hq=>hq.1.1
theorem handlerOf_any (D:Nat→Prop)(l:List PV)(ad:Option Addr)(cap:Nat)(cs:List Value)(w:World)(hw:wtVs l≤600)(hseg:SegAt w D 74 1 (.slice ad l.length cap) l.length cs)(hvs:VLs w D l cs):
  Calls prog 223 #[.slice ad l.length cap] w (hoP D w (hdOf l)):=by
 obtain⟨R,hR⟩:∃R,R=hdOf l:=⟨_,rfl⟩
 rw[←hR]
 have FIN:Hid (∀X (b:ByteArray),R=none→Below w.heap.size w X→hoP D w R (.returned (.tuple #[.agg #[.string ⟨#[]⟩,.nilIface,.bool false],whyB b])) X):=fun X b h hX=>⟨hX,Or.inr ⟨h,b,rfl⟩⟩
 have N0:Hid (headV l=none→R=none):=fun h=>by rw[hR];unfold hdOf;rw[h]
 have N1:Hid (∀e r,headV l=some (e,r)→wordN e=false→R=none):=fun e r h h2=>by rw[hR];unfold hdOf;rw[h];simp[h2]
 have N2:Hid (∀e r,headV l=some (e,r)→wordN e=true→R=(hdR r).map fun x=>⟨e,x.1,x.2⟩):=fun e r h h2=>by rw[hR];unfold hdOf;rw[h];simp[h2]
 have bX:=below1 w (Obj.cells #[.string ⟨#[]⟩,.nilIface,.bool false] 160)
 have CH:=headed_any (fun g=>D g∧g<w.heap.size) l ad cap cs _ (hseg.keep fun q _ hq=>bX.block q hq) (hvs.map fun _ _ _ h=>h.keep fun q _ hq=>bX.block q hq)
 have q0:(w.alloc (Obj.cells #[.string ⟨#[]⟩,.nilIface,.bool false] 160)).heap[w.heap.size]?=some (Obj.cells #[.string ⟨#[]⟩,.nilIface,.bool false] 160):=heap_alloc_new _ _
 have QX:Hid (∀X,Below (w.alloc (Obj.cells #[.string ⟨#[]⟩,.nilIface,.bool false] 160)).heap.size (w.alloc (Obj.cells #[.string ⟨#[]⟩,.nilIface,.bool false] 160)) X→Below w.heap.size w X∧X.heap[w.heap.size]?=some (Obj.cells #[.string ⟨#[]⟩,.nilIface,.bool false] 160)):=fun X hX=>⟨bX.trans (hX.mono bX.size),by rw[hX.block _ (by simp)];exact q0⟩
 clear hR hseg hvs bX q0
 go_enter func223,ntmps223
 go_wp2_with fail
 refine CH.mono ?_
 rintro e w2 ⟨hb2,⟨s,r,ra,rc,rcs,ho,rfl,hsg,hrv⟩ | ⟨ho,b,rfl⟩⟩
 ·obtain⟨B2,q2⟩:=QX.out _ hb2
  have r0:w2.cell? ⟨w.heap.size,0,none⟩=some (.string ⟨#[]⟩):=by unfold World.cell?;rw[q2];rfl
  have r1:w2.cell? ⟨w.heap.size,1,none⟩=some .nilIface:=by unfold World.cell?;rw[q2];rfl
  have r2:w2.cell? ⟨w.heap.size,2,none⟩=some (.bool false):=by unfold World.cell?;rw[q2];rfl
  have f0:=fun j=>(show w2.frozen? ⟨w.heap.size,j,none⟩=false by unfold World.frozen?;rw[q2];rfl)
  have hsl:=headV_wt ho
  rw[show s.data.toList.length=s.size by simp] at hsl
  have CW:=fun X=>isWord_any s X (by unfold maxLen;omega)
  cases hwd:wordN s.data.toList with
  | false =>
   have HO:Hid (R=none):=N1.out _ _ ho hwd
   rw[hwd] at CW
   clear CH N0 N1 N2 QX ho hsg hrv q2 hb2
   go_wp2_with (go_at_call 214;refine (CW _).mono ?_;rintro e w1 ⟨rfl,rfl⟩)
   exact bodyPost_ret (v:=.tuple #[.agg #[.string ⟨#[]⟩,.nilIface,.bool false],whyB _]) (by simp[results,results223,go_sem,r0,r1,r2];rfl) rfl (FIN.out _ _ HO.out (below_s3 B2 _ _ _))
  | true =>
   have HN:=N2.out _ _ ho hwd
   rw[hwd] at CW
   by_cases h1:r.length<1∨2<r.length
   ·have HO:Hid (R=none):=by rw[HN,hdR_no h1];rfl
    have hc:decide ((r.length:Int)<1)=true∨(decide ((r.length:Int)<1)=false∧decide ((2:Int)<(r.length:Int))=true):=by
     rcases h1 with h | h
     ·exact Or.inl (decide_eq_true (by omega))
     ·exact Or.inr ⟨decide_eq_false (by omega),decide_eq_true (by omega)⟩
    clear CH N0 N1 N2 QX ho hsg hrv q2 hb2 HN
    rcases hc with hc | ⟨hc,hd⟩
    ·go_wp2_with (go_at_call 214;refine (CW _).mono ?_;rintro e w1 ⟨rfl,rfl⟩)
     exact bodyPost_ret (v:=.tuple #[.agg #[.string ⟨#[]⟩,.nilIface,.bool false],whyB _]) (by simp[results,results223,go_sem,r0,r1,r2];rfl) rfl (FIN.out _ _ HO.out (below_s3 B2 _ _ _))
    ·go_wp2_with (go_at_call 214;refine (CW _).mono ?_;rintro e w1 ⟨rfl,rfl⟩)
     exact bodyPost_ret (v:=.tuple #[.agg #[.string ⟨#[]⟩,.nilIface,.bool false],whyB _]) (by simp[results,results223,go_sem,r0,r1,r2];rfl) rfl (FIN.out _ _ HO.out (below_s3 B2 _ _ _))
   ·have hlt:=block_lt q2
    have hsz:=hb2.size
    have RS:Hid (∀a b c o,_):=fun a b c o=>resN3 q2 a b c o
    obtain⟨y,hy,hvy⟩:=hrv.at 0 (by omega)
    obtain⟨g,o,cp,hcap,_,hc1,hc2,hcell⟩:=hsg.cell (by omega)
    cases hcap
    have c0:w2.cell? ⟨g,o,none⟩=some y:=by
     have:=hcell 0 (by omega)
     rw[hy] at this
     exact this
    have hgl:=cell_lt c0
    have qX:∀x t,(w2.alloc (Obj.cells #[.string s,x,t] 160)).heap[w.heap.size]?=some (Obj.cells #[.string ⟨#[]⟩,.nilIface,.bool false] 160):=fun x t=>by rw[(below1 w2 _).block _ hlt];exact q2
    have rX0:=fun x t=>alloc_cell (o:=Obj.cells #[.string s,x,t] 160) r0
    have rX1:=fun x t=>alloc_cell (o:=Obj.cells #[.string s,x,t] 160) r1
    have rX2:=fun x t=>alloc_cell (o:=Obj.cells #[.string s,x,t] 160) r2
    have fX:=fun x t j=>(show (w2.alloc (Obj.cells #[.string s,x,t] 160)).frozen? ⟨w.heap.size,j,none⟩=false by unfold World.frozen?;rw[qX];rfl)
    obtain⟨ty,yy,rfl⟩:=hvy.iface
    unfold maxLen at hc2
    by_cases h2:r.length=1
    ·obtain⟨m,rfl⟩:∃m,r=[m]:=by
      match r,h2 with
      | [m],_=>exact⟨m,rfl⟩
     have FI2:Hid (∀X,Below w.heap.size w X→hoP D w R (.returned (.tuple #[.agg #[.string s,.iface ty yy,.bool false],.nilIface])) X):=fun X hX=>⟨hX,Or.inl ⟨s,m,_,false,HN,rfl,vl_over B2 hX hvy⟩⟩
     clear CH N0 N1 N2 QX ho hsg hrv q2 hb2 HN hcell hy hvy qX
     simp only[List.length_cons,List.length_nil] at hc1 ⊢
     go_wp2_with (go_at_call 214;refine (CW _).mono ?_;rintro e w1 ⟨rfl,rfl⟩)
     obtain⟨z0,z1,z2⟩:=RS.out (.string s) (.iface ty yy) (.bool false) (Obj.cells #[.string s,.iface ty yy,.bool false] 160)
     exact bodyPost_ret (v:=.tuple #[.agg #[.string s,.iface ty yy,.bool false],.nilIface]) (by simp[results,results223,go_sem,z0,z1,z2]) rfl (FI2.out _ ((below_s3 B2 _ _ _).alloc (below_s3 B2 _ _ _).size _))
    ·obtain⟨m,q,rfl⟩:∃m q,r=[m,q]:=by
      match r,h1,h2 with
      | [],h1,_=>exact absurd (Or.inl (by simp)) h1
      | [_],_,h2=>exact absurd rfl h2
      | [m,q],_,_=>exact⟨m,q,rfl⟩
      | _::_::_::_,h1,_=>exact absurd (Or.inr (by simp)) h1
     obtain⟨z,hz,hvz⟩:=hrv.at 1 (by simp)
     have c1:w2.cell? ⟨g,o+1,none⟩=some z:=by
      have:=hcell 1 (by simp)
      rw[hz] at this
      exact this
     have cX:=fun x t=>alloc_cell (o:=Obj.cells #[.string s,x,t] 160) c1
     simp only[List.length_cons,List.length_nil] at hc1 ⊢
     rcases VL_kind hvz with ⟨n,rfl,rfl⟩ | ⟨sz,rfl,rfl⟩ | ⟨lz,adz,capz,csz,rfl,rfl,_,_⟩
     ·have FI2:Hid (∀X,Below w.heap.size w X→hoP D w R (.returned (.tuple #[.agg #[.string s,.iface ty yy,.bool (n != 0)],.nilIface])) X):=fun X hX=>⟨hX,Or.inl ⟨s,m,_,_,by rw[HN];simp[hdR,bne];rfl,rfl,vl_over B2 hX hvy⟩⟩
      clear CH N0 N1 N2 QX ho hsg hrv q2 hb2 HN hcell hy hvy qX hz hvz
      go_wp2_with (go_at_call 214;refine (CW _).mono ?_;rintro e w1 ⟨rfl,rfl⟩)
      obtain⟨z0,z1,z2⟩:=RS.out (.string s) (.iface ty yy) (.bool (n != 0)) (Obj.cells #[.string s,.iface ty yy,.bool (n != 0)] 160)
      exact bodyPost_ret (v:=.tuple #[.agg #[.string s,.iface ty yy,.bool (n != 0)],.nilIface]) (by simp[results,results223,go_sem,z0,z1,z2]) rfl (FI2.out _ ((below_s3 B2 _ _ _).alloc (below_s3 B2 _ _ _).size _))
     all_goals
      have HO:Hid (R=none):=HN
      clear CH N0 N1 N2 QX ho hsg hrv q2 hb2 HN hcell hy hvy qX hz hvz
      go_wp2_with (go_at_call 214;refine (CW _).mono ?_;rintro e w1 ⟨rfl,rfl⟩)
      obtain⟨z0,z1,z2⟩:=RS.out (.string ⟨#[]⟩) .nilIface (.bool false) (Obj.cells #[.string s,.iface ty yy,.bool false] 160)
      exact bodyPost_ret (v:=.tuple #[.agg #[.string ⟨#[]⟩,.nilIface,.bool false],whyB _]) (by simp[results,results223,go_sem,z0,z1,z2];rfl) rfl (FIN.out _ _ HO.out ((below_s3 B2 _ _ _).alloc (below_s3 B2 _ _ _).size _))
 ·obtain⟨B2,q2⟩:=QX.out _ hb2
  have r0:w2.cell? ⟨w.heap.size,0,none⟩=some (.string ⟨#[]⟩):=by unfold World.cell?;rw[q2];rfl
  have r1:w2.cell? ⟨w.heap.size,1,none⟩=some .nilIface:=by unfold World.cell?;rw[q2];rfl
  have r2:w2.cell? ⟨w.heap.size,2,none⟩=some (.bool false):=by unfold World.cell?;rw[q2];rfl
  have f0:=(show w2.frozen? ⟨w.heap.size,0,none⟩=false by unfold World.frozen?;rw[q2];rfl)
  have f1:=(show w2.frozen? ⟨w.heap.size,1,none⟩=false by unfold World.frozen?;rw[q2];rfl)
  have f2:=(show w2.frozen? ⟨w.heap.size,2,none⟩=false by unfold World.frozen?;rw[q2];rfl)
  have HO:Hid (R=none):=N0.out ho
  clear CH N0 N1 N2 QX ho q2 hb2
  go_wp2_with fail
  exact bodyPost_ret (v:=.tuple #[.agg #[.string ⟨#[]⟩,.nilIface,.bool false],whyB _]) (by simp[results,results223,go_sem,r0,r1,r2];rfl) rfl (FIN.out _ _ HO.out (below_s3 B2 _ _ _))
end Go.Proofs.YtifhgjpglicjbaaGreatDoor
