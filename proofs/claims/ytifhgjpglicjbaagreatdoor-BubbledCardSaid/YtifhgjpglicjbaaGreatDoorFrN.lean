/-
  Frames, the program: Opposite; Bare; Size. (Begun.)
-/
import Derived.Test.YtifhgjpglicjbaaGreatDoorFrJ
import Derived.Test.YtifhgjpglicjbaaGreatDoorReA
import Derived.Test.YtifhgjpglicjbaaGreatDoorParA
import Derived.Test.YtifhgjpglicjbaaGreatDoorRdA
set_option maxHeartbeats 4000000
set_option maxRecDepth 8000
namespace Go.Proofs.YtifhgjpglicjbaaGreatDoor
open Go.Proofs.Tryz
open Go.RowKit Go.Lib
attribute [local go_sem ↓] Go.wp_at_zero Go.wp_at_succ
attribute [local go_sem] nt_Node_Text_Text nt_Node_Text_Element nt_Node_Text_Keyed nt_Node_Text_Tagged nt_Node_Text_Lazy nt_Node_Element_Text nt_Node_Element_Element nt_Node_Element_Keyed nt_Node_Element_Tagged nt_Node_Element_Lazy nt_Node_Keyed_Text nt_Node_Keyed_Element nt_Node_Keyed_Keyed nt_Node_Keyed_Tagged nt_Node_Keyed_Lazy nt_Node_Tagged_Text nt_Node_Tagged_Element nt_Node_Tagged_Keyed nt_Node_Tagged_Tagged nt_Node_Tagged_Lazy nt_Node_Lazy_Text nt_Node_Lazy_Element nt_Node_Lazy_Keyed nt_Node_Lazy_Tagged nt_Node_Lazy_Lazy nt_Node_nil_Text nt_Node_nil_Element nt_Node_nil_Keyed nt_Node_nil_Tagged nt_Node_nil_Lazy nt_Shown_Text_Text nt_Shown_Text_Element nt_Shown_Text_Keyed nt_Shown_Element_Text nt_Shown_Element_Element nt_Shown_Element_Keyed nt_Shown_Keyed_Text nt_Shown_Keyed_Element nt_Shown_Keyed_Keyed nt_Shown_nil_Text nt_Shown_nil_Element nt_Shown_nil_Keyed nt_Shown_of_Text nt_Shown_of_Element nt_Shown_of_Keyed nt_Shown_of_nil
def BO (o:Option An):Prop:=(kidsO o).length≤100000∧(keysA o).length≤100000
theorem opp_any (k:Kd)(x:Value)(o:Option An)(i:Nat)(w:World)(hk:KindAt w x k)(h:OAt w o)(hi:∀t keys,k=.ky t keys→i<keys.length∧keys.length≤100000)(h0:k=.tg∨k=.lz→i=0)(hi2:i≤100000)(hb:BO o):
  Calls prog 126 #[x,valN o,.int .i64 ((i:Nat):Int)] w fun e w'=>e=.returned (valN (oppA k o i))∧Below w.heap.size w w':=by
 by_cases hky:∃t keys,k=.ky t keys
 ·obtain⟨t,keys,rfl⟩:=hky
  obtain⟨h1,h2⟩:=hi t keys rfl
  exact opp_keyed t keys x o i w hk h h1 h2 hb.1 hb.2
 ·refine opp_plain k x o i w hk h (fun t keys e=>hky ⟨t,keys,e⟩) (fun hal=>?_) hi2 hb.1
  rcases o with _ | ⟨b2,m,s⟩ | ⟨b2,m,u,ats,hs,ks⟩ | ⟨b2,m,u,ats,hs,keys',ks⟩ | ⟨b2,f,n⟩ | ⟨b2,f,args,n⟩<;>cases k<;>first | cases hal | skip
  ·rfl
  ·have hal:(_==_)=true:=hal
   simp only[oppA,hal,if_true,kidsO]
  ·exact absurd ⟨_,_,rfl⟩ hky
  ·rw[h0 (Or.inl rfl)];rfl
  ·rw[h0 (Or.inr rfl)];rfl
def bareA:An→An
 | .tg _ _ n=>bareA n
 | .lz _ _ _ n=>bareA n
 | n=>n
def bareO:Option An→Option An
 | none=>none
 | some n=>some (bareA n)
def sizeO:Option An→Nat
 | none=>0
 | some n=>sizeA n
theorem bare_any (o:Option An)(w:World)(h:OAt w o):Calls prog 64 #[valN o] w fun e w'=>e=.returned (valN (bareO o))∧w'=w:=by
 obtain⟨R,hR⟩:∃R,R=valN (bareO o):=⟨_,rfl⟩
 rw[←hR]
 have H0:Hid (OAt w o∧R=valN (bareO o)):=⟨h,hR⟩
 clear h hR
 go_enter func64,ntmps64
 go_wp2_with fail
 go_loopg [0] (sizeO o) (fun gh nv wr=>∃o',nv=valN o'∧gh=sizeO o'∧wr=w∧Aside (OAt w o'∧R=valN (bareO o')))
 case atStart=>exact⟨o,rfl,rfl,rfl,H0.out⟩
 case round =>
  obtain⟨o',rfl,rfl,rfl,hP⟩:=hrel
  obtain⟨hO,hR⟩:=hP.out
  clear hP
  match o',hO,hR with
  | none,_,hR =>
   have HR:Hid (R=.nilIface):=hR
   clear hR
   simp only[valN]
   go_wp2_with fail
   go_ret
   exact⟨by rw[HR.out];rfl,rfl⟩
  | some (.txt b m s),_,hR =>
   have HR:Hid (R=.iface 213 (.pointer (some ⟨b,0,none⟩))):=hR
   clear hR
   simp only[valN,An.val]
   go_wp2_with fail
   go_ret
   exact⟨by rw[HR.out];rfl,rfl⟩
  | some (.el b m t ats hs ks),_,hR =>
   have HR:Hid (R=.iface 217 (.pointer (some ⟨b,0,none⟩))):=hR
   clear hR
   simp only[valN,An.val]
   go_wp2_with fail
   go_ret
   exact⟨by rw[HR.out];rfl,rfl⟩
  | some (.ky b m t ats hs keys ks),_,hR =>
   have HR:Hid (R=.iface 219 (.pointer (some ⟨b,0,none⟩))):=hR
   clear hR
   simp only[valN,An.val]
   go_wp2_with fail
   go_ret
   exact⟨by rw[HR.out];rfl,rfl⟩
  | some (.tg b f n),h,hR =>
   have h:AnAt wr _:=h
   rw[AnAt,AnD] at h
   have c1:wr.cell? ⟨b,1,none⟩=some n.val:=by unfold World.cell?;rw[h.1];rfl
   have HN:Hid (OAt wr (some n)∧R=valN (bareO (some n))):=⟨h.2,hR⟩
   have hs:sizeO (some n)<sizeO (some (.tg b f n)):=by simp[sizeO,sizeA]
   generalize sizeO (some (.tg b f n))=gz at *
   obtain⟨tt,bb,he⟩:=n.val_iface
   rw[he] at c1
   clear h hR
   simp only[valN,An.val]
   go_wp2_with fail
   go_roundg (sizeO (some n))
   case measure=>exact hs
   case rel=>exact⟨some n,he.symm,rfl,rfl,HN.out⟩
  | some (.lz b f args n),h,hR =>
   have h:AnAt wr _:=h
   rw[AnAt,AnD] at h
   obtain⟨⟨sl,cs,h1,h2,h3⟩,h4⟩:=h
   have c1:wr.cell? ⟨b,2,none⟩=some n.val:=by unfold World.cell?;rw[h1];rfl
   have HN:Hid (OAt wr (some n)∧R=valN (bareO (some n))):=⟨h4,hR⟩
   have hs:sizeO (some n)<sizeO (some (.lz b f args n)):=by simp[sizeO,sizeA]
   generalize sizeO (some (.lz b f args n))=gz at *
   obtain⟨tt,bb,he⟩:=n.val_iface
   rw[he] at c1
   clear h1 h2 h3 h4 hR
   simp only[valN,An.val]
   go_wp2_with fail
   go_roundg (sizeO (some n))
   case measure=>exact hs
   case rel=>exact⟨some n,he.symm,rfl,rfl,HN.out⟩
theorem sizeL_take:∀(l:List An) (j:Nat) (hj:j<l.length),sizeL (l.take (j+1))=sizeL (l.take j)+sizeA l[j]
 | [],j,hj=>by simp at hj
 | a::r,0,_=>by simp[sizeL]
 | a::r,j+1,hj=>by
  have:=sizeL_take r j (by simpa using hj)
  simp only[List.take_succ_cons,sizeL,List.getElem_cons_succ]
  omega
theorem sizeL_take_le:∀(l:List An) (j:Nat),sizeL (l.take j)≤sizeL l
 | [],j=>by simp
 | a::r,0=>by simp[sizeL]
 | a::r,j+1=>by
  have:=sizeL_take_le r j
  simp only[List.take_succ_cons,sizeL]
  omega
theorem sizeA_pos (n:An):1≤sizeA n:=by cases n<;>simp[sizeA]
theorem sizeL_len:∀l:List An,l.length≤sizeL l
 | []=>by simp[sizeL]
 | a::r=>by
  have:=sizeL_len r
  have:=sizeA_pos a
  simp only[List.length_cons,sizeL]
  omega
theorem sizeA_kids (n:An):sizeA n=1+sizeL (kidsO (some n)):=by cases n<;>simp[sizeA,kidsO,sizeL]
theorem kids_at {w:World}{n:An}(h:AnAt w n):AnsAt w (kidsO (some n)):=by
 cases n with
 | txt b m s=>trivial
 | el b m t ats hs ks=>rw[AnAt,AnD] at h;exact h.2
 | ky b m t ats hs keys ks=>rw[AnAt,AnD] at h;exact h.2
 | tg b f n=>rw[AnAt,AnD] at h;exact⟨h.2,trivial⟩
 | lz b f args n=>rw[AnAt,AnD] at h;exact⟨h.2,trivial⟩
theorem size_any:∀(f:Nat) (n:An) (w:World),sizeA n≤f→sizeA n≤100000→AnAt w n →
  Calls prog 218 #[n.val] w fun e w'=>e=.returned (.int .i64 ((sizeA n:Nat):Int))∧Below w.heap.size w w'
 | 0,n,w,hf,_,_=>by have:=sizeA_pos n;omega
 | f+1,n,w,hf,hb,h=>by
  have IH:Hid (∀(n:An) (w:World),sizeA n≤f→sizeA n≤100000→AnAt w n→Calls prog 218 #[n.val] w _):=size_any f
  have CI:=inside_any (some n) w h
  have hk:=kids_at h
  have hs:=sizeA_kids n
  have hl:=sizeL_len (kidsO (some n))
  have INP:Hid (∀X e w',inP X (some n) e w'→Below X.heap.size X w'∧∃ad cap,e=.returned (.slice ad (kidsO (some n)).length cap)∧SegAt w' TT 90 1 (.slice ad (kidsO (some n)).length cap) (kidsO (some n)).length ((kidsO (some n)).map An.val)):=fun X e w' h=>h
  generalize kidsO (some n)=kk at *
  rw[hs] at hf hb ⊢
  have IH2:Hid (∀X j (hj:j<kk.length),Below w.heap.size w X→Calls prog 218 #[kk[j].val] X _):=fun X j hj hX=>IH.out kk[j] X (by
    have:=sizeL_take kk j hj
    have:=sizeL_take_le kk (j+1)
    omega) (by
    have:=sizeL_take kk j hj
    have:=sizeL_take_le kk (j+1)
    omega) ((hk.below hX).at j hj)
  clear h hk hs IH
  have e1:valN (some n)=n.val:=rfl
  rw[e1] at CI
  generalize n.val=y at *
  go_enter func218,ntmps218
  go_wp2_with (go_at_call 66;refine CI.mono ?_;intro e w2 hin;obtain⟨hb2,ad,cap,rfl,hsg⟩:=INP.out _ _ _ hin;clear hin)
  have IH3:Hid (∀X j (hj:j<kk.length),Below w2.heap.size w2 X→Calls prog 218 #[kk[j].val] X fun e w'=>e=.returned (.int .i64 ((sizeA kk[j]:Nat):Int))∧Below X.heap.size X w'):=fun X j hj hX=>IH2.out X j hj (hb2.trans (hX.mono hb2.size))
  have CELL:Hid (∀j (hj:j<kk.length),∃g o tn bn,ad=some ⟨g,o,none⟩∧kk.length≤cap∧cap≤9223372036854775807∧w2.cell? ⟨g,o+j,none⟩=some (.iface tn (.pointer (some ⟨bn,0,none⟩)))∧kk[j].val=.iface tn (.pointer (some ⟨bn,0,none⟩))):=fun j hj=>by
   obtain⟨g,o,h1,h2,h3,h4⟩:=seg_at hsg hj
   obtain⟨tn,bn,hn⟩:=kk[j].val_iface
   unfold maxLen at h3
   refine⟨g,o,tn,bn,h1,h2,by omega,?_,hn⟩
   rw[h4,List.getElem?_map,List.getElem?_eq_getElem hj,←hn]
   rfl
  clear CI INP IH2 hsg
  go_loopg [3,9] kk.length (fun gh sv iv wr=>∃j:Nat,gh=kk.length-j∧iv=.int .i64 ((j:Nat):Int)∧sv=.int .i64 ((1+sizeL (kk.take j):Nat):Int)∧j≤kk.length∧Below w2.heap.size w2 wr)
  case atStart=>exact⟨0,by omega,rfl,by simp[sizeL],Nat.zero_le _,Below.refl _ _⟩
  case round =>
   obtain⟨j,rfl,rfl,rfl,hj,hB⟩:=hrel
   by_cases hjl:j<kk.length
   ·obtain⟨g,o,tn,bn,rfl,hc1,hc2,c0,hn⟩:=CELL.out j hjl
    have c1:=Below.cellv hB c0
    have CS:=IH3.out wr j hjl hB
    rw[hn] at CS
    have hst:=sizeL_take kk j hjl
    have hle:=sizeL_take_le kk (j+1)
    have hji:(j:Int)<((kk.length:Nat):Int):=by omega
    clear c0 hn IH3 CELL
    generalize sizeL (kk.take j)=s1 at *
    generalize sizeA kk[j]=s3 at *
    rw[hst] at hle
    have HST:Hid (sizeL (kk.take (j+1))=s1+s3):=hst
    clear hst
    go_wp2_with (go_at_call 218;refine CS.mono ?_;rintro e w3 ⟨rfl,hb3⟩)
    go_roundg (kk.length-(j+1))
    case measure=>omega
    case rel=>exact⟨j+1,rfl,by go_num,by rw[HST.out];go_num,by omega,hB.trans (hb3.mono hB.size)⟩
   ·have hjj:j=kk.length:=by omega
    have hji:¬ (j:Int)<((kk.length:Nat):Int):=by omega
    subst hjj
    rw[List.take_length]
    go_wp2_with fail
    go_ret
    exact⟨rfl,hb2.trans (hB.mono hb2.size)⟩
end Go.Proofs.YtifhgjpglicjbaaGreatDoor
namespace Go.Proofs.YtifhgjpglicjbaaGreatDoor
open Go.Proofs.Tryz
open Go.RowKit Go.Lib
attribute [local go_sem ↓] Go.wp_at_zero Go.wp_at_succ
attribute [local go_sem] va_num_num va_num_txt va_num_lst va_txt_num va_txt_txt va_txt_lst va_lst_num va_lst_txt va_lst_lst
theorem VLs.set {w:World}{D:Nat→Prop}{v:PV}{x:Value}(hv:VL w D v x):∀{l:List PV} {cs:List Value} (i:Nat),VLs w D l cs→VLs w D (l.set i v) (cs.set i x)
 | [],cs,i,h=>by rw[VLs] at h;subst h;simp[VLs]
 | a::r,cs,i,h=>by
  rw[VLs] at h
  obtain⟨y,ys,rfl,h1,h2⟩:=h
  cases i with
  | zero=>simp only[List.set_cons_zero];rw[VLs];exact⟨_,_,rfl,hv,h2⟩
  | succ i=>simp only[List.set_cons_succ];rw[VLs];exact⟨_,_,rfl,h1,VLs.set hv i h2⟩
theorem wtVs_setV (v:PV):∀(l:List PV) (i:Nat),wtVs (l.set i v)≤wtVs l+wtV v
 | [],i=>by simp[wtVs]
 | a::r,0=>by simp only[List.set_cons_zero];rw[wtVs,wtVs];omega
 | a::r,i+1=>by simp only[List.set_cons_succ];rw[wtVs,wtVs];have:=wtVs_setV v r i;omega
theorem set3_ok {l:List PV}{i:Nat}{v:PV}(hi:i<l.length):set3 (.lst l) (.num (i:Int)) v=some (.lst (l.set i v)):=by
 show setV l (i:Int) v=_
 unfold setV
 rw[if_pos ⟨by omega,by omega⟩]
 simp
theorem set3_no {a b v:PV}(h:∀l i,a=.lst l→b=.num i→¬ (0≤i∧i<l.length)):set3 a b v=none:=by
 cases a with
 | lst l =>
  cases b with
  | num i=>show setV l i v=none;unfold setV;rw[if_neg (h l i rfl rfl)]
  | txt _=>rfl
  | lst _=>rfl
 | num _=>rfl
 | txt _=>rfl
theorem VL_lst {w:World}{D:Nat→Prop}{l:List PV}{sl:Value}{cs:List Value}(h1:SegAt w D 74 1 sl l.length cs)(h2:VLs w D l cs):VL w D (.lst l) (.iface 195 (.agg #[sl,.int .i64 ((wtVs l:Nat):Int)])):=by
 rw[VL]
 exact⟨sl,cs,rfl,h1,h2⟩
theorem replaced_any (D:Nat→Prop)(a b c:PV)(x y z:Value)(w:World)(ha:VL w D a x)(hb:VL w D b y)(hc:VL w D c z)(hw:wtV a≤600)(hwc:wtV c≤600)(hD:∀g,w.heap.size≤g→D g):
  Calls prog 184 #[x,y,z] w (vePost D w (set3 a b c)):=by
 have CP:=placeIn_any D a b x y w ha hb hw
 obtain⟨tx,xx,rfl⟩:=ha.iface
 obtain⟨ty,yy,rfl⟩:=hb.iface
 obtain⟨tz,zz,rfl⟩:=hc.iface
 have hl:∀l,a=.lst l→l.length≤600∧wtVs l≤600:=fun l h=>by subst h;rw[wtV] at hw;have:=vlen_le l;omega
 clear ha hb hw
 go_enter func184,ntmps184
 go_wp2_with fail
 refine CP.mono ?_
 rintro e w1 ⟨hb1,⟨l,i,g,o,cs,rfl,rfl,hi,rfl,hseg,hvs⟩ | ⟨hno,b',rfl⟩⟩
 ·obtain⟨hl2,hl3⟩:=hl l rfl
  have CC:=vclone_any D l _ cs w1 (by omega) (by omega) hseg hvs
  have HV:Aside (set3 (.lst l) (.num (i:Int)) c=some (.lst (l.set i c))):=show _=_ from set3_ok hi
  have hi3:(i:Int)<((l.length:Nat):Int):=by omega
  generalize set3 (.lst l) (.num (i:Int)) c=R at *
  clear CP hl hseg
  have sz1:=hb1.size
  go_wp2_with fail
  refine CC.mono ?_
  rintro e w2 ⟨v2,rfl,own2,hb2⟩
  obtain⟨ad2,cap2,rfl⟩:=owns_slice own2
  have sz2:=hb2.size
  have hsz:l.length≤cap2∧cap2≤maxLen∧∃g2,ad2=some ⟨g2,0,none⟩∧w1.heap.size≤g2∧g2<w2.heap.size:=by
   rcases own2.2 with ⟨_,h0⟩ | ⟨g2,cp,cur,he,hg,hh,hc1,hc2,_⟩
   ·omega
   ·cases he;exact⟨hc1,hc2,g2,rfl,hg,block_lt hh⟩
  obtain⟨hcap2,hcm,g2,rfl,hg2a,hg2b⟩:=hsz
  have hcl:cs.length=l.length:=by have:=own2.1;omega
  obtain⟨xo,hxo⟩:∃xo,cs[i]?=some xo:=⟨cs[i]'(by omega),List.getElem?_eq_getElem _⟩
  have hcell:w2.cell? ⟨g2,i,none⟩=some xo:=by
   rcases own2.2 with ⟨_,h0⟩ | ⟨g3,cp,cur,he,hg,hh,hc1,hc2,hcs,htk⟩
   ·omega
   ·cases he
    have:w2.cell? ⟨g2,i,none⟩=cur[i]?:=by unfold World.cell?;rw[hh];rfl
    rw[this,←Array.getElem?_toList]
    rw[←htk,List.getElem?_take,if_pos (by omega)] at hxo
    exact hxo
  have hfr:w2.frozen? ⟨g2,i,none⟩=false:=own2.frozenAt i
  have hsto:=own2.stored i (.iface tz zz)
  -- the values in the new world
  have hS:∀k,k<w1.heap.size→(w2.setCell ⟨g2,i,none⟩ (.iface tz zz)).heap[k]?=w1.heap[k]?:=fun k hk=>by
   rw[Below.heap_setCell w2 ⟨g2,i,none⟩ _ k (by show k≠g2;omega),hb2.block k hk]
  have vz:VL (w2.setCell ⟨g2,i,none⟩ (.iface tz zz)) D c (.iface tz zz):=((hc.below hb1).map fun sl n xs hs=>(hs.keep fun k _ hlt=>hS k hlt).weaken fun k hk=>hk.1)
  have vl:VLs (w2.setCell ⟨g2,i,none⟩ (.iface tz zz)) D l cs:=(hvs.map fun sl n xs hs=>(hs.keep fun k _ hlt=>hS k hlt).weaken fun k hk=>hk.1)
  have vn:=VLs.set vz i vl
  have seg3:SegAt (w2.setCell ⟨g2,i,none⟩ (.iface tz zz)) D 74 1 (.slice (some ⟨g2,0,none⟩) l.length cap2) (l.set i c).length (cs.set i (.iface tz zz)):=by
   rw[List.length_set]
   exact (SegAt.of_row (RowAt.of_owns hsto.1)).weaken fun k hk=>hD k (by omega)
  have hb3:Below w.heap.size w (w2.setCell ⟨g2,i,none⟩ (.iface tz zz)):=(hb1.trans (hb2.mono sz1)).setCell (p:=⟨g2,i,none⟩) (by show w.heap.size≤g2;omega) _
  have hwt:=wtVs_setV c l i
  have CN:=newList_any D (l.set i c) _ _ _ seg3 vn (by omega)
  have FIN:Hid (∀X,Below (w2.setCell ⟨g2,i,none⟩ (.iface tz zz)).heap.size (w2.setCell ⟨g2,i,none⟩ (.iface tz zz)) X→vePost D w R (.returned (.tuple #[.iface 195 (.agg #[.slice (some ⟨g2,0,none⟩) l.length cap2,.int .i64 ((wtVs (l.set i c):Nat):Int)]),.nilIface])) X):=fun X hX=>ve_ok (hb3.trans (hX.mono hb3.size)) HV.out (VL_lst (seg3.below hX) (vn.below hX))
  clear CC own2 hsto hS vz vl vn seg3 hb3 hwt hvs hc hxo HV hcl
  generalize wtVs (l.set i c)=W at *
  go_wp2_with (go_at_call 143;refine CN.mono ?_;rintro e w4 ⟨rfl,hb4⟩)
  go_ret2
  exact FIN.out _ hb4
 ·have HV:Aside (set3 a b c=none):=set3_no hno
  generalize set3 a b c=R at *
  clear hl CP
  go_wp2_with fail
  go_ret2
  exact ve_no hb1 HV.out (flt_why _)
def join2:PV→PV→Option PV
 | .txt x,.txt y=>some (.txt (x++y))
 | .lst x,.lst y=>some (.lst (x++y))
 | _,_=>none
theorem joined_any (D:Nat→Prop)(a b:PV)(x y:Value)(w:World)(ha:VL w D a x)(hb:VL w D b y)(hw:wtV a≤600)(hwb:wtV b≤600)(hD:∀g,w.heap.size≤g→D g):
  Calls prog 209 #[x,y] w (vePost D w (join2 a b)):=by
 rcases VL_kind ha with ⟨z,rfl,rfl⟩ | ⟨s,rfl,rfl⟩ | ⟨l,ad,cap,cs,rfl,rfl,hseg,hvs⟩
 ·rcases VL_kind hb with ⟨z2,rfl,rfl⟩ | ⟨s2,rfl,rfl⟩ | ⟨l2,ad2,cap2,cs2,rfl,rfl,_,_⟩
  all_goals
   clear ha hb
   go_enter func209,ntmps209
   go_wp2
   go_ret2
   exact ve_no (by first | exact Below.refl _ _ | exact below1 w _) rfl (flt_why _)
 ·rcases VL_kind hb with ⟨z2,rfl,rfl⟩ | ⟨s2,rfl,rfl⟩ | ⟨l2,ad2,cap2,cs2,rfl,rfl,_,_⟩
  ·clear ha hb
   go_enter func209,ntmps209
   go_wp2
   go_ret2
   exact ve_no (by first | exact Below.refl _ _ | exact below1 w _) rfl (flt_why _)
  ·have HV:Aside (join2 (.txt s.data.toList) (.txt s2.data.toList)=some (.txt (s++s2).data.toList)):=by show _=_;rw[join2];simp
   generalize join2 (.txt s.data.toList) (.txt s2.data.toList)=R at *
   clear ha hb
   rw[wtV,tl_size] at hw hwb
   go_enter func209,ntmps209
   go_wp2
   go_ret2
   exact ve_ok (by first | exact Below.refl _ _ | exact below1 w _) HV.out (VL_txt _ _ _)
  ·clear ha hb
   go_enter func209,ntmps209
   go_wp2
   go_ret2
   exact ve_no (by first | exact Below.refl _ _ | exact below1 w _) rfl (flt_why _)
 ·rcases VL_kind hb with ⟨z2,rfl,rfl⟩ | ⟨s2,rfl,rfl⟩ | ⟨l2,ad2,cap2,cs2,rfl,rfl,hseg2,hvs2⟩
  ·clear ha hb hseg hvs
   go_enter func209,ntmps209
   go_wp2
   go_ret2
   exact ve_no (by first | exact (below1 w _).alloc (by simp) _ | exact Below.refl _ _ | exact below1 w _) rfl (flt_why _)
  ·clear ha hb hseg hvs
   go_enter func209,ntmps209
   go_wp2
   go_ret2
   exact ve_no (by first | exact (below1 w _).alloc (by simp) _ | exact Below.refl _ _ | exact below1 w _) rfl (flt_why _)
  ·have HV:Aside (join2 (.lst l) (.lst l2)=some (.lst (l++l2))):=show _=_ by rw[join2]
   generalize join2 (.lst l) (.lst l2)=R at *
   clear ha hb
   rw[wtV] at hw hwb
   have hl:=vlen_le l
   have hl2:=vlen_le l2
   have CI:Hid (∀X,Calls prog 124 #[.agg #[.slice ad l.length cap,.int .i64 ((wtVs l:Nat):Int)]] X _):=fun X=>items2_any ad l.length cap _ X hseg.capOr (by omega)
   have CJ:Hid (∀X,Calls prog 124 #[.agg #[.slice ad2 l2.length cap2,.int .i64 ((wtVs l2:Nat):Int)]] X _):=fun X=>items2_any ad2 l2.length cap2 _ X hseg2.capOr (by omega)
   have CC:Hid (∀(X:World) (b:Nat),Below w.heap.size w X→X.cell? ⟨b,0,none⟩=some (.slice ad l.length l.length)→X.cell? ⟨b,1,none⟩=some (.slice ad2 l2.length l2.length)→Calls prog 222 #[.slice (some ⟨b,0,none⟩) 2 2] X _):=fun X b hX c0 c1=>vconcat_any D l.length l2.length _ _ cs cs2 X b (by omega) (by omega) (hseg.clip.below hX) (hseg2.clip.below hX) hvs.one_cell hvs2.one_cell c0 c1
   go_enter func209,ntmps209
   go_wp2_with fail
   have bX:Below w.heap.size w ((w.alloc (Obj.cells #[.slice ad l.length cap,.int .i64 ((wtVs l:Nat):Int)] 195)).alloc (Obj.cells #[.slice ad2 l2.length cap2,.int .i64 ((wtVs l2:Nat):Int)] 195)):=(below1 w _).alloc (by simp) _
   have q0:((w.alloc (Obj.cells #[.slice ad l.length cap,.int .i64 ((wtVs l:Nat):Int)] 195)).alloc (Obj.cells #[.slice ad2 l2.length cap2,.int .i64 ((wtVs l2:Nat):Int)] 195)).cell? ⟨w.heap.size,0,none⟩=some (.slice ad l.length cap):=by rw[World.cell?_alloc_lt _ _ ⟨w.heap.size,0,none⟩ (by simp)];simp
   have q1:((w.alloc (Obj.cells #[.slice ad l.length cap,.int .i64 ((wtVs l:Nat):Int)] 195)).alloc (Obj.cells #[.slice ad2 l2.length cap2,.int .i64 ((wtVs l2:Nat):Int)] 195)).cell? ⟨w.heap.size,1,none⟩=some (.int .i64 ((wtVs l:Nat):Int)):=by rw[World.cell?_alloc_lt _ _ ⟨w.heap.size,1,none⟩ (by simp)];simp
   have q2:((w.alloc (Obj.cells #[.slice ad l.length cap,.int .i64 ((wtVs l:Nat):Int)] 195)).alloc (Obj.cells #[.slice ad2 l2.length cap2,.int .i64 ((wtVs l2:Nat):Int)] 195)).cell? ⟨w.heap.size+1,0,none⟩=some (.slice ad2 l2.length cap2):=by rw[World.cell?_alloc_at _ _ _ _ (by simp)];rfl
   have q3:((w.alloc (Obj.cells #[.slice ad l.length cap,.int .i64 ((wtVs l:Nat):Int)] 195)).alloc (Obj.cells #[.slice ad2 l2.length cap2,.int .i64 ((wtVs l2:Nat):Int)] 195)).cell? ⟨w.heap.size+1,1,none⟩=some (.int .i64 ((wtVs l2:Nat):Int)):=by rw[World.cell?_alloc_at _ _ _ _ (by simp)];rfl
   generalize ((w.alloc (Obj.cells #[.slice ad l.length cap,.int .i64 ((wtVs l:Nat):Int)] 195)).alloc (Obj.cells #[.slice ad2 l2.length cap2,.int .i64 ((wtVs l2:Nat):Int)] 195))=X at *
   have CN:Hid (∀(A Y:World) (v:Value),Below w.heap.size w A→Below A.heap.size A Y→Y.ownsRow A.heap.size 74 1 v (l.length+l2.length) (cs++cs2)→Calls prog 143 #[v] Y fun e w'=>e=.returned (.agg #[v,.int .i64 ((wtVs (l++l2):Nat):Int)])∧vePost D w R (.returned (.tuple #[.iface 195 (.agg #[v,.int .i64 ((wtVs (l++l2):Nat):Int)]),.nilIface])) w'):=fun A Y v hA hY own=>by
    have hAz:=hA.size
    have vY:VLs Y D (l++l2) (cs++cs2):=VLs.append ((hvs2.below hA).below hY) ((hvs.below hA).below hY)
    have sY:SegAt Y D 74 1 v (l++l2).length (cs++cs2):=by
     rw[List.length_append]
     exact (SegAt.of_row (RowAt.of_owns own)).weaken fun k hk=>hD k (by omega)
    refine (newList_any D (l++l2) v _ Y sY vY (by rw[wtVs_app];omega)).mono fun e w' ⟨h1,h2⟩=>⟨h1,ve_ok ((hA.trans (hY.mono hAz)).trans (h2.mono (Nat.le_trans hAz hY.size))) HV.out (VL_lst (sY.below h2) (vY.below h2))⟩
   have bXz:=bX.size
   have BD:Hid (∀A B:World,Below X.drew.heap.size X.drew A→Below A.heap.size A B→Below w.heap.size w B):=fun A B h1 h2=>((bX.drew).trans (h1.mono bXz)).trans (h2.mono (Nat.le_trans bXz h1.size))
   clear hvs hvs2 hseg hseg2 HV bX hD
   generalize wtVs (l++l2)=W at *
   go_region_with (first
    |(go_at_call 124;refine (CJ.out _).mono ?_;rintro e w2 ⟨rfl,hb2⟩;have bB:=BD.out _ _ hb1 hb2)
    |(go_at_call 124;refine (CI.out _).mono ?_;rintro e w1 ⟨rfl,hb1⟩;have r2:=Below.cellv hb1 q2;have r3:=Below.cellv hb1 q3)
    |(go_at_call 222;go_loud (refine (CC.out _ _ (bB.alloc bB.size _) (by simp) (by simp)).mono ?_;rintro e w3 ⟨v3,rfl,own3,hb3⟩;obtain⟨a3,k3,rfl⟩:=owns_slice own3))
    |(go_at_call 143;go_loud (refine (CN.out _ _ _ (bB.alloc bB.size _) hb3 own3).mono ?_;rintro e w4 ⟨rfl,hv4⟩)))
   all_goals (go_wp2_with fail)
   all_goals (go_ret2;exact hv4)
end Go.Proofs.YtifhgjpglicjbaaGreatDoor
namespace Go.Proofs.YtifhgjpglicjbaaGreatDoor
open Go.Proofs.Tryz
open Go.RowKit
attribute [local go_sem ↓] Go.wp_at_zero Go.wp_at_succ
attribute [local go_sem] va_num_num va_num_txt va_num_lst va_txt_num va_txt_txt va_txt_lst va_lst_num va_lst_txt va_lst_lst
theorem below2v (w:World)(o o':Obj):Below w.heap.size w ((w.alloc o).alloc o'):=(below1 w o).alloc (by simp) o'
def VSameDo (n:Nat)(D:Nat→Prop):Prop:=∀(a b:PV) (x y:Value) (w:World),wtV a≤n→VL w D a x→VL w D b y →
  Calls prog 207 #[x,y] w fun e w'=>e=.returned (.bool (sameV a b))∧Below w.heap.size w w'
theorem equal_of {n:Nat}{D:Nat→Prop}(ih:VSameDo n D)(l m:List PV)(sl sm:Value)(cs ds:List Value)(w:World)(hl:wtVs l≤n)(_hn:n≤1000000000)(h1:SegAt w D 74 1 sl l.length cs)(h2:VLs w D l cs)(h3:SegAt w D 74 1 sm m.length ds)(h4:VLs w D m ds):
  Calls prog 217 #[sl,sm,.func (.func 207) #[] #[]] w fun e w'=>e=.returned (.bool (sameVs l m))∧Below w.heap.size w w':=by
 obtain⟨ad,cap,rfl⟩:=h1.slice
 obtain⟨bd,dap,rfl⟩:=h3.slice
 have hll:=wtVs_len l
 by_cases hlen:l.length=m.length
 ·have HE:Aside (sameVs (l.drop l.length) (m.drop l.length)=true):=sameVs_end l m hlen
  have HL:Aside (l.length=m.length):=hlen
  rw[←hlen] at h3 ⊢
  clear hlen
  go_enter func217,ntmps217
  go_wp2
  go_loopg [17] l.length (fun gh iv wr=>∃q:Nat,gh=l.length-q∧iv=.int .i64 ((q:Nat):Int)∧q≤l.length∧Aside (sameVs l m=sameVs (l.drop q) (m.drop q))∧Below w.heap.size w wr)
  case atStart=>exact⟨0,by omega,rfl,by omega,rfl,Below.refl _ _⟩
  case round =>
   obtain⟨q,rfl,rfl,hq,hS,hb⟩:=hrel
   by_cases hlt:q<l.length
   ·have hlt2:q<m.length:=by rw[←HL.out];exact hlt
    obtain⟨g,o,cap',e,hg,hc1,hc2,hcell⟩:=h1.cell (by omega)
    simp only[Value.slice.injEq] at e
    obtain⟨rfl,_,rfl⟩:=e
    obtain⟨g',o',cap'',e,hg',hd1,hd2,hcell2⟩:=h3.cell (by omega)
    simp only[Value.slice.injEq] at e
    obtain⟨rfl,_,rfl⟩:=e
    obtain⟨x,hx,hvx⟩:=h2.at q hlt
    obtain⟨y,hy,hvy⟩:=h4.at q hlt2
    have c0:wr.cell? ⟨g,o+q,none⟩=some x:=Below.cellv hb (by have:=hcell q (by rw[Nat.mul_one];omega);rw[this];exact hx)
    have c1:wr.cell? ⟨g',o'+q,none⟩=some y:=Below.cellv hb (by have:=hcell2 q (by rw[Nat.mul_one];omega);rw[this];exact hy)
    have hwq:=wtVs_at l q hlt
    have cw:=ih l[q] m[q] x y wr (by omega) (hvx.below hb) (hvy.below hb)
    obtain⟨tx,yx,rfl⟩:=hvx.iface
    obtain⟨ty,yy,rfl⟩:=hvy.iface
    have HDR:Aside (sameVs l m=(sameV l[q] m[q]&&sameVs (l.drop (q+1)) (m.drop (q+1)))):=by show _=_;rw[hS.out,sameVs_drop l m q hlt hlt2]
    clear h1 h2 h3 h4 hcell hcell2 hx hy hvx hvy hS ih
    generalize sameV l[q] m[q]=R at *
    unfold maxLen at hc2 hd2
    cases R
    ·go_wp2_with (go_at_call 207;refine cw.mono ?_;rintro e w2 ⟨rfl,hb2⟩)
     go_ret
     exact⟨by rw[HDR.out];rfl,hb.trans (hb2.mono hb.size)⟩
    ·have HDR2:Aside (sameVs l m=sameVs (l.drop (q+1)) (m.drop (q+1))):=by show _=_;rw[HDR.out];rfl
     go_wp2_with (go_at_call 207;refine cw.mono ?_;rintro e w2 ⟨rfl,hb2⟩)
     go_roundg (l.length-(q+1))
     case measure=>omega
     case rel=>exact⟨q+1,rfl,by go_num,by omega,HDR2,hb.trans (hb2.mono hb.size)⟩
   ·have hqq:q=l.length:=by omega
    subst hqq
    have HR:Aside (sameVs l m=true):=by show _=_;rw[hS.out];exact HE.out
    clear hS HE
    go_wp2
    go_ret
    exact⟨by rw[HR.out];rfl,hb⟩
 ·have hres:sameVs l m=false:=by
   cases h:sameVs l m with
   | false=>rfl
   | true=>exact absurd (sameVs_len l m h) hlen
  rw[hres]
  clear h1 h2 h3 h4 hres
  go_enter func217,ntmps217
  go_wp2
  go_ret
  exact⟨rfl,Below.refl _ _⟩
theorem same_all (D:Nat→Prop):∀n,n≤1000000000→VSameDo n D
 | 0,_=>fun a b x y w h _ _=>absurd (wtV_pos a) (by omega)
 | n+1,hn=>fun a b x y w hwt ha hb=>by
  have ih:=same_all D n (by omega)
  cases a with
  | num z =>
   rw[VL] at ha
   subst ha
   cases b with
   | num u =>
    rw[VL] at hb
    subst hb
    rw[sameV]
    go_enter func207,ntmps207
    go_wp2
    all_goals go_ret
    all_goals exact⟨rfl,Below.refl _ _⟩
   | txt u =>
    rw[VL] at hb
    obtain⟨t,ht,rfl⟩:=hb
    rw[show sameV (.num z) (.txt u)=false by simp[sameV]]
    go_enter func207,ntmps207
    go_wp2
    go_ret
    exact⟨rfl,Below.refl _ _⟩
   | lst u =>
    rw[VL] at hb
    obtain⟨sl,cs,rfl,_,_⟩:=hb
    rw[show sameV (.num z) (.lst u)=false by simp[sameV]]
    go_enter func207,ntmps207
    go_wp2
    go_ret
    exact⟨rfl,Below.refl _ _⟩
  | txt z =>
   rw[VL] at ha
   obtain⟨s,hs,rfl⟩:=ha
   cases b with
   | num u =>
    rw[VL] at hb
    subst hb
    rw[show sameV (.txt z) (.num u)=false by simp[sameV]]
    go_enter func207,ntmps207
    go_wp2
    go_ret
    exact⟨rfl,Below.refl _ _⟩
   | txt u =>
    rw[VL] at hb
    obtain⟨t,ht,rfl⟩:=hb
    rw[sameV]
    subst hs ht
    go_enter func207,ntmps207
    go_wp2
    all_goals go_ret
    all_goals refine⟨?_,Below.refl _ _⟩
    all_goals (rw[ByteArray.toList_eq,ByteArray.toList_eq];rfl)
   | lst u =>
    rw[VL] at hb
    obtain⟨sl,cs,rfl,_,_⟩:=hb
    rw[show sameV (.txt z) (.lst u)=false by simp[sameV]]
    go_enter func207,ntmps207
    go_wp2
    go_ret
    exact⟨rfl,Below.refl _ _⟩
  | lst l =>
   rw[VL] at ha
   obtain⟨sl,cs,rfl,g1,g2⟩:=ha
   rw[wtV] at hwt
   obtain⟨ad,cap,rfl⟩:=g1.slice
   cases b with
   | num u =>
    rw[VL] at hb
    subst hb
    rw[show sameV (.lst l) (.num u)=false by simp[sameV]]
    clear g1 g2
    go_enter func207,ntmps207
    go_wp2
    go_ret
    exact⟨rfl,below2v w _ _⟩
   | txt u =>
    rw[VL] at hb
    obtain⟨t,ht,rfl⟩:=hb
    rw[show sameV (.lst l) (.txt u)=false by simp[sameV]]
    clear g1 g2
    go_enter func207,ntmps207
    go_wp2
    go_ret
    exact⟨rfl,below2v w _ _⟩
   | lst m =>
    rw[VL] at hb
    obtain⟨sm,ds,rfl,g3,g4⟩:=hb
    obtain⟨bd,dap,rfl⟩:=g3.slice
    rw[sameV]
    have bX:=below2v w (Obj.cells #[.slice ad l.length cap,.int .i64 ((wtVs l:Nat):Int)] 195) (Obj.cells #[.slice bd m.length dap,.int .i64 ((wtVs m:Nat):Int)] 195)
    have ce:=equal_of ih l m _ _ cs ds _ (by omega) (by omega) (g1.below bX) (g2.below bX) (g3.below bX) (g4.below bX)
    clear g1 g2 g3 g4 ih
    generalize sameVs l m=R at *
    go_enter func207,ntmps207
    go_wp2_with (go_at_call 217;refine ce.mono ?_;rintro e w2 ⟨rfl,hb2⟩)
    go_ret
    exact⟨rfl,bX.trans (hb2.mono bX.size)⟩
theorem same_val (D:Nat→Prop)(a b:PV)(x y:Value)(w:World)(h:wtV a≤1000000000)(ha:VL w D a x)(hb:VL w D b y):
  Calls prog 207 #[x,y] w fun e w'=>e=.returned (.bool (sameV a b))∧Below w.heap.size w w':=same_all D _ (Nat.le_refl _) a b x y w h ha hb
end Go.Proofs.YtifhgjpglicjbaaGreatDoor
namespace Go.Proofs.YtifhgjpglicjbaaGreatDoor
open Go.Proofs.Tryz
open Go.RowKit Go.Lib
attribute [local go_sem ↓] Go.wp_at_zero Go.wp_at_succ
attribute [local go_sem] va_num_num va_num_txt va_num_lst va_txt_num va_txt_txt va_txt_lst va_lst_num va_lst_txt va_lst_lst
theorem ba_of {b:ByteArray}{l:List UInt8}(h:b.data.toList=l):b=⟨l.toArray⟩:=by
 cases b with
 | mk d=>simp only at h;subst h;simp
theorem ve_tup {D:Nat→Prop}{w w':World}{o:Option PV}{e:Ending}(h:vePost D w o e w'):∃u f,e=.returned (.tuple #[u,f]):=by
 obtain⟨_,⟨v,x,_,h,_⟩ | ⟨_,u,f,_,h⟩⟩:=h
 ·exact⟨_,_,h⟩
 ·exact⟨_,_,h⟩
theorem op2_at (a b:PV):op2 [97,116] a b=at2 a b:=by cases a<;>cases b<;>rfl
theorem op2_join (a b:PV):op2 [106,111,105,110] a b=join2 a b:=by cases a<;>cases b<;>rfl
theorem operate_eq (D:Nat→Prop)(a b:PV)(x y:Value)(w:World)(ha:VL w D a x)(hb:VL w D b y)(hw:wtV a≤600):
  Calls prog 182 #[.string ⟨#[101,113]⟩,x,y] w (vePost D w (op2 [101,113] a b)):=by
 have CS:=same_val D a b x y w (by omega) ha hb
 obtain⟨tx,xx,rfl⟩:=ha.iface
 obtain⟨ty,yy,rfl⟩:=hb.iface
 have HV:Aside (op2 [101,113] a b=some (.num (if sameV a b then 1 else 0))):=show _=_ from rfl
 generalize op2 [101,113] a b=R at *
 generalize sameV a b=t at *
 have CT:=fun X=>truth_any t X
 generalize (if t=true then (1:Int) else 0)=q at *
 clear ha hb
 go_enter func182,ntmps182
 go_wp2_with (first
  |(go_at_call 207;refine CS.mono ?_;rintro e w1 ⟨rfl,hb1⟩)
  |(go_at_call 206;refine (CT _).mono ?_;rintro e w2 ⟨rfl,rfl⟩))
 go_ret2
 exact ve_ok hb1 HV.out (VL_num _ _ _)
theorem operate_at (D:Nat→Prop)(a b:PV)(x y:Value)(w:World)(ha:VL w D a x)(hb:VL w D b y)(hw:wtV a≤600)(_hwb:wtV b≤600)(_hD:∀g,w.heap.size≤g→D g):
  Calls prog 182 #[.string ⟨#[97,116]⟩,x,y] w (vePost D w (op2 [97,116] a b)):=by
 rw[op2_at]
 have CS:=itemAt_any D a b x y w ha hb hw
 obtain⟨tx,xx,rfl⟩:=ha.iface
 obtain⟨ty,yy,rfl⟩:=hb.iface
 generalize at2 a b=R at *
 clear ha hb
 go_enter func182,ntmps182
 go_wp2_with (go_at_call 208;refine CS.mono ?_;rintro e w1 hv;obtain⟨u,f,rfl⟩:=ve_tup hv)
 go_ret2
 exact hv
theorem operate_join (D:Nat→Prop)(a b:PV)(x y:Value)(w:World)(ha:VL w D a x)(hb:VL w D b y)(hw:wtV a≤600)(hwb:wtV b≤600)(hD:∀g,w.heap.size≤g→D g):
  Calls prog 182 #[.string ⟨#[106,111,105,110]⟩,x,y] w (vePost D w (op2 [106,111,105,110] a b)):=by
 rw[op2_join]
 have CS:=joined_any D a b x y w ha hb hw hwb hD
 obtain⟨tx,xx,rfl⟩:=ha.iface
 obtain⟨ty,yy,rfl⟩:=hb.iface
 generalize join2 a b=R at *
 clear ha hb
 go_enter func182,ntmps182
 go_wp2_with (go_at_call 209;refine CS.mono ?_;rintro e w1 hv;obtain⟨u,f,rfl⟩:=ve_tup hv)
 go_ret2
 exact hv
theorem operate_add (D:Nat→Prop)(a b:PV)(x y:Value)(w:World)(ha:VL w D a x)(hb:VL w D b y):
  Calls prog 182 #[.string ⟨#[97,100,100]⟩,x,y] w (vePost D w (op2 [97,100,100] a b)):=by
 rcases VL_kind ha with ⟨z,rfl,rfl⟩ | ⟨s,rfl,rfl⟩ | ⟨l,ad,cap,cs,rfl,rfl,hseg,hvs⟩
 ·rcases VL_kind hb with ⟨z2,rfl,rfl⟩ | ⟨s2,rfl,rfl⟩ | ⟨l2,ad2,cap2,cs2,rfl,rfl,_,_⟩
  ·have HV:Aside (op2 [97,100,100] (.num z) (.num z2)=some (.num (wrap64 (z+z2)))):=show _=_ from rfl
   generalize op2 [97,100,100] (.num z) (.num z2)=R at *
   clear ha hb
   go_enter func182,ntmps182
   go_wp2
   go_ret2
   exact ve_ok (Below.refl _ _) HV.out (VL_num _ _ _)
  all_goals
   clear ha hb
   go_enter func182,ntmps182
   go_wp2
   go_ret2
   exact ve_no (Below.refl _ _) rfl (flt_why _)
 all_goals
  rcases VL_kind hb with ⟨z2,rfl,rfl⟩ | ⟨s2,rfl,rfl⟩ | ⟨l2,ad2,cap2,cs2,rfl,rfl,_,_⟩
  all_goals
   clear ha hb
   go_enter func182,ntmps182
   go_wp2
   go_ret2
   exact ve_no (Below.refl _ _) rfl (flt_why _)
theorem operate_sub (D:Nat→Prop)(a b:PV)(x y:Value)(w:World)(ha:VL w D a x)(hb:VL w D b y):
  Calls prog 182 #[.string ⟨#[115,117,98]⟩,x,y] w (vePost D w (op2 [115,117,98] a b)):=by
 rcases VL_kind ha with ⟨z,rfl,rfl⟩ | ⟨s,rfl,rfl⟩ | ⟨l,ad,cap,cs,rfl,rfl,hseg,hvs⟩
 ·rcases VL_kind hb with ⟨z2,rfl,rfl⟩ | ⟨s2,rfl,rfl⟩ | ⟨l2,ad2,cap2,cs2,rfl,rfl,_,_⟩
  ·have HV:Aside (op2 [115,117,98] (.num z) (.num z2)=some (.num (wrap64 (z-z2)))):=show _=_ from rfl
   generalize op2 [115,117,98] (.num z) (.num z2)=R at *
   clear ha hb
   go_enter func182,ntmps182
   go_wp2
   go_ret2
   exact ve_ok (Below.refl _ _) HV.out (VL_num _ _ _)
  all_goals
   clear ha hb
   go_enter func182,ntmps182
   go_wp2
   go_ret2
   exact ve_no (Below.refl _ _) rfl (flt_why _)
 all_goals
  rcases VL_kind hb with ⟨z2,rfl,rfl⟩ | ⟨s2,rfl,rfl⟩ | ⟨l2,ad2,cap2,cs2,rfl,rfl,_,_⟩
  all_goals
   clear ha hb
   go_enter func182,ntmps182
   go_wp2
   go_ret2
   exact ve_no (Below.refl _ _) rfl (flt_why _)
theorem operate_mul (D:Nat→Prop)(a b:PV)(x y:Value)(w:World)(ha:VL w D a x)(hb:VL w D b y):
  Calls prog 182 #[.string ⟨#[109,117,108]⟩,x,y] w (vePost D w (op2 [109,117,108] a b)):=by
 rcases VL_kind ha with ⟨z,rfl,rfl⟩ | ⟨s,rfl,rfl⟩ | ⟨l,ad,cap,cs,rfl,rfl,hseg,hvs⟩
 ·rcases VL_kind hb with ⟨z2,rfl,rfl⟩ | ⟨s2,rfl,rfl⟩ | ⟨l2,ad2,cap2,cs2,rfl,rfl,_,_⟩
  ·have HV:Aside (op2 [109,117,108] (.num z) (.num z2)=some (.num (wrap64 (z*z2)))):=show _=_ from rfl
   generalize op2 [109,117,108] (.num z) (.num z2)=R at *
   clear ha hb
   go_enter func182,ntmps182
   go_wp2
   go_ret2
   exact ve_ok (Below.refl _ _) HV.out (VL_num _ _ _)
  all_goals
   clear ha hb
   go_enter func182,ntmps182
   go_wp2
   go_ret2
   exact ve_no (Below.refl _ _) rfl (flt_why _)
 all_goals
  rcases VL_kind hb with ⟨z2,rfl,rfl⟩ | ⟨s2,rfl,rfl⟩ | ⟨l2,ad2,cap2,cs2,rfl,rfl,_,_⟩
  all_goals
   clear ha hb
   go_enter func182,ntmps182
   go_wp2
   go_ret2
   exact ve_no (Below.refl _ _) rfl (flt_why _)
theorem operate_less (D:Nat→Prop)(a b:PV)(x y:Value)(w:World)(ha:VL w D a x)(hb:VL w D b y):
  Calls prog 182 #[.string ⟨#[108,101,115,115]⟩,x,y] w (vePost D w (op2 [108,101,115,115] a b)):=by
 rcases VL_kind ha with ⟨z,rfl,rfl⟩ | ⟨s,rfl,rfl⟩ | ⟨l,ad,cap,cs,rfl,rfl,hseg,hvs⟩
 ·rcases VL_kind hb with ⟨z2,rfl,rfl⟩ | ⟨s2,rfl,rfl⟩ | ⟨l2,ad2,cap2,cs2,rfl,rfl,_,_⟩
  ·have HV:Aside (op2 [108,101,115,115] (.num z) (.num z2)=some (.num (if decide (z<z2) then 1 else 0))):=show _=_ from rfl
   generalize op2 [108,101,115,115] (.num z) (.num z2)=R at *
   clear ha hb
   by_cases hz:z<z2
   ·rw[show decide (z<z2)=true from by simpa using hz] at HV
    have CT:∀X,Calls prog 206 #[.bool true] X fun e w'=>e=.returned (.iface 190 (.int .i64 1))∧w'=X:=fun X=>truth_any true X
    go_enter func182,ntmps182
    go_wp2_with (go_at_call 206;refine (CT _).mono ?_;rintro e w2 ⟨rfl,rfl⟩)
    go_ret2
    exact ve_ok (Below.refl _ _) HV.out (VL_num _ _ _)
   ·rw[show decide (z<z2)=false from by simpa using hz] at HV
    have CT:∀X,Calls prog 206 #[.bool false] X fun e w'=>e=.returned (.iface 190 (.int .i64 0))∧w'=X:=fun X=>truth_any false X
    go_enter func182,ntmps182
    go_wp2_with (go_at_call 206;refine (CT _).mono ?_;rintro e w2 ⟨rfl,rfl⟩)
    go_ret2
    exact ve_ok (Below.refl _ _) HV.out (VL_num _ _ _)
  all_goals
   clear ha hb
   go_enter func182,ntmps182
   go_wp2
   go_ret2
   exact ve_no (Below.refl _ _) rfl (flt_why _)
 all_goals
  rcases VL_kind hb with ⟨z2,rfl,rfl⟩ | ⟨s2,rfl,rfl⟩ | ⟨l2,ad2,cap2,cs2,rfl,rfl,_,_⟩
  all_goals
   clear ha hb
   go_enter func182,ntmps182
   go_wp2
   go_ret2
   exact ve_no (Below.refl _ _) rfl (flt_why _)
theorem operate_any (D:Nat→Prop)(wd:List UInt8)(ob:ByteArray)(a b:PV)(x y:Value)(w:World)(hsh:shapeL wd=some (false,2))(hob:ob.data.toList=wd)(ha:VL w D a x)(hb:VL w D b y)(hw:wtV a≤600)(hwb:wtV b≤600)(hD:∀g,w.heap.size≤g→D g):
  Calls prog 182 #[.string ob,x,y] w (vePost D w (op2 wd a b)):=by
 rw[ba_of hob]
 rcases shape_cases wd with rfl | rfl | rfl | rfl | rfl | rfl | rfl | rfl | rfl | rfl | rfl | rfl | rfl | rfl | ⟨h,_⟩
 ·exact absurd hsh (by decide)
 ·exact absurd hsh (by decide)
 ·exact absurd hsh (by decide)
 ·exact absurd hsh (by decide)
 ·exact absurd hsh (by decide)
 ·exact absurd hsh (by decide)
 ·exact absurd hsh (by decide)
 ·exact operate_add D a b x y w ha hb
 ·exact operate_sub D a b x y w ha hb
 ·exact operate_mul D a b x y w ha hb
 ·exact operate_eq D a b x y w ha hb hw
 ·exact operate_less D a b x y w ha hb
 ·exact operate_at D a b x y w ha hb hw hwb hD
 ·exact operate_join D a b x y w ha hb hw hwb hD
 ·rw[h] at hsh;cases hsh
end Go.Proofs.YtifhgjpglicjbaaGreatDoor
