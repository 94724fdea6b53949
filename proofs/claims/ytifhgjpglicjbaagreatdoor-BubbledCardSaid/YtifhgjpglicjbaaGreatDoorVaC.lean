/-
  The program: a value as it is written.
-/
import Derived.Test.YtifhgjpglicjbaaGreatDoorRdA
import Derived.Test.YtifhgjpglicjbaaGreatDoorExpr
import Derived.Lib.AtoiErrMem
import Derived.Test.YtifhgjpglicjbaaGreatDoorRows
import Derived.Shelf.Pu.Clone
import Derived.WalkKit
import Derived.WalkSmall
set_option maxHeartbeats 4000000
set_option maxRecDepth 8000
namespace Go.Proofs.YtifhgjpglicjbaaGreatDoor
open Go.Proofs.Tryz
open Go.RowKit Go.Shelf Go.Sort
attribute [local go_sem ↓] Go.wp_at_zero Go.wp_at_succ
attribute [local go_sem] va_num_num va_num_txt va_num_lst va_txt_num va_txt_txt va_txt_lst va_lst_num va_lst_txt va_lst_lst
abbrev Pow10 (w:World):Prop:=Lib.TabIs prog w "internal/strconv.uint64pow10" .u64 Lib.pow10Tab
theorem Pow10.below {w w':World}(h:Pow10 w)(hb:Below w.heap.size w w'):Pow10 w':=by
 unfold Pow10 Lib.TabIs World.var? at h ⊢
 have hg:prog.globalNamed "internal/strconv.uint64pow10" = some 10:=by kernel_rfl
 rw[hg] at h ⊢
 simp only[Option.bind_some] at h ⊢
 cases hh:w.heap[(10:Nat)]? with
 | none=>rw[hh] at h;cases h
 | some o=>rw[hb.block _ (block_lt hh),←h,hh]
theorem grow_all {Q:World→Prop}(hQ:∀w o,Q w→Q (w.alloc o)):∀(l:List Obj) (w:World),Q w→Q (grow w l.toArray)
 | [],w,h=>by simpa using h
 | o::l,w,h=>by
  have e:grow w (o::l).toArray=grow (w.alloc o) l.toArray:=by
   rw[alloc_eq_grow,grow_grow]
   simp
  rw[e]
  exact grow_all hQ l _ (hQ w o h)
theorem grow_any {Q:World→Prop}(hQ:∀w o,Q w→Q (w.alloc o))(os:Array Obj)(w:World)(h:Q w):Q (grow w os):=by
 have:=grow_all hQ os.toList w h
 simpa using this
abbrev Bld (B b:Nat)(l:List UInt8)(w:World):Prop:=Lib.IsBuilderF 132 5 B b (Lib.byteCells l) w
theorem Bld.alloc {B b:Nat}{l:List UInt8}{w:World}(h:Bld B b l w)(o:Obj):Bld B b l (w.alloc o):=h.elim (fun x=>.inl (x.alloc o)) (fun x=>.inr (x.alloc o))
theorem Bld.drewN {B b:Nat}{l:List UInt8}{w:World}(h:Bld B b l w)(n:Nat):Bld B b l (w.drewN n):=h
theorem cells_app (l:List UInt8)(s:ByteArray):Lib.byteCells l++Lib.strCells s=Lib.byteCells (l++s.data.toList):=by simp[Lib.byteCells,Lib.strCells]
theorem writeString_any (B b:Nat)(l:List UInt8)(s:ByteArray)(w:World)(h:Bld B b l w)(hl:l.length+s.size≤140737488355328)(hB:B≤w.heap.size):
  Calls prog 77 #[.pointer (some ⟨b,0,none⟩),.string s] w fun e w'=>e=.returned (.tuple #[.int .i64 s.size,.nilIface])∧Bld B b (l++s.data.toList) w'∧Below B w w'∧Lib.OthersKept 5 (some b) w w':=by
 have c:Calls prog 77 #[.pointer (some ⟨b,0,none⟩),.string s] w _:=Any.Builder_WriteString_k laysWS laysBx B b (Lib.byteCells l) s w h (by rw[Lib.byteCells_length];exact hl) hB
 refine c.mono fun e w' ⟨h1,h2,h3,h4⟩=>⟨h1,?_,h3,h4⟩
 rw[cells_app] at h2
 exact .inr h2
theorem formatInt_any (z:Int)(w:World)(hz:In64 z)(ht:Pow10 w):
  Calls prog 78 #[.int .i64 z,.int .i64 10] w fun e w'=>e=.returned (.string ⟨(Lib.itoa z).toArray⟩)∧∃k os,w'=grow (w.drewN k) os :=
 Any.strconv_FormatInt_10 laysFI z hz.1 hz.2 w ht
def WriteDo (n:Nat)(w0:World)(b:Nat):Prop:=∀(v:PV) (x:Value) (w:World) (l:List UInt8),wtV v≤n→okV v→VL w0 (·<w0.heap.size) v x→Bld w0.heap.size b l w→Below w0.heap.size w0 w→l.length+23*wtV v≤1000000000 →
  Calls prog 55 #[.pointer (some ⟨b,0,none⟩),x] w fun e w'=>e=.returned (.tuple #[])∧Bld w0.heap.size b (l++wrV v) w'∧Below w0.heap.size w0 w'
theorem write_num (w0:World)(b:Nat)(ht:Pow10 w0)(z:Int)(w:World)(l:List UInt8)(hz:In64 z)(hB:Bld w0.heap.size b l w)(hb:Below w0.heap.size w0 w)(hl:l.length+23≤1000000000):
  Calls prog 55 #[.pointer (some ⟨b,0,none⟩),.iface 190 (.int .i64 z)] w fun e w'=>e=.returned (.tuple #[])∧Bld w0.heap.size b (l++Lib.itoa z) w'∧Below w0.heap.size w0 w':=by
 have cf:=formatInt_any z w hz (ht.below hb)
 have hlen:=Lib.itoa_length_le z hz.1 hz.2
 have CW:Hid (∀k os,Calls prog 77 #[.pointer (some ⟨b,0,none⟩),.string ⟨(Lib.itoa z).toArray⟩] (grow (w.drewN k) os) fun e w'=>(∃y,e=.returned (.tuple #[.int .i64 y,.nilIface]))∧Bld w0.heap.size b (l++Lib.itoa z) w'∧Below w0.heap.size w0 w'):=fun k os=>by
  have hg:Bld w0.heap.size b l (grow (w.drewN k) os)∧Below w0.heap.size w0 (grow (w.drewN k) os):=grow_any (Q:=fun w=>Bld w0.heap.size b l w∧Below w0.heap.size w0 w) (fun w o h=>⟨h.1.alloc o,h.2.alloc h.2.size o⟩) os _ ⟨hB,below_drewN hb k⟩
  refine (writeString_any w0.heap.size b l ⟨(Lib.itoa z).toArray⟩ _ hg.1 (by show l.length+(Lib.itoa z).toArray.size≤_;simp;omega) hg.2.size).mono fun e w' ⟨h1,h2,h3,_⟩=>⟨⟨_,h1⟩,?_,hg.2.trans h3⟩
  simpa using h2
 clear hB hb hl hlen
 generalize Lib.itoa z=R at *
 go_enter func55,ntmps55
 go_wp2_with (first
  |(go_at_call 78;refine cf.mono ?_;rintro e w1 ⟨rfl,kd,os,rfl⟩)
  |(go_at_call 77;refine (CW.out _ _).mono ?_;rintro e w2 ⟨⟨y,rfl⟩,hB2,hb2⟩))
 exact bodyPost_end (v:=.tuple #[]) (by simp[results,results55,go_sem]) rfl ⟨rfl,hB2,hb2⟩
theorem write_txt (w0:World)(b:Nat)(s:ByteArray)(w:World)(l:List UInt8)(hB:Bld w0.heap.size b l w)(hb:Below w0.heap.size w0 w)(hl:l.length+23*(s.size+1)≤1000000000):
  Calls prog 55 #[.pointer (some ⟨b,0,none⟩),.iface 193 (.string s)] w fun e w'=>e=.returned (.tuple #[])∧Bld w0.heap.size b (l++(39::(s.data.toList++[39]))) w'∧Below w0.heap.size w0 w':=by
 have CW:∀(y:ByteArray),y.data.toList=39::(s.data.toList++[39])→Calls prog 77 #[.pointer (some ⟨b,0,none⟩),.string y] w fun e w'=>(∃y,e=.returned (.tuple #[.int .i64 y,.nilIface]))∧Bld w0.heap.size b (l++(39::(s.data.toList++[39]))) w'∧Below w0.heap.size w0 w':=fun y hy=>by
  have hyz:y.size=s.size+2:=by rw[←tl_size,hy];simp
  refine (writeString_any w0.heap.size b l y w hB (by omega) hb.size).mono fun e w' ⟨h1,h2,h3,_⟩=>⟨⟨_,h1⟩,?_,hb.trans h3⟩
  rw[hy] at h2
  exact h2
 clear hB hb
 go_enter func55,ntmps55
 go_wp2_with (go_at_call 77;refine (CW _ ?_).mono ?_;(simp);rintro e w2 ⟨⟨y,rfl⟩,hB2,hb2⟩)
 exact bodyPost_end (v:=.tuple #[]) (by simp[results,results55,go_sem]) rfl ⟨rfl,hB2,hb2⟩
theorem str_at (w0:World)(b:Nat)(c:UInt8)(w:World)(l:List UInt8)(hB:Bld w0.heap.size b l w)(hb:Below w0.heap.size w0 w)(hl:l.length+1≤140737488355328):
  Calls prog 77 #[.pointer (some ⟨b,0,none⟩),.string ⟨#[c]⟩] w fun e w'=>(∃y,e=.returned (.tuple #[.int .i64 y,.nilIface]))∧Bld w0.heap.size b (l++[c]) w'∧Below w0.heap.size w0 w'∧Lib.OthersKept 5 (some b) w w' :=
 (writeString_any w0.heap.size b l ⟨#[c]⟩ w hB (by show l.length+1≤_;exact hl) hb.size).mono fun e w' ⟨h1,h2,h3,h4⟩=>⟨⟨_,h1⟩,h2,hb.trans h3,h4⟩
theorem wrVs_take (l:List PV)(q:Nat)(hq:q<l.length):wrVs (l.take (q+1))=if q=0 then wrV l[q] else wrVs (l.take q)++32::wrV l[q]:=by
 rw[List.take_succ_eq_append_getElem hq,wrVs_snoc]
 by_cases h:q=0
 ·subst h;simp
 ·rw[if_neg h,if_neg]
  intro e
  have:=congrArg List.length e
  simp only[List.length_take,List.length_nil] at this
  omega
theorem wrVs_len_le:∀(l:List PV),okVs l→(wrVs l).length≤23*wtVs l
 | [],_=>by simp[wrVs,wtVs]
 | v::r,h=>by
  rw[okVs] at h
  have h1:=wrV_len v h.1
  have h2:=wrT_len r h.2
  rw[wrVs,wtVs,List.length_append]
  omega
theorem okVs_takeV:∀{l:List PV} (q:Nat),okVs l→okVs (l.take q)
 | [],q,h=>by simpa using h
 | v::r,0,h=>by simp[okVs]
 | v::r,q+1,h=>by
  rw[okVs] at h
  rw[List.take_succ_cons,okVs]
  exact⟨h.1,okVs_takeV q h.2⟩
theorem write_lst {n:Nat}(w0:World)(b:Nat)(ih:WriteDo n w0 b)(l:List PV)(sl:Value)(cs:List Value)(z:Int)(w:World)(lb:List UInt8)(hw:wtVs l≤n)(hok:okVs l)(hseg:SegAt w0 (·<w0.heap.size) 74 1 sl l.length cs)(hvs:VLs w0 (·<w0.heap.size) l cs)(hB:Bld w0.heap.size b lb w)(hb:Below w0.heap.size w0 w)(hl:lb.length+23*(wtVs l+1)≤1000000000):
  Calls prog 55 #[.pointer (some ⟨b,0,none⟩),.iface 195 (.agg #[sl,.int .i64 z])] w fun e w'=>e=.returned (.tuple #[])∧Bld w0.heap.size b (lb++(40::(wrVs l++[41]))) w'∧Below w0.heap.size w0 w':=by
 obtain⟨ad,cap,rfl⟩:=hseg.slice
 have hX:=hB.alloc (Obj.cells #[.slice ad l.length cap,.int .i64 z] 195)
 have hbX:=hb.alloc hb.size (Obj.cells #[.slice ad l.length cap,.int .i64 z] 195)
 have hll:=wtVs_len l
 have c1:=str_at w0 b 40 _ lb hX hbX (by omega)
 have n0:(w.alloc (Obj.cells #[.slice ad l.length cap,.int .i64 z] 195)).cell? ⟨w.heap.size,0,none⟩=some (.slice ad l.length cap):=by
  have h:(w.alloc (Obj.cells #[.slice ad l.length cap,.int .i64 z] 195)).heap[w.heap.size]?=some (.cells #[.slice ad l.length cap,.int .i64 z] 195):=heap_alloc_new _ _
  unfold World.cell?;rw[h];rfl
 have hblt:b<w.heap.size:=hB.elim (fun x=>x.lt) (fun x=>x.lt)
 have hn:(w.alloc (Obj.cells #[.slice ad l.length cap,.int .i64 z] 195)).heap[w.heap.size]?=some (.cells #[.slice ad l.length cap,.int .i64 z] 195):=heap_alloc_new _ _
 have C1:Hid (Calls prog 77 #[.pointer (some ⟨b,0,none⟩),.string ⟨#[40]⟩] (w.alloc (Obj.cells #[.slice ad l.length cap,.int .i64 z] 195)) fun e w'=>(∃y,e=.returned (.tuple #[.int .i64 y,.nilIface]))∧(Bld w0.heap.size b (lb++[40]) w'∧Below w0.heap.size w0 w')∧w'.cell? ⟨w.heap.size,0,none⟩=some (.slice ad l.length cap)):=c1.mono fun e w' ⟨h1,h2,h3,h4⟩=>⟨h1,⟨h2,h3⟩,by
  have hk:=h4 w.heap.size _ hn (by simp;omega) (fun c fz e=>by
   simp only[Obj.cells.injEq] at e
   exact absurd e.2.1 (by decide))
  unfold World.cell?
  rw[hk]
  rfl⟩
 clear hX hbX hB hb c1 n0 hn
 have hokt:=fun q=>wrVs_len_le _ (okVs_takeV q hok)
 have htk:=fun q=>wtVs_take_le l q
 go_enter func55,ntmps55
 go_wp2_with (go_at_call 77;refine C1.out.mono ?_;rintro e w1 ⟨⟨y,rfl⟩,hBB,hcl⟩)
 go_loopg [33] l.length (fun gh iv wr=>∃q:Nat,gh=l.length-q∧iv=.int .i64 ((q:Nat):Int)∧q≤l.length∧Aside (Bld w0.heap.size b (lb++(40::wrVs (l.take q))) wr∧Below w0.heap.size w0 wr))
 case atStart=>exact⟨0,by omega,rfl,by omega,by show _∧_;simpa[wrVs] using hBB⟩
 case round =>
  obtain⟨q,rfl,rfl,hq,hI⟩:=hrel
  have hlq:=hokt q
  have hwq:=htk q
  by_cases hlt:q<l.length
  ·obtain⟨g,o,cap',e,hg,hc1,hc2,hcell⟩:=hseg.cell (by omega)
   simp only[Value.slice.injEq] at e
   obtain⟨rfl,_,rfl⟩:=e
   obtain⟨x,hx,hvx⟩:=hvs.at q hlt
   have c0:wr.cell? ⟨g,o+q,none⟩=some x:=Below.cellv hI.out.2 (by have:=hcell q (by rw[Nat.mul_one];omega);rw[this];exact hx)
   obtain⟨tx,yx,rfl⟩:=hvx.iface
   have hwa:=wtVs_at l q hlt
   have hws:=wtVs_take l q hlt
   have hwt1:=htk (q+1)
   have hv:=okVs_at hlt hok
   have hqi:((q:Nat):Int)<((l.length:Nat):Int):=by omega
   unfold maxLen at hc2
   have SP:Hid (Calls prog 77 #[.pointer (some ⟨b,0,none⟩),.string ⟨#[32]⟩] wr fun e w'=>(∃y,e=.returned (.tuple #[.int .i64 y,.nilIface]))∧Bld w0.heap.size b (lb++(40::wrVs (l.take q))++[32]) w'∧Below w0.heap.size w0 w'):=(str_at w0 b 32 wr _ hI.out.1 hI.out.2 (by simp;omega)).mono fun e w' ⟨h1,h2,h3,_⟩=>⟨h1,h2,h3⟩
   have WR:Hid (∀(w2:World) (l2:List UInt8),Bld w0.heap.size b l2 w2→Below w0.heap.size w0 w2→l2.length≤lb.length+1+23*wtVs (l.take q)+1→Calls prog 55 #[.pointer (some ⟨b,0,none⟩),.iface tx yx] w2 fun e w'=>e=.returned (.tuple #[])∧Bld w0.heap.size b (l2++wrV l[q]) w'∧Below w0.heap.size w0 w'):=fun w2 l2 h1 h2 h3=>ih l[q] _ w2 l2 (by omega) hv hvx h1 h2 (by omega)
   have hE:=wrVs_take l q hlt
   clear hvx hseg hvs hcell hx hv hokt htk ih hcl
   by_cases h0:q=0
   ·have hE2:Aside (wrVs (l.take (q+1))=wrV l[q]):=by show _=_;rw[hE,if_pos h0]
    have hE3:wrVs (l.take q)=[]:=by rw[h0];simp[wrVs]
    have WR2:Hid (Calls prog 55 #[.pointer (some ⟨b,0,none⟩),.iface tx yx] wr fun e w'=>e=.returned (.tuple #[])∧Bld w0.heap.size b (lb++(40::wrVs (l.take q))++wrV l[q]) w'∧Below w0.heap.size w0 w'):=WR.out wr _ hI.out.1 hI.out.2 (by rw[hE3];simp;omega)
    rw[hE3] at WR2
    have hqz:¬ ((0:Int)<((q:Nat):Int)):=by omega
    have H0:Aside (q=0):=h0
    clear hE hE3 SP WR hI hlq h0
    go_wp2_with (go_at_call 55;refine WR2.out.mono ?_;rintro e w3 ⟨rfl,hB3,hb3⟩)
    go_roundg (l.length-(q+1))
    case measure=>omega
    case rel=>exact⟨q+1,rfl,by go_num,by omega,by show _∧_;rw[hE2.out];exact⟨by simpa using hB3,hb3⟩⟩
   ·have hE2:Aside (wrVs (l.take (q+1))=wrVs (l.take q)++32::wrV l[q]):=by show _=_;rw[hE,if_neg h0]
    have hq0:(0:Int)<((q:Nat):Int):=by omega
    have WR2:Hid (∀w2,Bld w0.heap.size b (lb++(40::wrVs (l.take q))++[32]) w2→Below w0.heap.size w0 w2→Calls prog 55 #[.pointer (some ⟨b,0,none⟩),.iface tx yx] w2 fun e w'=>e=.returned (.tuple #[])∧Bld w0.heap.size b (lb++(40::wrVs (l.take q))++[32]++wrV l[q]) w'∧Below w0.heap.size w0 w'):=fun w2 h1 h2=>WR.out w2 _ h1 h2 (by simp;omega)
    clear hE WR hI hlq
    go_wp2_with (first
     |(go_at_call 77;refine SP.out.mono ?_;rintro e w2 ⟨⟨y2,rfl⟩,hB2,hb2⟩)
     |(go_at_call 55;refine (WR2.out w2 hB2 hb2).mono ?_;rintro e w3 ⟨rfl,hB3,hb3⟩))
    go_roundg (l.length-(q+1))
    case measure=>omega
    case rel=>exact⟨q+1,rfl,by go_num,by omega,by show _∧_;rw[hE2.out];exact⟨by simpa using hB3,hb3⟩⟩
  ·have hqq:q=l.length:=by omega
   subst hqq
   have hlq':=wrVs_len_le l hok
   have CE:Hid (Calls prog 77 #[.pointer (some ⟨b,0,none⟩),.string ⟨#[41]⟩] wr fun e w'=>(∃y,e=.returned (.tuple #[.int .i64 y,.nilIface]))∧Bld w0.heap.size b (lb++(40::(wrVs l++[41]))) w'∧Below w0.heap.size w0 w'):=(str_at w0 b 41 wr _ hI.out.1 hI.out.2 (by simp;omega)).mono fun e w' ⟨h1,h2,h3,_⟩=>⟨h1,by simpa using h2,h3⟩
   clear hseg hvs ih hokt htk hI hlq hwq hlq'
   go_wp2_with (go_at_call 77;refine CE.out.mono ?_;rintro e w2 ⟨⟨y2,rfl⟩,hB2,hb2⟩)
   exact bodyPost_end (v:=.tuple #[]) (by simp[results,results55,go_sem]) rfl ⟨rfl,hB2,hb2⟩
theorem write_all (w0:World)(b:Nat)(ht:Pow10 w0):∀n,WriteDo n w0 b
 | 0=>fun v x w l h _ _ _ _ _=>absurd (wtV_pos v) (by omega)
 | n+1=>fun v x w l hw hok hv hB hb hl=>by
  have ih:=write_all w0 b ht n
  cases v with
  | num z =>
   rw[VL] at hv
   subst hv
   rw[okV] at hok
   rw[wrV]
   rw[wtV] at hl
   exact write_num w0 b ht z w l hok hB hb (by omega)
  | txt s =>
   rw[VL] at hv
   obtain⟨s',hs,rfl⟩:=hv
   rw[wrV,←hs]
   rw[wtV,←hs,tl_size] at hl
   exact write_txt w0 b s' w l hB hb (by omega)
  | lst vs =>
   rw[VL] at hv
   obtain⟨sl,cs,rfl,h1,h2⟩:=hv
   rw[okV] at hok
   rw[wtV] at hw hl
   rw[wrV]
   exact write_lst w0 b ih vs sl cs _ w l (by omega) hok h1 h2 hB hb (by omega)
end Go.Proofs.YtifhgjpglicjbaaGreatDoor
namespace Go.Proofs.YtifhgjpglicjbaaGreatDoor
open Go.Proofs.Tryz
open Go.RowKit Go.Shelf Go.Sort
attribute [local go_sem ↓] Go.wp_at_zero Go.wp_at_succ
theorem unsign_take (l:List UInt8):unsignL (l.take (numLen l))=(unsignL l).take (runL digit (unsignL l)):=by
 cases h:startsB 45 l with
 | false =>
  have hu:unsignL l=l:=by simp[unsignL,h]
  have hn:numLen l=runL digit l:=by unfold numLen;rw[hu];omega
  rw[hn,hu]
  have h2:startsB 45 (l.take (runL digit l))=false:=by
   cases l with
   | nil=>simp[startsB]
   | cons c r =>
    cases hk:runL digit (c::r) with
    | zero=>simp[startsB]
    | succ k=>rw[List.take_succ_cons];simpa[startsB] using h
  simp[unsignL,h2]
 | true =>
  cases l with
  | nil=>simp[startsB] at h
  | cons c r =>
   have hc:c=45:=by simpa[startsB] using h
   subst hc
   have hu:unsignL (45::r)=r:=by simp[unsignL,h]
   have hn:numLen (45::r)=runL digit r+1:=by unfold numLen;rw[hu];simp;omega
   rw[hn,hu,List.take_succ_cons]
   simp[unsignL,startsB]
theorem sgD_take (l:List UInt8):SgD (l.take (numLen l)):=⟨fun c hc=>by
 rw[unsign_take,take_run] at hc
 exact mem_while digit _ c hc⟩
structure NumG (w:World):Prop where
 p10:Pow10 w
 sy:∃te pe,w.cell? ⟨11,0,none⟩=some (.iface te pe)
 ra:∃te pe,w.cell? ⟨12,0,none⟩=some (.iface te pe)
theorem NumG.touch {w w':World}{rb:Nat}(h:NumG w)(ht:Touch (·=rb) w w')(hr:15≤rb):NumG w':=by
 obtain⟨h1,⟨a,b,h2⟩,⟨c,d,h3⟩⟩:=h
 refine⟨?_,⟨a,b,ht.cell h2 (by show ¬ (11:Nat)=rb;omega)⟩,⟨c,d,ht.cell h3 (by show ¬ (12:Nat)=rb;omega)⟩⟩
 unfold Pow10 Lib.TabIs World.var? at h1 ⊢
 have hg:prog.globalNamed "internal/strconv.uint64pow10" = some 10:=by kernel_rfl
 rw[hg] at h1 ⊢
 simp only[Option.bind_some] at h1 ⊢
 cases hh:w.heap[(10:Nat)]? with
 | none=>rw[hh] at h1;cases h1
 | some o=>rw[ht.block _ (block_lt hh) (by omega),←h1,hh]
theorem parseInt10 (t:ByteArray)(w:World)(hs:t.size≤1000000000000)(hG:NumG w):
  Calls prog 145 #[.string t,.int .i64 10,.int .i64 64] w fun e w'=>Below w.heap.size w w'∧((∃v,Lib.parseIntB 64 t.data.toList=.ok v∧e=.returned (.tuple #[.int .i64 v,.nilIface]))∨((∀v,Lib.parseIntB 64 t.data.toList≠.ok v)∧∃z te pe,e=.returned (.tuple #[.int .i64 z,.iface te pe]))):=by
 obtain⟨_,⟨a,b,h2⟩,⟨c,d,h3⟩⟩:=hG
 cases hP:Lib.parseIntB 64 t.data.toList with
 | ok v =>
  have k:Calls prog 145 #[.string t,.int .i64 10,.int .i64 64] w _:=Any.strconv_ParseInt_10_at64_ok laysPI t (by omega) v hP w
  refine k.mono fun e w' ⟨h1,h4⟩=>⟨?_,Or.inl ⟨v,rfl,h1⟩⟩
  rcases h4 with rfl | ⟨x,rfl⟩
  ·exact Below.refl _ _
  ·exact Lib.bytesWorld_below _ _ _
 | «syntax» =>
  have k:Calls prog 145 #[.string t,.int .i64 10,.int .i64 64] w _:=Any.strconv_ParseInt_10_at64_syntax laysPI t (by omega) hP _ w h2 (Or.inr ⟨_,_,rfl⟩)
  exact k.mono fun e w' ⟨N,h1,_,_,h5⟩=>⟨h5,Or.inr ⟨(fun v h=>by cases h),_,_,_,h1⟩⟩
 | range =>
  have k:Calls prog 145 #[.string t,.int .i64 10,.int .i64 64] w _:=Any.strconv_ParseInt_10_at64_range laysPI t (by omega) hP _ w h3 (Or.inr ⟨_,_,rfl⟩)
  exact k.mono fun e w' ⟨N,h1,_,_,h5⟩=>⟨h5,Or.inr ⟨(fun v h=>by cases h),_,_,_,h1⟩⟩
end Go.Proofs.YtifhgjpglicjbaaGreatDoor
namespace Go.Proofs.YtifhgjpglicjbaaGreatDoor
open Go.Proofs.Tryz
open Go.RowKit Go.Shelf
def renC:Ren:=⟨fun k=>if k=25 then 63 else 0,fun k=>if k=3 then 3 else if k=4 then 4 else if k=5 then 5 else if k=9 then 9 else if k=37 then 130 else if k=47 then 196 else 0,fun _=>0⟩
theorem laysC:LaysPu.n25 prog renC:=by
 constructor
 all_goals first | kernel_rfl | (intro w;kernel_rfl)
theorem clone_any (s:ByteArray)(w:World)(hs:s.size≤281474976710656):
  Calls prog 43 #[.string s] w fun e w'=>e=.returned (.string s)∧Below w.heap.size w w':=by
 have c:Calls prog 63 #[.string s] w fun e w'=>e=.returned (.string s)∧Below w.heap.size w w':=AnyPu.stringslite_Clone laysC s w hs
 go_enter func43,ntmps43
 go_wp2_with (go_at_call 63;refine c.mono ?_;rintro e w' ⟨rfl,hb⟩)
 go_ret
 exact⟨rfl,hb⟩
end Go.Proofs.YtifhgjpglicjbaaGreatDoor
namespace Go.Proofs.YtifhgjpglicjbaaGreatDoor
open Go.Proofs.Tryz
open Go.RowKit Go.Shelf Go.Sort
attribute [local go_sem ↓] Go.wp_at_zero Go.wp_at_succ
theorem NumG.below {w w':World}(h:NumG w)(hb:Below w.heap.size w w'):NumG w':=by
 obtain⟨h1,⟨a,b,h2⟩,⟨c,d,h3⟩⟩:=h
 exact⟨h1.below hb,⟨a,b,Below.cellv hb h2⟩,⟨c,d,Below.cellv hb h3⟩⟩
theorem Touch.below_at {rb:Nat}{w a b:World}(h:Touch (·=rb) w a)(hb:Below a.heap.size a b):Touch (·=rb) w b:=h.trans (Touch.of_below hb)
theorem ext_dataV (s:ByteArray)(p q:Nat):(s.extract p q).data.toList=(s.data.toList.drop p).take (q-p):=by simp[ByteArray.data_extract]
theorem drop_unsign (s:ByteArray)(p:Nat):s.data.toList.drop (if startsB 45 (s.data.toList.drop p) then p+1 else p)=unsignL (s.data.toList.drop p):=by
 unfold unsignL
 split
 ·rename_i h;simp[List.drop_drop]
 ·rfl
theorem place_num (s:ByteArray)(p:Nat):(if startsB 45 (s.data.toList.drop p) then p+1 else p)+runL digit (unsignL (s.data.toList.drop p))=p+numLen (s.data.toList.drop p):=by
 unfold numLen unsignL
 split
 ·rename_i h
  have:=congrArg List.length (starts_cons h)
  rw[List.length_cons] at this
  omega
 ·omega
theorem numOf_no {t:List UInt8}(ht:SgD t)(h:∀v,Lib.parseIntB 64 t≠.ok v):numOf t=none:=by
 unfold numOf
 split
 ·rename_i g
  by_cases hne:unsignL t=[]
  ·exfalso
   have hn:Lib.itoa (numVal t)=t:=g.1
   have:numVal t=0:=by
    unfold unsignL at hne
    unfold numVal
    split at hne
    ·rename_i h1;rw[if_pos h1,hne];rfl
    ·rename_i h1;rw[if_neg h1,hne];rfl
   rw[this] at hn
   rw[←hn] at hne
   revert hne
   have:Lib.itoa 0=[48]:=by simp[Lib.itoa,Lib.decDigits]
   rw[this]
   decide
  ·exact absurd (parse_of ht hne g.2) (h _)
 ·rfl
theorem numOf_yes {t:List UInt8}(ht:SgD t){v:Int}(h:Lib.parseIntB 64 t=.ok v):numOf t=if Lib.itoa v=t then some v else none:=by
 obtain⟨rfl,hv⟩:=parse_val ht h
 unfold numOf
 simp[hv]
def numPost (_w:World)(rb:Nat)(s:ByteArray)(p k:Nat)(e:Ending)(w':World):Prop :=
 (∃z,numOf ((s.data.toList.drop p).take (numLen (s.data.toList.drop p)))=some z∧e=.returned (.tuple #[.iface 190 (.int .i64 z),.nilIface])∧RdB w' rb s (p+numLen (s.data.toList.drop p)) k) ∨
 (numOf ((s.data.toList.drop p).take (numLen (s.data.toList.drop p)))=none∧∃x,whyV x∧e=.returned (.tuple #[.nilIface,x])∧RdB w' rb s p k)
theorem number_at {w:World}{rb:Nat}{s:ByteArray}{p k:Nat}(h:RdB w rb s p k)(hG:NumG w)(hr:15≤rb):
  Calls prog 109 #[.pointer (some ⟨rb,0,none⟩)] w fun e w'=>Touch (·=rb) w w'∧numPost w rb s p k e w':=by
 have hn:=numLen_le (s.data.toList.drop p)
 rw[List.length_drop,len_data] at hn
 have hp:=h.hp
 have hs:=h.hs
 have hsd:=sgD_take (s.data.toList.drop p)
 have ex:(s.extract p (p+numLen (s.data.toList.drop p))).data.toList=(s.data.toList.drop p).take (numLen (s.data.toList.drop p)):=by rw[ext_dataV,Nat.add_sub_cancel_left]
 have exz:(s.extract p (p+numLen (s.data.toList.drop p))).size≤1000000000000:=by rw[←len_data,ex,List.length_take,List.length_drop,len_data];omega
 have CT:Hid (Calls prog 106 #[.pointer (some ⟨rb,0,none⟩),.string ⟨#[45]⟩] w fun e w'=>Touch (·=rb) w w'∧(∃b,e=.returned (.bool b))∧RdB w' rb s (if startsB 45 (s.data.toList.drop p) then p+1 else p) k):=(take_at h 45).mono fun e w' ⟨a,b,c⟩=>⟨a,⟨_,b⟩,c⟩
 have CR:Hid (∀X,RdB X rb s (if startsB 45 (s.data.toList.drop p) then p+1 else p) k→Calls prog 144 #[.pointer (some ⟨rb,0,none⟩),.func (.func 129) #[] #[]] X fun e w'=>Touch (·=rb) X w'∧(∃t:ByteArray,e=.returned (.string t))∧RdB w' rb s (p+numLen (s.data.toList.drop p)) k):=fun X hX=>(rdrun_isDigit hX).mono fun e w' ⟨a,⟨t,_,b⟩,c⟩=>⟨a,⟨t,b⟩,by rw[drop_unsign,place_num] at c;exact c⟩
 obtain⟨c0,c1,c2,cf,lr⟩:=h.cells
 unfold numPost
 generalize (if startsB 45 (s.data.toList.drop p) then p+1 else p)=p1 at *
 generalize hT:(s.data.toList.drop p).take (numLen (s.data.toList.drop p))=T at *
 have hq0:p≤p+numLen (s.data.toList.drop p):=by omega
 have hq1:p+numLen (s.data.toList.drop p)≤s.size:=by omega
 generalize p+numLen (s.data.toList.drop p)=q at *
 have hq0i:(p:Int)≤q:=by omega
 have hq1i:(q:Int)≤s.size:=by omega
 have B:∀{X:World},RdB X rb s q k→Aside (∀Y,Below X.heap.size X Y→RdB Y rb s q k∧RdB (Y.setCell ⟨rb,1,none⟩ (.int .i64 (p:Int))) rb s p k):=fun hX Y hb=>⟨hX.below hb,(hX.below hb).move p hp⟩
 have CP:=fun X hX=>parseInt10 (s.extract p q) X exz hX
 rw[ex] at CP
 have CB:Hid (∀X:World,RdB X rb s q k→X.cell? ⟨rb,0,none⟩=some (.string s)∧X.cell? ⟨rb,1,none⟩=some (.int .i64 ((q:Nat):Int))∧(∀j,X.frozen? ⟨rb,j,none⟩=false)∧rb<X.heap.size):=fun X hX=>⟨hX.cells.1,hX.cells.2.1,hX.cells.2.2.2.1,hX.cells.2.2.2.2⟩
 have MV:Hid (∀X:World,RdB X rb s q k→RdB (X.setCell ⟨rb,1,none⟩ (.int .i64 (p:Int))) rb s p k∧Touch (·=rb) X (X.setCell ⟨rb,1,none⟩ (.int .i64 (p:Int)))):=fun X hX=>⟨hX.move p hp,(Touch.refl (·=rb) X).setCell (p:=⟨rb,1,none⟩) (Or.inl rfl) _⟩
 have hGw:=hG
 have G1:Hid (∀X,Touch (·=rb) w X→NumG X):=fun X hX=>hGw.touch hX hr
 cases hP:Lib.parseIntB 64 T with
 | ok v =>
  have hv:=(parse_val hsd hP).2
  rw[numOf_yes hsd hP]
  have CPH:Hid (∀X,NumG X→Calls prog 145 #[.string (s.extract p q),.int .i64 10,.int .i64 64] X fun e w'=>Below X.heap.size X w'∧e=.returned (.tuple #[.int .i64 v,.nilIface])):=fun X hX=>(CP X hX).mono fun e w' ⟨a,b⟩=>⟨a,by
   rcases b with ⟨v',h1,h2⟩ | ⟨h1,_⟩
   ·rw[hP] at h1;cases h1;exact h2
   ·exact absurd hP (h1 v)⟩
  have CF:Hid (∀X,NumG X→Calls prog 78 #[.int .i64 v,.int .i64 10] X fun e w'=>e=.returned (.string ⟨(Lib.itoa v).toArray⟩)∧Below X.heap.size X w'):=fun X hX=>(formatInt_any v X hv hX.p10).mono fun e w' ⟨a,kd,os,b⟩=>⟨a,by rw[b];exact grow_any (Q:=fun w=>Below X.heap.size X w) (fun w o h=>h.alloc h.size o) os _ (below_drewN (Below.refl _ _) kd)⟩
  clear CP hsd hP h hG hGw exz
  by_cases he:Lib.itoa v=T
  ·have he2:(⟨(Lib.itoa v).toArray⟩:ByteArray)=s.extract p q:=by
    have:(s.extract p q).data=(Lib.itoa v).toArray:=by rw[he,←ex]
    rw[←this]
   rw[he2] at CF
   rw[if_pos he]
   clear he ex he2 hT B
   go_enter func109,ntmps109
   go_wp2_with (first
    |(go_at_call 106;refine CT.out.mono ?_;rintro e w1 ⟨ht1,⟨b1,rfl⟩,h1⟩)
    |(go_at_call 144;refine (CR.out _ h1).mono ?_;rintro e w2 ⟨ht2,⟨t2,rfl⟩,h2⟩;obtain⟨d0,d1,df,dl⟩:=CB.out _ h2))
   go_quiet (fail)
   go_wp2_with (first
    |(go_at_call 145;refine (CPH.out _ (G1.out _ ((ht1.trans ht2).drewN _))).mono ?_;rintro e w3 ⟨hb3,rfl⟩)
    |(go_at_call 78;refine (CF.out _ ((G1.out _ ((ht1.trans ht2).drewN _)).below hb3)).mono ?_;rintro e w4 ⟨rfl,hb4⟩))
   go_ret2
   exact⟨((((ht1.trans ht2).drewN _).below_at hb3).below_at hb4),Or.inl ⟨v,rfl,rfl,((h2.drewN _).below hb3).below hb4⟩⟩
  ·have he2:((⟨(Lib.itoa v).toArray⟩:ByteArray).toList==(s.extract p q).toList)=false:=by
    rw[ByteArray.toList_eq,ByteArray.toList_eq,ex]
    simpa using he
   rw[if_neg he]
   clear he ex hT B
   generalize (⟨(Lib.itoa v).toArray⟩:ByteArray)=R at *
   have CX:Hid (∀a b c:World,RdB a rb s q k→Below a.heap.size a b→Below b.heap.size b c→c.cell? ⟨rb,0,none⟩=some (.string s)∧c.cell? ⟨rb,1,none⟩=some (.int .i64 ((q:Nat):Int))∧(∀j,c.frozen? ⟨rb,j,none⟩=false)∧rb<c.heap.size):=fun a b c h1 h2 h3=>CB.out _ ((h1.below h2).below h3)
   go_enter func109,ntmps109
   go_wp2_with (first
    |(go_at_call 106;refine CT.out.mono ?_;rintro e w1 ⟨ht1,⟨b1,rfl⟩,h1⟩)
    |(go_at_call 144;refine (CR.out _ h1).mono ?_;rintro e w2 ⟨ht2,⟨t2,rfl⟩,h2⟩;obtain⟨d0,d1,df,dl⟩:=CB.out _ h2))
   go_quiet (fail)
   go_wp2_with (first
    |(go_at_call 145;refine (CPH.out _ (G1.out _ ((ht1.trans ht2).drewN _))).mono ?_;rintro e w3 ⟨hb3,rfl⟩)
    |(go_at_call 78;refine (CF.out _ ((G1.out _ ((ht1.trans ht2).drewN _)).below hb3)).mono ?_;rintro e w4 ⟨rfl,hb4⟩;obtain⟨g0,g1,gf,gl⟩:=CX.out _ _ _ (h2.drewN _) hb3 hb4;have gf1:=gf 1))
   go_ret2
   have hz:=((h2.drewN _).below hb3).below hb4
   exact⟨(((((ht1.trans ht2).drewN _).below_at hb3).below_at hb4).trans (MV.out _ hz).2),Or.inr ⟨(by trivial),_,⟨_,rfl⟩,rfl,(MV.out _ hz).1⟩⟩
 | «syntax» =>
  have hno:∀v,Lib.parseIntB 64 T≠.ok v:=fun v g=>by rw[hP] at g;cases g
  rw[numOf_no hsd hno]
  have CPH:Hid (∀X,NumG X→Calls prog 145 #[.string (s.extract p q),.int .i64 10,.int .i64 64] X fun e w'=>Below X.heap.size X w'∧∃z te pe,e=.returned (.tuple #[.int .i64 z,.iface te pe])):=fun X hX=>(CP X hX).mono fun e w' ⟨a,b⟩=>⟨a,by
   rcases b with ⟨v',h1,h2⟩ | ⟨h1,h2⟩
   ·exact absurd h1 (hno _)
   ·exact h2⟩
  clear CP hsd hP h hG hGw exz hno ex hT B
  have CX:Hid (∀a b:World,RdB a rb s q k→Below a.heap.size a b→b.cell? ⟨rb,0,none⟩=some (.string s)∧b.cell? ⟨rb,1,none⟩=some (.int .i64 ((q:Nat):Int))∧(∀j,b.frozen? ⟨rb,j,none⟩=false)∧rb<b.heap.size):=fun a b h1 h2=>CB.out _ (h1.below h2)
  go_enter func109,ntmps109
  go_wp2_with (first
   |(go_at_call 106;refine CT.out.mono ?_;rintro e w1 ⟨ht1,⟨b1,rfl⟩,h1⟩)
   |(go_at_call 144;refine (CR.out _ h1).mono ?_;rintro e w2 ⟨ht2,⟨t2,rfl⟩,h2⟩;obtain⟨d0,d1,df,dl⟩:=CB.out _ h2))
  go_quiet (fail)
  go_wp2_with (go_at_call 145;refine (CPH.out _ (G1.out _ ((ht1.trans ht2).drewN _))).mono ?_;rintro e w3 ⟨hb3,z,te,pe,rfl⟩;obtain⟨g0,g1,gf,gl⟩:=CX.out _ _ (h2.drewN _) hb3;have gf1:=gf 1)
  go_ret2
  have hz:=(h2.drewN _).below hb3
  exact⟨((((ht1.trans ht2).drewN _).below_at hb3).trans (MV.out _ hz).2),Or.inr ⟨(by trivial),_,⟨_,rfl⟩,rfl,(MV.out _ hz).1⟩⟩
 | range =>
  have hno:∀v,Lib.parseIntB 64 T≠.ok v:=fun v g=>by rw[hP] at g;cases g
  rw[numOf_no hsd hno]
  have CPH:Hid (∀X,NumG X→Calls prog 145 #[.string (s.extract p q),.int .i64 10,.int .i64 64] X fun e w'=>Below X.heap.size X w'∧∃z te pe,e=.returned (.tuple #[.int .i64 z,.iface te pe])):=fun X hX=>(CP X hX).mono fun e w' ⟨a,b⟩=>⟨a,by
   rcases b with ⟨v',h1,h2⟩ | ⟨h1,h2⟩
   ·exact absurd h1 (hno _)
   ·exact h2⟩
  clear CP hsd hP h hG hGw exz hno ex hT B
  have CX:Hid (∀a b:World,RdB a rb s q k→Below a.heap.size a b→b.cell? ⟨rb,0,none⟩=some (.string s)∧b.cell? ⟨rb,1,none⟩=some (.int .i64 ((q:Nat):Int))∧(∀j,b.frozen? ⟨rb,j,none⟩=false)∧rb<b.heap.size):=fun a b h1 h2=>CB.out _ (h1.below h2)
  go_enter func109,ntmps109
  go_wp2_with (first
   |(go_at_call 106;refine CT.out.mono ?_;rintro e w1 ⟨ht1,⟨b1,rfl⟩,h1⟩)
   |(go_at_call 144;refine (CR.out _ h1).mono ?_;rintro e w2 ⟨ht2,⟨t2,rfl⟩,h2⟩;obtain⟨d0,d1,df,dl⟩:=CB.out _ h2))
  go_quiet (fail)
  go_wp2_with (go_at_call 145;refine (CPH.out _ (G1.out _ ((ht1.trans ht2).drewN _))).mono ?_;rintro e w3 ⟨hb3,z,te,pe,rfl⟩;obtain⟨g0,g1,gf,gl⟩:=CX.out _ _ (h2.drewN _) hb3;have gf1:=gf 1)
  go_ret2
  have hz:=(h2.drewN _).below hb3
  exact⟨((((ht1.trans ht2).drewN _).below_at hb3).trans (MV.out _ hz).2),Or.inr ⟨(by trivial),_,⟨_,rfl⟩,rfl,(MV.out _ hz).1⟩⟩
theorem quoted_at {w:World}{rb:Nat}{s:ByteArray}{p k:Nat}(h:RdB w rb s p k)(hk:k≤600):
  Calls prog 108 #[.pointer (some ⟨rb,0,none⟩)] w fun e w'=>Touch (·=rb) w w'∧(
   (startsB 39 ((s.data.toList.drop p).drop (runL quot (s.data.toList.drop p)))=true∧k+runL quot (s.data.toList.drop p)≤600∧(∃t:ByteArray,t.data.toList=(s.data.toList.drop p).take (runL quot (s.data.toList.drop p))∧e=.returned (.tuple #[.iface 193 (.string t),.nilIface]))∧RdB w' rb s (p+runL quot (s.data.toList.drop p)+1) (k+runL quot (s.data.toList.drop p))) ∨
   ((startsB 39 ((s.data.toList.drop p).drop (runL quot (s.data.toList.drop p)))=true→600<k+runL quot (s.data.toList.drop p))∧∃x p' k',whyV x∧e=.returned (.tuple #[.nilIface,x])∧RdB w' rb s p' k')):=by
 have hrl:=run_le quot s p h.hp
 have hs:=h.hs
 have hlt:((s.data.toList.drop p).take (runL quot (s.data.toList.drop p))).length=runL quot (s.data.toList.drop p):=by rw[List.length_take,List.length_drop,len_data];omega
 have CR:Hid (Calls prog 144 #[.pointer (some ⟨rb,0,none⟩),.func (.func 42) #[] #[]] w _):=rdrun_isQuotable h
 have CW:Hid (∀X,RdB X rb s (p+runL quot (s.data.toList.drop p)) k→Calls prog 105 #[.pointer (some ⟨rb,0,none⟩),.int .i64 ((runL quot (s.data.toList.drop p):Nat):Int)] X _):=fun X hX=>weigh_at hX (runL quot (s.data.toList.drop p)) (by omega)
 have CT:Hid (∀X,RdB X rb s (p+runL quot (s.data.toList.drop p)) (k+runL quot (s.data.toList.drop p))→Calls prog 106 #[.pointer (some ⟨rb,0,none⟩),.string ⟨#[39]⟩] X _):=fun X hX=>take_at hX 39
 rw[List.drop_drop]
 have CC:Hid (∀(t:ByteArray) (X:World),t.data.toList=(s.data.toList.drop p).take (runL quot (s.data.toList.drop p))→Calls prog 43 #[.string t] X _):=fun t X ht=>clone_any t X (by rw[←len_data,ht];omega)
 have LT:Hid (∀t:ByteArray,t.data.toList=(s.data.toList.drop p).take (runL quot (s.data.toList.drop p))→t.size=runL quot (s.data.toList.drop p)):=fun t ht=>by rw[←len_data,ht,hlt]
 clear h hlt
 generalize (s.data.toList.drop p).take (runL quot (s.data.toList.drop p))=T at *
 generalize runL quot (s.data.toList.drop p)=n at *
 have RT:Hid (∀X:World,Touch (·=rb) X X):=fun X=>Touch.refl _ X
 by_cases hw:k+n≤600
 ·have CW1:Hid (∀X,RdB X rb s (p+n) k→Calls prog 105 #[.pointer (some ⟨rb,0,none⟩),.int .i64 ((n:Nat):Int)] X fun e w'=>Touch (·=rb) X w'∧RdB w' rb s (p+n) (k+n)∧e=.returned .nilIface):=fun X hX=>(CW.out X hX).mono fun e w' ⟨a,b,c⟩=>⟨a,b,by rcases c with c | c;exact c.2;omega⟩
  clear CW
  cases hb:startsB 39 (List.drop (p+n) s.data.toList) with
  | true =>
   rw[hb] at CT
   simp only[if_true] at CT
   go_enter func108,ntmps108
   go_wp2_with (first
    |(go_at_call 144;refine CR.out.mono ?_;rintro e w1 ⟨ht1,⟨t,htt,rfl⟩,h1⟩;have hts:=LT.out t htt)
    |(go_at_call 105;refine (CW1.out _ h1).mono ?_;rintro e w2 ⟨ht2,h2,rfl⟩)
    |(go_at_call 106;refine (CT.out _ h2).mono ?_;rintro e w3 ⟨ht3,rfl,h3⟩)
    |(go_at_call 43;refine (CC.out t _ htt).mono ?_;rintro e w4 ⟨rfl,hb4⟩))
   go_ret2
   exact⟨((ht1.trans ht2).trans ht3).below_at hb4,Or.inl ⟨by trivial,hw,⟨t,htt,rfl⟩,h3.below hb4⟩⟩
  | false =>
   rw[hb] at CT
   simp only[Bool.false_eq_true,if_false] at CT
   go_enter func108,ntmps108
   go_wp2_with (first
    |(go_at_call 144;refine CR.out.mono ?_;rintro e w1 ⟨ht1,⟨t,htt,rfl⟩,h1⟩;have hts:=LT.out t htt)
    |(go_at_call 105;refine (CW1.out _ h1).mono ?_;rintro e w2 ⟨ht2,h2,rfl⟩)
    |(go_at_call 106;refine (CT.out _ h2).mono ?_;rintro e w3 ⟨ht3,rfl,h3⟩))
   go_ret2
   exact⟨(ht1.trans ht2).trans ht3,Or.inr ⟨by simp,_,_,_,⟨_,rfl⟩,rfl,h3⟩⟩
 ·have CW1:Hid (∀X,RdB X rb s (p+n) k→Calls prog 105 #[.pointer (some ⟨rb,0,none⟩),.int .i64 ((n:Nat):Int)] X fun e w'=>Touch (·=rb) X w'∧RdB w' rb s (p+n) (k+n)∧∃b:ByteArray,e=.returned (.iface 69 (.string b))):=fun X hX=>(CW.out X hX).mono fun e w' ⟨a,b,c⟩=>⟨a,b,by
   rcases c with c | ⟨_,x,⟨d,rfl⟩,c⟩
   ·omega
   ·exact⟨d,c⟩⟩
  clear CW
  go_enter func108,ntmps108
  go_wp2_with (first
   |(go_at_call 144;refine CR.out.mono ?_;rintro e w1 ⟨ht1,⟨t,htt,rfl⟩,h1⟩;have hts:=LT.out t htt)
   |(go_at_call 105;refine (CW1.out _ h1).mono ?_;rintro e w2 ⟨ht2,h2,bw,rfl⟩))
  go_ret2
  exact⟨ht1.trans ht2,Or.inr ⟨fun _=>by omega,_,_,_,⟨_,rfl⟩,rfl,h2⟩⟩
end Go.Proofs.YtifhgjpglicjbaaGreatDoor
