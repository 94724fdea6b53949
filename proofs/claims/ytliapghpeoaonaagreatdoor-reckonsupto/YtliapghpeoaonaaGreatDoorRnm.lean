/-
  The numbers that the library's functions have here.
-/
import Derived.Test.YtliapghpeoaonaaGreatDoorRows
import Derived.Shelf.Strings.BuilderK
import Derived.Shelf.Strconv.Itoa4
import Derived.Shelf.Strconv.ParseIntPublic10
import Derived.WalkKit
import Derived.WalkSmall
import Derived.Test.YtliapghpeoaonaaGreatDoorRvA
set_option maxHeartbeats 4000000
set_option maxRecDepth 8000
namespace Go.Proofs.YtliapghpeoaonaaGreatDoor
open Go.Proofs.Tryz
open Go.RowKit Go.Shelf
def renL:Ren:=⟨fun k=>if k=129 then 239 else if k=166 then 114 else if k=169 then 66 else if k=171 then 178 else if k=173 then 115 else if k=174 then 204 else if k=205 then 284 else if k=240 then 160 else if k=243 then 216 else if k=245 then 245 else if k=246 then 161 else if k=247 then 244 else if k=276 then 195 else if k=279 then 264 else if k=280 then 265 else if k=281 then 266 else if k=282 then 267 else if k=283 then 196 else if k=284 then 197 else if k=285 then 198 else if k=286 then 199 else if k=287 then 263 else if k=316 then 135 else if k=317 then 238 else if k=318 then 240 else if k=319 then 241 else if k=320 then 242 else if k=321 then 282 else if k=322 then 283 else if k=337 then 261 else if k=338 then 262 else 0,fun k=>if k=167 then 472 else if k=0 then 0 else if k=2 then 2 else if k=3 then 3 else if k=4 then 4 else if k=5 then 5 else if k=9 then 9 else if k=20 then 20 else if k=21 then 21 else if k=37 then 153 else if k=46 then 327 else if k=51 then 72 else if k=53 then 387 else if k=70 then 152 else if k=72 then 155 else if k=75 then 51 else if k=80 then 42 else if k=85 then 395 else if k=127 then 234 else if k=143 then 503 else if k=145 then 505 else if k=164 then 225 else if k=168 then 475 else if k=171 then 386 else if k=173 then 390 else if k=175 then 473 else if k=210 then 497 else if k=212 then 444 else if k=213 then 445 else if k=232 then 493 else if k=233 then 494 else 0,fun k=>if k=15 then 13 else if k=16 then 14 else if k=17 then 10 else if k=18 then 11 else if k=19 then 12 else 0⟩
theorem laysWS:Lays.n166 prog renL:=by
 constructor
 all_goals first | kernel_rfl | (intro w;kernel_rfl)
theorem laysSt:Lays.n169 prog renL:=by
 constructor
 all_goals first | kernel_rfl | (intro w;kernel_rfl)
theorem laysFI:LaysM.n173 prog renL:=by
 constructor
 ·constructor
  all_goals first | kernel_rfl | (intro w;kernel_rfl)
 all_goals first | kernel_rfl | (intro w;kernel_rfl)
theorem Z16:LaysC.n174 prog renL:=by
 constructor
 ·constructor
  ·constructor
   all_goals first | kernel_rfl | (intro w;kernel_rfl)
  all_goals first | kernel_rfl | (intro w;kernel_rfl)
 all_goals first | kernel_rfl | (intro w;kernel_rfl)
theorem laysBx:Builder.Extra prog renL:=by
 constructor
 ·constructor
  all_goals first | kernel_rfl | (intro w;kernel_rfl) | decide
 all_goals first | kernel_rfl | (intro w;kernel_rfl) | decide
end Go.Proofs.YtliapghpeoaonaaGreatDoor
namespace Go.Proofs.YtliapghpeoaonaaGreatDoor
open Go.Proofs.Tryz
open Go.RowKit Go.Shelf Go.Sort
attribute [local go_sem ↓] Go.wp_at_zero Go.wp_at_succ
attribute [local go_sem] Zdi Zdh Zdj Zdf Zde Zdg Zdl Zdk Zdm
abbrev Zpa (w:World):Prop:=Lib.TabIs prog w "internal/strconv.uint64pow10" .u64 Lib.pow10Tab
theorem Zpa.below {w w':World}(h:Zpa w)(hb:Below w.heap.size w w'):Zpa w':=by
 unfold Zpa Lib.TabIs World.var? at h ⊢
 have hg:prog.globalNamed "internal/strconv.uint64pow10" = some 10:=by kernel_rfl
 rw[hg] at h ⊢
 simp only[Option.bind_some] at h ⊢
 cases hh:w.heap[(10:Nat)]? with
 | none=>rw[hh] at h;cases h
 | some o=>rw[hb.block _ (Zag hh),←h,hh]
theorem Zwy {Q:World→Prop}(hQ:∀w o,Q w→Q (w.alloc o)):∀(l:List Obj) (w:World),Q w→Q (grow w l.toArray)
 | [],w,h=>by simpa using h
 | o::l,w,h=>by
  have e:grow w (o::l).toArray=grow (w.alloc o) l.toArray:=by
   rw[alloc_eq_grow,grow_grow]
   simp
  rw[e]
  exact Zwy hQ l _ (hQ w o h)
theorem Zwx {Q:World→Prop}(hQ:∀w o,Q w→Q (w.alloc o))(os:Array Obj)(w:World)(h:Q w):Q (grow w os):=by
 have:=Zwy hQ os.toList w h
 simpa using this
abbrev Bld (B b:Nat)(l:List UInt8)(w:World):Prop:=Lib.IsBuilderF 155 5 B b (Lib.byteCells l) w
theorem Bld.alloc {B b:Nat}{l:List UInt8}{w:World}(h:Bld B b l w)(o:Obj):Bld B b l (w.alloc o):=h.elim (fun x=>.inl (x.alloc o)) (fun x=>.inr (x.alloc o))
theorem Bld.drewN {B b:Nat}{l:List UInt8}{w:World}(h:Bld B b l w)(n:Nat):Bld B b l (w.drewN n):=h
theorem Z3a (l:List UInt8)(s:ByteArray):Lib.byteCells l++Lib.strCells s=Lib.byteCells (l++s.data.toList):=by simp[Lib.byteCells,Lib.strCells]
theorem Zff (B b:Nat)(l:List UInt8)(s:ByteArray)(w:World)(h:Bld B b l w)(hl:l.length+s.size≤140737488355328)(hB:B≤w.heap.size):
  Calls prog 114 #[.pointer (some ⟨b,0,none⟩),.string s] w fun e w'=>e=.returned (.tuple #[.int .i64 s.size,.nilIface])∧Bld B b (l++s.data.toList) w'∧Below B w w'∧Lib.OthersKept 5 (some b) w w':=by
 have c:Calls prog 114 #[.pointer (some ⟨b,0,none⟩),.string s] w _:=Any.Builder_WriteString_k laysWS laysBx B b (Lib.byteCells l) s w h (by rw[Lib.byteCells_length];exact hl) hB
 refine c.mono fun e w' ⟨h1,h2,h3,h4⟩=>⟨h1,?_,h3,h4⟩
 rw[Z3a] at h2
 exact .inr h2
theorem Zj7 (z:Int)(w:World)(hz:Zih z)(ht:Zpa w):
  Calls prog 115 #[.int .i64 z,.int .i64 10] w fun e w'=>e=.returned (.string ⟨(Lib.itoa z).toArray⟩)∧∃k os,w'=grow (w.drewN k) os :=
 Any.strconv_FormatInt_10 laysFI z hz.1 hz.2 w ht
def Z3v (n:Nat)(w0:World)(b:Nat):Prop:=∀(v:PV) (x:Value) (w:World) (l:List UInt8),wtV v≤n→okV v→VL w0 (·<w0.heap.size) v x→Bld w0.heap.size b l w→Below w0.heap.size w0 w→l.length+23*wtV v≤1000000000 →
  Calls prog 65 #[.pointer (some ⟨b,0,none⟩),x] w fun e w'=>e=.returned (.tuple #[])∧Bld w0.heap.size b (l++wrV v) w'∧Below w0.heap.size w0 w'
theorem Zz2 (w0:World)(b:Nat)(ht:Zpa w0)(z:Int)(w:World)(l:List UInt8)(hz:Zih z)(hB:Bld w0.heap.size b l w)(hb:Below w0.heap.size w0 w)(hl:l.length+23≤1000000000):
  Calls prog 65 #[.pointer (some ⟨b,0,none⟩),.iface 228 (.int .i64 z)] w fun e w'=>e=.returned (.tuple #[])∧Bld w0.heap.size b (l++Lib.itoa z) w'∧Below w0.heap.size w0 w':=by
 have cf:=Zj7 z w hz (ht.below hb)
 have hlen:=Lib.itoa_length_le z hz.1 hz.2
 have CW:Hid (∀k os,Calls prog 114 #[.pointer (some ⟨b,0,none⟩),.string ⟨(Lib.itoa z).toArray⟩] (grow (w.drewN k) os) fun e w'=>(∃y,e=.returned (.tuple #[.int .i64 y,.nilIface]))∧Bld w0.heap.size b (l++Lib.itoa z) w'∧Below w0.heap.size w0 w'):=fun k os=>by
  have hg:Bld w0.heap.size b l (grow (w.drewN k) os)∧Below w0.heap.size w0 (grow (w.drewN k) os):=Zwx (Q:=fun w=>Bld w0.heap.size b l w∧Below w0.heap.size w0 w) (fun w o h=>⟨h.1.alloc o,h.2.alloc h.2.size o⟩) os _ ⟨hB,below_drewN hb k⟩
  refine (Zff w0.heap.size b l ⟨(Lib.itoa z).toArray⟩ _ hg.1 (by show l.length+(Lib.itoa z).toArray.size≤_;simp;omega) hg.2.size).mono fun e w' ⟨h1,h2,h3,_⟩=>⟨⟨_,h1⟩,?_,hg.2.trans h3⟩
  simpa using h2
 clear hB hb hl hlen
 generalize Lib.itoa z=R at *
 go_enter func65,ntmps65
 go_wp2_with (first
  |(go_at_call 115;refine cf.mono ?_;rintro e w1 ⟨rfl,kd,os,rfl⟩)
  |(go_at_call 114;refine (CW.out _ _).mono ?_;rintro e w2 ⟨⟨y,rfl⟩,hB2,hb2⟩))
 exact bodyPost_end (v:=.tuple #[]) (by simp[results,results65,go_sem]) rfl ⟨rfl,hB2,hb2⟩
theorem Zz1 (w0:World)(b:Nat)(s:ByteArray)(w:World)(l:List UInt8)(hB:Bld w0.heap.size b l w)(hb:Below w0.heap.size w0 w)(hl:l.length+23*(s.size+1)≤1000000000):
  Calls prog 65 #[.pointer (some ⟨b,0,none⟩),.iface 231 (.string s)] w fun e w'=>e=.returned (.tuple #[])∧Bld w0.heap.size b (l++(39::(s.data.toList++[39]))) w'∧Below w0.heap.size w0 w':=by
 have CW:∀(y:ByteArray),y.data.toList=39::(s.data.toList++[39])→Calls prog 114 #[.pointer (some ⟨b,0,none⟩),.string y] w fun e w'=>(∃y,e=.returned (.tuple #[.int .i64 y,.nilIface]))∧Bld w0.heap.size b (l++(39::(s.data.toList++[39]))) w'∧Below w0.heap.size w0 w':=fun y hy=>by
  have hyz:y.size=s.size+2:=by rw[←Ziy,hy];simp
  refine (Zff w0.heap.size b l y w hB (by omega) hb.size).mono fun e w' ⟨h1,h2,h3,_⟩=>⟨⟨_,h1⟩,?_,hb.trans h3⟩
  rw[hy] at h2
  exact h2
 clear hB hb
 go_enter func65,ntmps65
 go_wp2_with (go_at_call 114;refine (CW _ ?_).mono ?_;(simp);rintro e w2 ⟨⟨y,rfl⟩,hB2,hb2⟩)
 exact bodyPost_end (v:=.tuple #[]) (by simp[results,results65,go_sem]) rfl ⟨rfl,hB2,hb2⟩
theorem Z0c (w0:World)(b:Nat)(c:UInt8)(w:World)(l:List UInt8)(hB:Bld w0.heap.size b l w)(hb:Below w0.heap.size w0 w)(hl:l.length+1≤140737488355328):
  Calls prog 114 #[.pointer (some ⟨b,0,none⟩),.string ⟨#[c]⟩] w fun e w'=>(∃y,e=.returned (.tuple #[.int .i64 y,.nilIface]))∧Bld w0.heap.size b (l++[c]) w'∧Below w0.heap.size w0 w'∧Lib.OthersKept 5 (some b) w w' :=
 (Zff w0.heap.size b l ⟨#[c]⟩ w hB (by show l.length+1≤_;exact hl) hb.size).mono fun e w' ⟨h1,h2,h3,h4⟩=>⟨⟨_,h1⟩,h2,hb.trans h3,h4⟩
theorem Zz4 (l:List PV)(q:Nat)(hq:q<l.length):Zgm (l.take (q+1))=if q=0 then wrV l[q] else Zgm (l.take q)++32::wrV l[q]:=by
 rw[List.take_succ_eq_append_getElem hq,Zm0]
 by_cases h:q=0
 ·subst h;simp
 ·rw[if_neg h,if_neg]
  intro e
  have:=congrArg List.length e
  simp only[List.length_take,List.length_nil] at this
  omega
theorem Zm1:∀(l:List PV),Zha l→(Zgm l).length≤23*Zbh l
 | [],_=>by simp[Zgm,Zbh]
 | v::r,h=>by
  rw[Zha] at h
  have h1:=Zkg v h.1
  have h2:=Zuk r h.2
  rw[Zgm,Zbh,List.length_append]
  omega
theorem Zpz:∀{l:List PV} (q:Nat),Zha l→Zha (l.take q)
 | [],q,h=>by simpa using h
 | v::r,0,h=>by simp[Zha]
 | v::r,q+1,h=>by
  rw[Zha] at h
  rw[List.take_succ_cons,Zha]
  exact⟨h.1,Zpz q h.2⟩
theorem Zz3 {n:Nat}(w0:World)(b:Nat)(ih:Z3v n w0 b)(l:List PV)(sl:Value)(cs:List Value)(z:Int)(w:World)(lb:List UInt8)(hw:Zbh l≤n)(hok:Zha l)(hseg:Zar w0 (·<w0.heap.size) 81 1 sl l.length cs)(hvs:VLs w0 (·<w0.heap.size) l cs)(hB:Bld w0.heap.size b lb w)(hb:Below w0.heap.size w0 w)(hl:lb.length+23*(Zbh l+1)≤1000000000):
  Calls prog 65 #[.pointer (some ⟨b,0,none⟩),.iface 233 (.agg #[sl,.int .i64 z])] w fun e w'=>e=.returned (.tuple #[])∧Bld w0.heap.size b (lb++(40::(Zgm l++[41]))) w'∧Below w0.heap.size w0 w':=by
 obtain⟨ad,cap,rfl⟩:=hseg.slice
 have hX:=hB.alloc (Obj.cells #[.slice ad l.length cap,.int .i64 z] 233)
 have hbX:=hb.alloc hb.size (Obj.cells #[.slice ad l.length cap,.int .i64 z] 233)
 have hll:=Zdd l
 have c1:=Z0c w0 b 40 _ lb hX hbX (by omega)
 have n0:(w.alloc (Obj.cells #[.slice ad l.length cap,.int .i64 z] 233)).cell? ⟨w.heap.size,0,none⟩=some (.slice ad l.length cap):=by
  have h:(w.alloc (Obj.cells #[.slice ad l.length cap,.int .i64 z] 233)).heap[w.heap.size]?=some (.cells #[.slice ad l.length cap,.int .i64 z] 233):=heap_alloc_new _ _
  unfold World.cell?;rw[h];rfl
 have hblt:b<w.heap.size:=hB.elim (fun x=>x.lt) (fun x=>x.lt)
 have hn:(w.alloc (Obj.cells #[.slice ad l.length cap,.int .i64 z] 233)).heap[w.heap.size]?=some (.cells #[.slice ad l.length cap,.int .i64 z] 233):=heap_alloc_new _ _
 have C1:Hid (Calls prog 114 #[.pointer (some ⟨b,0,none⟩),.string ⟨#[40]⟩] (w.alloc (Obj.cells #[.slice ad l.length cap,.int .i64 z] 233)) fun e w'=>(∃y,e=.returned (.tuple #[.int .i64 y,.nilIface]))∧(Bld w0.heap.size b (lb++[40]) w'∧Below w0.heap.size w0 w')∧w'.cell? ⟨w.heap.size,0,none⟩=some (.slice ad l.length cap)):=c1.mono fun e w' ⟨h1,h2,h3,h4⟩=>⟨h1,⟨h2,h3⟩,by
  have hk:=h4 w.heap.size _ hn (by simp;omega) (fun c fz e=>by
   simp only[Obj.cells.injEq] at e
   exact absurd e.2.1 (by decide))
  unfold World.cell?
  rw[hk]
  rfl⟩
 clear hX hbX hB hb c1 n0 hn
 have hokt:=fun q=>Zm1 _ (Zpz q hok)
 have htk:=fun q=>Zfy l q
 go_enter func65,ntmps65
 go_wp2_with (go_at_call 114;refine C1.out.mono ?_;rintro e w1 ⟨⟨y,rfl⟩,hBB,hcl⟩)
 go_loopg [33] l.length (fun gh iv wr=>∃q:Nat,gh=l.length-q∧iv=.int .i64 ((q:Nat):Int)∧q≤l.length∧Aside (Bld w0.heap.size b (lb++(40::Zgm (l.take q))) wr∧Below w0.heap.size w0 wr))
 case atStart=>exact⟨0,by omega,rfl,by omega,by show _∧_;simpa[Zgm] using hBB⟩
 case round =>
  obtain⟨q,rfl,rfl,hq,hI⟩:=hrel
  have hlq:=hokt q
  have hwq:=htk q
  by_cases hlt:q<l.length
  ·obtain⟨g,o,cap',e,hg,hc1,hc2,hcell⟩:=hseg.cell (by omega)
   simp only[Value.slice.injEq] at e
   obtain⟨rfl,_,rfl⟩:=e
   obtain⟨x,hx,hvx⟩:=hvs.at q hlt
   have c0:wr.cell? ⟨g,o+q,none⟩=some x:=Below.cellv hI.out.2 (by have:=hcell q (by rw[Nat.mul_one];omega);rw[this];exact hx)
   obtain⟨tx,yx,rfl⟩:=hvx.iface
   have hwa:=Zix l q hlt
   have hws:=Zmv l q hlt
   have hwt1:=htk (q+1)
   have hv:=Zq8 hlt hok
   have hqi:((q:Nat):Int)<((l.length:Nat):Int):=by omega
   unfold maxLen at hc2
   have SP:Hid (Calls prog 114 #[.pointer (some ⟨b,0,none⟩),.string ⟨#[32]⟩] wr fun e w'=>(∃y,e=.returned (.tuple #[.int .i64 y,.nilIface]))∧Bld w0.heap.size b (lb++(40::Zgm (l.take q))++[32]) w'∧Below w0.heap.size w0 w'):=(Z0c w0 b 32 wr _ hI.out.1 hI.out.2 (by simp;omega)).mono fun e w' ⟨h1,h2,h3,_⟩=>⟨h1,h2,h3⟩
   have WR:Hid (∀(w2:World) (l2:List UInt8),Bld w0.heap.size b l2 w2→Below w0.heap.size w0 w2→l2.length≤lb.length+1+23*Zbh (l.take q)+1→Calls prog 65 #[.pointer (some ⟨b,0,none⟩),.iface tx yx] w2 fun e w'=>e=.returned (.tuple #[])∧Bld w0.heap.size b (l2++wrV l[q]) w'∧Below w0.heap.size w0 w'):=fun w2 l2 h1 h2 h3=>ih l[q] _ w2 l2 (by omega) hv hvx h1 h2 (by omega)
   have hE:=Zz4 l q hlt
   clear hvx hseg hvs hcell hx hv hokt htk ih hcl
   by_cases h0:q=0
   ·have hE2:Aside (Zgm (l.take (q+1))=wrV l[q]):=by show _=_;rw[hE,if_pos h0]
    have hE3:Zgm (l.take q)=[]:=by rw[h0];simp[Zgm]
    have WR2:Hid (Calls prog 65 #[.pointer (some ⟨b,0,none⟩),.iface tx yx] wr fun e w'=>e=.returned (.tuple #[])∧Bld w0.heap.size b (lb++(40::Zgm (l.take q))++wrV l[q]) w'∧Below w0.heap.size w0 w'):=WR.out wr _ hI.out.1 hI.out.2 (by rw[hE3];simp;omega)
    rw[hE3] at WR2
    have hqz:¬ ((0:Int)<((q:Nat):Int)):=by omega
    have H0:Aside (q=0):=h0
    clear hE hE3 SP WR hI hlq h0
    go_wp2_with (go_at_call 65;refine WR2.out.mono ?_;rintro e w3 ⟨rfl,hB3,hb3⟩)
    go_roundg (l.length-(q+1))
    case measure=>omega
    case rel=>exact⟨q+1,rfl,by go_num,by omega,by show _∧_;rw[hE2.out];exact⟨by simpa using hB3,hb3⟩⟩
   ·have hE2:Aside (Zgm (l.take (q+1))=Zgm (l.take q)++32::wrV l[q]):=by show _=_;rw[hE,if_neg h0]
    have hq0:(0:Int)<((q:Nat):Int):=by omega
    have WR2:Hid (∀w2,Bld w0.heap.size b (lb++(40::Zgm (l.take q))++[32]) w2→Below w0.heap.size w0 w2→Calls prog 65 #[.pointer (some ⟨b,0,none⟩),.iface tx yx] w2 fun e w'=>e=.returned (.tuple #[])∧Bld w0.heap.size b (lb++(40::Zgm (l.take q))++[32]++wrV l[q]) w'∧Below w0.heap.size w0 w'):=fun w2 h1 h2=>WR.out w2 _ h1 h2 (by simp;omega)
    clear hE WR hI hlq
    go_wp2_with (first
     |(go_at_call 114;refine SP.out.mono ?_;rintro e w2 ⟨⟨y2,rfl⟩,hB2,hb2⟩)
     |(go_at_call 65;refine (WR2.out w2 hB2 hb2).mono ?_;rintro e w3 ⟨rfl,hB3,hb3⟩))
    go_roundg (l.length-(q+1))
    case measure=>omega
    case rel=>exact⟨q+1,rfl,by go_num,by omega,by show _∧_;rw[hE2.out];exact⟨by simpa using hB3,hb3⟩⟩
  ·have hqq:q=l.length:=by omega
   subst hqq
   have hlq':=Zm1 l hok
   have CE:Hid (Calls prog 114 #[.pointer (some ⟨b,0,none⟩),.string ⟨#[41]⟩] wr fun e w'=>(∃y,e=.returned (.tuple #[.int .i64 y,.nilIface]))∧Bld w0.heap.size b (lb++(40::(Zgm l++[41]))) w'∧Below w0.heap.size w0 w'):=(Z0c w0 b 41 wr _ hI.out.1 hI.out.2 (by simp;omega)).mono fun e w' ⟨h1,h2,h3,_⟩=>⟨h1,by simpa using h2,h3⟩
   clear hseg hvs ih hokt htk hI hlq hwq hlq'
   go_wp2_with (go_at_call 114;refine CE.out.mono ?_;rintro e w2 ⟨⟨y2,rfl⟩,hB2,hb2⟩)
   exact bodyPost_end (v:=.tuple #[]) (by simp[results,results65,go_sem]) rfl ⟨rfl,hB2,hb2⟩
theorem Zsc (w0:World)(b:Nat)(ht:Zpa w0):∀n,Z3v n w0 b
 | 0=>fun v x w l h _ _ _ _ _=>absurd (Zf1 v) (by omega)
 | n+1=>fun v x w l hw hok hv hB hb hl=>by
  have ih:=Zsc w0 b ht n
  cases v with
  | num z =>
   rw[VL] at hv
   subst hv
   rw[okV] at hok
   rw[wrV]
   rw[wtV] at hl
   exact Zz2 w0 b ht z w l hok hB hb (by omega)
  | txt s =>
   rw[VL] at hv
   obtain⟨s',hs,rfl⟩:=hv
   rw[wrV,←hs]
   rw[wtV,←hs,Ziy] at hl
   exact Zz1 w0 b s' w l hB hb (by omega)
  | lst vs =>
   rw[VL] at hv
   obtain⟨sl,cs,rfl,h1,h2⟩:=hv
   rw[okV] at hok
   rw[wtV] at hw hl
   rw[wrV]
   exact Zz3 w0 b ih vs sl cs _ w l (by omega) hok h1 h2 hB hb (by omega)
end Go.Proofs.YtliapghpeoaonaaGreatDoor
namespace Go.Proofs.YtliapghpeoaonaaGreatDoor
open Go.Proofs.Tryz
open Go.RowKit Go.Shelf Go.Sort
attribute [local go_sem ↓] Go.wp_at_zero Go.wp_at_succ
theorem Bld.new (w:World):Bld w.heap.size w.heap.size [] (w.alloc (Obj.cells #[.pointer none,.slice none 0 0] 155)):=by
 refine .inl ⟨Nat.le_refl _,.slice none 0 0,heap_alloc_new _ _,?_,by intro h;cases h⟩
 exact⟨rfl,Or.inl ⟨rfl,rfl⟩⟩
theorem Z3u (D:Nat→Prop)(v:PV)(x:Value)(w:World)(hv:VL w D v x)(hok:okV v)(hw:wtV v≤1000000)(ht:Zpa w):
  Calls prog 32 #[x] w fun e w'=>e=.returned (.string ⟨(wrV v).toArray⟩)∧Below w.heap.size w w':=by
 have hv2:VL w (·<w.heap.size) v x:=(hv.map fun _ _ _ g=>g.keep (w':=w) fun _ _ _=>rfl).weaken fun g hg=>hg.2
 have cw:=Zsc w w.heap.size ht (wtV v) v x _ [] (Nat.le_refl _) hok hv2 (Bld.new w) (Zab w _) (by simp;omega)
 rw[List.nil_append] at cw
 have CS:Hid (∀w2,Bld w.heap.size w.heap.size (wrV v) w2→Below w.heap.size w w2→Calls prog 66 #[.pointer (some ⟨w.heap.size,0,none⟩)] w2 fun e w'=>e=.returned (.string ⟨(wrV v).toArray⟩)∧Below w.heap.size w w'):=fun w2 h1 h2=>by
  have c:Calls prog 66 #[.pointer (some ⟨w.heap.size,0,none⟩)] w2 _:=Any.Builder_String_any_k laysSt laysBx w.heap.size w.heap.size (wrV v) w2 h1 h2.size
  exact c.mono fun e w' ⟨g1,_,g3,_⟩=>⟨g1,h2.trans g3⟩
 clear hv hv2 hok hw ht
 generalize wrV v=R at *
 go_enter func32,ntmps32
 go_wp2_with (first
  |(go_at_call 65;refine cw.mono ?_;rintro e w2 ⟨rfl,hB2,hb2⟩)
  |(go_at_call 66;refine (CS.out _ hB2 hb2).mono ?_;rintro e w3 ⟨rfl,hb3⟩))
 go_ret
 exact⟨rfl,hb3⟩
end Go.Proofs.YtliapghpeoaonaaGreatDoor
