/-
  Sums: the walk.
-/
import Derived.Test.YtifhgjpglicjbaaGreatDoorSuA
import Derived.Deep.QuietTactic
import Derived.BigQuiet
set_option maxHeartbeats 4000000
set_option maxRecDepth 8000
namespace Go.Proofs.YtifhgjpglicjbaaGreatDoor
open Go.Proofs.Tryz
open Go.RowKit Go.Lib
attribute [local go_sem ↓] Go.wp_at_zero Go.wp_at_succ
structure SuI (L:List Int)(k0:Nat)(b:Int)(i:Nat)(T D B:ByteArray):Prop where
 t:T=pre (L.take i)
 d:D=pre ((L.take i).map dblA)
 b:B=pre ((L.set k0 b).take i)
theorem SuI.sizes {L:List Int}{k0:Nat}{b:Int}{i:Nat}{T D B:ByteArray}(h:SuI L k0 b i T D B)(hL:L.length≤100)(hin:∀z∈L,In64 z)(hb:In64 b):T.size≤3000∧D.size≤3000∧B.size≤3000:=by
 rw[h.t,h.d,h.b]
 refine⟨pre_size (fun z hz=>hin z (List.mem_of_mem_take hz)) (by rw[List.length_take];omega),pre_size (fun z hz=>?_) (by rw[List.length_map,List.length_take];omega),pre_size (fun z hz=>?_) (by rw[List.length_take,List.length_set];omega)⟩
 ·rw[List.mem_map] at hz
  obtain⟨x,_,rfl⟩:=hz
  exact dbl_in x
 ·have hz:=List.mem_of_mem_take hz
  rcases List.mem_or_eq_of_mem_set hz with h | h
  ·exact hin z h
  ·rw[h];exact hb
theorem SuI.next {L:List Int}{k0:Nat}{b:Int}{i:Nat}{T D B:ByteArray}(h:SuI L k0 b i T D B)(hi:i<L.length):
  SuI L k0 b (i+1) (T++sepB i++arr (itoa L[i])) (D++sepB i++arr (itoa (dblA L[i]))) (B++sepB i++arr (itoa (if i=k0 then b else L[i]))):=by
 have hl:(L.take i).length=i:=by rw[List.length_take];omega
 refine⟨?_,?_,?_⟩
 ·rw[h.t,List.take_succ_eq_append_getElem hi]
  have:=pre_snoc (L.take i) L[i]
  rw[hl] at this
  exact this
 ·rw[h.d,List.take_succ_eq_append_getElem hi,List.map_append]
  have:=pre_snoc ((L.take i).map dblA) (dblA L[i])
  rw[List.length_map,hl] at this
  exact this
 ·have hi2:i<(L.set k0 b).length:=by rw[List.length_set];exact hi
  rw[h.b,List.take_succ_eq_append_getElem hi2]
  have hl2:((L.set k0 b).take i).length=i:=by rw[List.length_take,List.length_set];omega
  have:=pre_snoc ((L.set k0 b).take i) (L.set k0 b)[i]
  rw[hl2] at this
  rw[←this]
  congr 3
  rw[List.getElem_set]
  by_cases e:i=k0
  ·rw[if_pos e,if_pos e.symm]
  ·rw[if_neg e,if_neg fun h=>e h.symm]
theorem Sums_any (a b:Int)(l:List Int)(sl:Value)(w:World)(E:Nat→Addr)(G:G0 w E)(ha:In64 a)(hb:In64 b)(hin0:∀z∈l,In64 z)(h:IntsAt w sl l):
  Calls prog 3 #[.int .i64 a,.int .i64 b,sl] w fun e w'=>e=.returned (.bool true)∧Below w.heap.size w w':=by
 have h':=h
 obtain⟨ad,cap,rfl,hcap,hcm,hcell⟩:=h'
 unfold maxLen at hcm
 have CK:=known_ok w E G.er G.fl G.nu G.sz
 obtain⟨L,hL⟩:∃L,L=l.take 100:=⟨_,rfl⟩
 have hLl:L.length=min l.length 100:=by rw[hL,List.length_take];omega
 have hLlen:L.length≤100:=by omega
 have hin:∀z∈L,In64 z:=fun z hz=>hin0 z (by rw[hL] at hz;exact List.mem_of_mem_take hz)
 obtain⟨k0,hk0⟩:∃k0,k0=pickA a L.length:=⟨_,rfl⟩
 have CN:Hid (∀X z,In64 z→Calls prog 9 #[.int .i64 z] X fun e w'=>e=.returned (.string (arr (itoa z)))∧w'=X):=fun X z hz=>number_any z X hz
 have CP:Hid (0<L.length→∀X,Calls prog 10 #[.int .i64 a,.int .i64 (min (l.length:Int) 100)] X fun e w'=>e=.returned (.int .i64 ((k0:Nat):Int))∧w'=X):=fun h0 X=>by
  have:=pick_any a L.length X ha h0 (by omega)
  rw[show ((L.length:Nat):Int)=min (l.length:Int) 100 by omega,←hk0] at this
  exact this
 have S0:Hid (SuI L k0 b 0 ⟨#[40]⟩ ⟨#[40]⟩ ⟨#[40]⟩):=⟨by kernel_rfl,by kernel_rfl,by simp;kernel_rfl⟩
 have hli:(l.length:Int)≤9223372036854775807:=by omega
 have hci:(l.length:Int)≤(cap:Int):=by omega
 go_enter func3,ntmps3
 go_wp2_with (go_at_call 8;refine CK.mono ?_;clear CK;rintro e w1 ⟨rfl,hb1⟩)
 go_loopg [9,10,11,12,13] L.length (fun gh tv dv bv nv iv wr=>∃(i:Nat) (T D B:ByteArray),gh=L.length-i∧tv=.string T∧dv=.string D∧bv=.string B∧nv=.int .i64 ((i:Nat):Int)∧iv=.int .i64 ((i:Nat):Int)∧i≤L.length∧Aside (Below w.heap.size w wr∧SuI L k0 b i T D B))
 case atStart=>exact⟨0,_,_,_,by omega,rfl,rfl,rfl,rfl,rfl,Nat.zero_le _,(show _∧_ from ⟨hb1,S0.out⟩)⟩
 case round =>
  obtain⟨i,T,D,B,rfl,rfl,rfl,rfl,rfl,rfl,hi,hA⟩:=hrel
  obtain⟨hbw,hI⟩:=hA.out
  obtain⟨z1,z2,z3⟩:=hI.sizes hLlen hin hb
  by_cases hlt:i<L.length
  ·have hil:i<l.length:=by omega
   obtain⟨g,o,rfl,hc⟩:=hcell i hil
   obtain⟨z,hz⟩:∃z,z=L[i]:=⟨_,rfl⟩
   have hzl:l[i]=z:=by rw[hz];simp[hL]
   have hz64:In64 z:=by rw[hz];exact hin _ (List.getElem_mem hlt)
   have c0:wr.cell? ⟨g,o+i,none⟩=some (.int .i64 z):=by rw[←hzl];exact Below.cellv hbw hc
   have NX:=hI.next hlt
   rw[←hz] at NX
   have CNz:Hid (∀X,Calls prog 9 #[.int .i64 z] X fun e w'=>e=.returned (.string (arr (itoa z)))∧w'=X):=fun X=>CN.out X z hz64
   obtain⟨y,hy⟩:∃y,y=dblA z:=⟨_,rfl⟩
   have r1:wrap64 (z+z)=y:=hy.symm
   have r2:IntKind.i64.wrap (z+z)=y:=(Go.IntWalk.i64_left _).trans r1
   have hy64:In64 y:=by rw[hy];exact dbl_in z
   rw[←hy] at NX
   have CNd:Hid (∀X,Calls prog 9 #[.int .i64 y] X fun e w'=>e=.returned (.string (arr (itoa y)))∧w'=X):=fun X=>CN.out X y hy64
   have CNb:Hid (∀X,Calls prog 9 #[.int .i64 b] X fun e w'=>e=.returned (.string (arr (itoa b)))∧w'=X):=fun X=>CN.out X b hb
   have CPk:=CP.out (by omega)
   have CPK:Hid _:=CPk
   have n1:(arr (itoa z)).size≤30:=by rw[arr_size];have:=itoa_length_le z hz64.1 hz64.2;omega
   have n2:(arr (itoa y)).size≤30:=by rw[arr_size];have:=itoa_length_le y hy64.1 hy64.2;omega
   have n3:(arr (itoa b)).size≤30:=by rw[arr_size];have:=itoa_length_le b hb.1 hb.2;omega
   have hii:(i:Int)<(l.length:Int):=by omega
   have hi100:(i:Int)<100:=by omega
   obtain⟨hz1,hz2⟩:-9223372036854775808≤z∧z≤9223372036854775807:=hz64
   have HB:Hid (Below w.heap.size w wr):=hbw
   have NXa:i=k0→SuI L k0 b (i+1) (T++sepB i++arr (itoa z)) (D++sepB i++arr (itoa y)) (B++sepB i++arr (itoa b)):=fun e=>by rw[if_pos e] at NX;exact NX
   have NXb:i≠k0→SuI L k0 b (i+1) (T++sepB i++arr (itoa z)) (D++sepB i++arr (itoa y)) (B++sepB i++arr (itoa z)):=fun e=>by rw[if_neg e] at NX;exact NX
   clear NX
   generalize arr (itoa z)=nz at *
   generalize arr (itoa y)=nd at *
   generalize arr (itoa b)=nb at *
   clear hy hy64
   clear hA hI hcell hin0 hin h CN CP CPk S0 hzl hz hb1 hL hLl hc G hk0 hbw
   by_cases hi0:i=0
   ·have hsep:sepB i=⟨#[]⟩:=by unfold sepB;rw[if_pos hi0]
    rw[hsep] at NXa NXb
    clear hsep
    subst hi0
    simp only[Nat.add_zero] at c0
    by_cases hik:0=k0
    ·have NX2:Hid _:=NXa hik
     subst hik
     clear NXa NXb
     go_wp2_with (first | (go_at_call 9;refine (CNz.out _).mono ?_;rintro e w2 ⟨rfl,rfl⟩))
     go_quiet ((go_at_call 9;exact Calls.quiet_of_same (CNd.out _)))
     all_goals (go_wp2_with (first | (go_at_call 10;refine (CPK.out _).mono ?_;rintro e w4 ⟨rfl,rfl⟩) | (go_at_call 9;refine (CNb.out _).mono ?_;rintro e w5 ⟨rfl,rfl⟩)))
     all_goals
      go_roundg (L.length-(0+1))
      case measure=>omega
      case rel=>exact⟨0+1,_,_,_,rfl,rfl,rfl,rfl,by go_num,by go_num,by omega,(show _∧_ from ⟨by first | exact below_drewN HB.out _ | exact HB.out.drew | exact HB.out,NX2.out⟩)⟩
    ·have NX2:Hid _:=NXb hik
     have hiki:¬ (0:Int)=(k0:Int):=by omega
     have hikj:¬ (k0:Int)=(0:Int):=by omega
     have hikp:0<(k0:Int):=by omega
     clear NXa NXb
     go_wp2_with (first | (go_at_call 9;refine (CNz.out _).mono ?_;rintro e w2 ⟨rfl,rfl⟩))
     go_quiet ((go_at_call 9;exact Calls.quiet_of_same (CNd.out _)))
     all_goals (go_wp2_with (first | (go_at_call 10;refine (CPK.out _).mono ?_;rintro e w4 ⟨rfl,rfl⟩) | (go_at_call 9;refine (CNz.out _).mono ?_;rintro e w5 ⟨rfl,rfl⟩)))
     all_goals
      go_roundg (L.length-(0+1))
      case measure=>omega
      case rel=>exact⟨0+1,_,_,_,rfl,rfl,rfl,rfl,by go_num,by go_num,by omega,(show _∧_ from ⟨by first | exact below_drewN HB.out _ | exact HB.out.drew | exact HB.out,NX2.out⟩)⟩
   ·have hi0i:0<(i:Int):=by omega
    have hsep:sepB i=⟨#[32]⟩:=by unfold sepB;rw[if_neg hi0]
    rw[hsep] at NXa NXb
    clear hsep
    by_cases hik:i=k0
    ·have NX2:Hid _:=NXa hik
     subst hik
     clear NXa NXb
     go_wp2_with (first | (go_at_call 9;refine (CNz.out _).mono ?_;rintro e w2 ⟨rfl,rfl⟩))
     go_quiet ((go_at_call 9;exact Calls.quiet_of_same (CNd.out _)))
     all_goals (go_wp2_with (first | (go_at_call 10;refine (CPK.out _).mono ?_;rintro e w4 ⟨rfl,rfl⟩) | (go_at_call 9;refine (CNb.out _).mono ?_;rintro e w5 ⟨rfl,rfl⟩)))
     all_goals
      go_roundg (L.length-(i+1))
      case measure=>omega
      case rel=>exact⟨i+1,_,_,_,rfl,rfl,rfl,rfl,by go_num,by go_num,by omega,(show _∧_ from ⟨by first | exact below_drewN HB.out _ | exact HB.out.drew | exact HB.out,NX2.out⟩)⟩
    ·have NX2:Hid _:=NXb hik
     have hiki:¬ (i:Int)=(k0:Int):=by omega
     clear NXa NXb
     go_wp2_with (first | (go_at_call 9;refine (CNz.out _).mono ?_;rintro e w2 ⟨rfl,rfl⟩))
     go_quiet ((go_at_call 9;exact Calls.quiet_of_same (CNd.out _)))
     all_goals (go_wp2_with (first | (go_at_call 10;refine (CPK.out _).mono ?_;rintro e w4 ⟨rfl,rfl⟩) | (go_at_call 9;refine (CNz.out _).mono ?_;rintro e w5 ⟨rfl,rfl⟩)))
     all_goals
      go_roundg (L.length-(i+1))
      case measure=>omega
      case rel=>exact⟨i+1,_,_,_,rfl,rfl,rfl,rfl,by go_num,by go_num,by omega,(show _∧_ from ⟨by first | exact below_drewN HB.out _ | exact HB.out.drew | exact HB.out,NX2.out⟩)⟩
  ·have him:i=L.length:=by omega
   have eT:T++⟨#[41]⟩=arr (wrV (.lst (numsV L))):=by rw[hI.t,him,List.take_length,pre_end]
   have eD:D++⟨#[41]⟩=arr (wrV (.lst (numsV (L.map dblA)))):=by rw[hI.d,him,List.take_length,pre_end]
   have eB:B++⟨#[41]⟩=arr (wrV (.lst (numsV (L.set k0 b)))):=by
    have hls:(L.set k0 b).take L.length=L.set k0 b:=List.take_of_length_le (by rw[List.length_set];exact Nat.le_refl _)
    rw[hI.b,him,hls,pre_end]
   have hTz:(T++(⟨#[41]⟩:ByteArray)).size≤4000:=by rw[eT,arr_size];have:=nums_len hin hLlen;omega
   have la:=itoa_length_le a ha.1 ha.2
   have lb:=itoa_length_le b hb.1 hb.2
   obtain⟨y1,hy1⟩:∃y,y=wrap64 (a+b):=⟨_,rfl⟩
   obtain⟨y2,hy2⟩:∃y,y=wrap64 (a-b):=⟨_,rfl⟩
   obtain⟨y3,hy3⟩:∃y,y=wrap64 (a*b):=⟨_,rfl⟩
   have i1:In64 y1:=by rw[hy1];exact wrap_in _
   have i2:In64 y2:=by rw[hy2];exact wrap_in _
   have i3:In64 y3:=by rw[hy3];exact wrap_in _
   have l1:=itoa_length_le y1 i1.1 i1.2
   have l2:=itoa_length_le y2 i2.1 i2.2
   have l3:=itoa_length_le y3 i3.1 i3.2
   have ii:In64 (i:Int):=by unfold In64;omega
   have li:=itoa_length_le (i:Int) ii.1 ii.2
   have j0:In64 (0:Int):=by unfold In64;omega
   have j1:In64 (1:Int):=by unfold In64;omega
   have m0:=itoa_length_le 0 j0.1 j0.2
   have m1:=itoa_length_le 1 j1.1 j1.2
   have LD:∀(s:ByteArray) (L:List UInt8) (F:List Fn),s.data.toList=L→Loads L F→Loads s.data.toList F:=fun s L F e h=>by rw[e];exact h
   have RK:Hid (∀X (s:ByteArray) (L:List UInt8) (F:List Fn) (bs:List ByteArray),s.data.toList=L→Loads L F→s.size≤2000→bs.length≤1000→(∀b∈bs,b.size≤1000000000)→Below w.heap.size w X→Calls prog 11 #[.string s,.string fB,.slice (some ⟨X.heap.size,0,none⟩) bs.length bs.length] (X.alloc (.cells (bs.map Value.string).toArray 9)) (bkR w (reckK F [102] (bs.map (·.data.toList))))):=fun X s L F bs e h hs hl hz hX=>(reckon_new (G.below hX) (LD s L F e h) hs fB bs hl hz).mono fun e w' ⟨hb,h⟩=>⟨hX.trans (hb.mono hX.size),h⟩
   have R1:Hid (∀X,Below w.heap.size w X→Calls prog 11 #[.string (suH++suT1),.string fB,.slice (some ⟨X.heap.size,0,none⟩) 3 3] (X.alloc (.cells #[.string (arr (itoa a)),.string (arr (itoa b)),.string (T++⟨#[41]⟩)] 9)) fun e w'=>e=.returned (.tuple #[.string (⟨#[40]⟩++arr (itoa y1)++⟨#[32]⟩++arr (itoa y2)++⟨#[32]⟩++arr (itoa y3)++⟨#[32]⟩++arr (itoa (if a<b then 1 else 0))++⟨#[32]⟩++arr (itoa (if a=b then 1 else 0))++⟨#[32]⟩++arr (itoa (i:Int))++⟨#[32]⟩++(D++⟨#[41]⟩)++⟨#[32,49,41]⟩),.nilIface])∧Below w.heap.size w w'):=fun X hX=>by
    refine (RK.out X (suH++suT1) su1L su1F [arr (itoa a),arr (itoa b),T++⟨#[41]⟩] suT1_list su1_loads (by decide +kernel) (by simp) (fun x hx=>?_) hX).mono fun e w' ⟨hb2,hr⟩=>?_
    ·simp only[List.mem_cons,List.not_mem_nil,or_false] at hx
     rcases hx with rfl | rfl | rfl
     ·rw[arr_size];omega
     ·rw[arr_size];omega
     ·omega
    ·simp only[List.map_cons,List.map_nil] at hr
     rw[eT,arr_data,su1_k ha hb hin hLlen] at hr
     rcases hr with ⟨t,h1,h2⟩ | ⟨h1,_⟩
     ·cases h1
      refine⟨?_,hb2⟩
      rw[h2]
      have:=su1_wr a b L
      rw[←hy1,←hy2,←hy3,←him,←eD] at this
      show Ending.returned (.tuple #[.string (arr (wrV (su1V a b L))),.nilIface])=_
      rw[this]
     ·cases h1
   have R0:Hid (i=0→∀X,Below w.heap.size w X→Calls prog 11 #[.string (suH++suT0),.string fB,.slice (some ⟨X.heap.size,0,none⟩) 1 1] (X.alloc (.cells #[.string (T++⟨#[41]⟩)] 9)) fun e w'=>∃f,e=.returned (.tuple #[.string ⟨#[]⟩,f])∧FltW f∧Below w.heap.size w w'):=fun h0 X hX=>by
    have hL0:L=[]:=List.eq_nil_of_length_eq_zero (by omega)
    refine (RK.out X (suH++suT0) su0L su0F [T++⟨#[41]⟩] suT0_list su0_loads (by decide +kernel) (by simp) (fun x hx=>?_) hX).mono fun e w' ⟨hb2,hr⟩=>?_
    ·rw[List.mem_singleton] at hx
     rw[hx]
     omega
    ·simp only[List.map_cons,List.map_nil] at hr
     rw[eT,arr_data,hL0,su0_k] at hr
     rcases hr with ⟨t,h1,_⟩ | ⟨_,f,h1,h2⟩
     ·cases h1
     ·exact⟨f,h2,h1,hb2⟩
   have hkl:0<i→k0<L.length:=fun h0=>by rw[hk0];exact pickA_lt (by omega)
   have R2:Hid (0<i→∀X,Below w.heap.size w X→Calls prog 11 #[.string (suH++suT2),.string fB,.slice (some ⟨X.heap.size,0,none⟩) 3 3] (X.alloc (.cells #[.string (arr (itoa (k0:Int))),.string (arr (itoa b)),.string (T++⟨#[41]⟩)] 9)) fun e w'=>e=.returned (.tuple #[.string (⟨#[40]⟩++arr (itoa (L.getD k0 0))++⟨#[32]⟩++(B++⟨#[41]⟩)++⟨#[41]⟩),.nilIface])∧Below w.heap.size w w'):=fun h0 X hX=>by
    have hk:=hkl h0
    refine (RK.out X (suH++suT2) su2L su2F [arr (itoa (k0:Int)),arr (itoa b),T++⟨#[41]⟩] suT2_list su2_loads (by decide +kernel) (by simp) (fun x hx=>?_) hX).mono fun e w' ⟨hb2,hr⟩=>?_
    ·simp only[List.mem_cons,List.not_mem_nil,or_false] at hx
     rcases hx with rfl | rfl | rfl
     ·rw[arr_size];have:=itoa_length_le (k0:Int) (by omega) (by omega);omega
     ·rw[arr_size];omega
     ·omega
    ·simp only[List.map_cons,List.map_nil] at hr
     rw[eT,arr_data,su2_k hb hin hLlen hk] at hr
     rcases hr with ⟨t,h1,h2⟩ | ⟨h1,_⟩
     ·cases h1
      refine⟨?_,hb2⟩
      rw[h2]
      have:=su2_wr k0 b L
      rw[←eB] at this
      show Ending.returned (.tuple #[.string (arr (wrV (su2V k0 b L))),.nilIface])=_
      rw[this]
     ·cases h1
   obtain⟨p9,hp9⟩:∃p9,p9=pickA b 9:=⟨_,rfl⟩
   have hp9l:p9<9:=by rw[hp9];exact pickA_lt (by omega)
   have C9:Hid (∀X,Calls prog 10 #[.int .i64 b,.int .i64 9] X fun e w'=>e=.returned (.int .i64 ((p9:Nat):Int))∧w'=X):=fun X=>by rw[hp9];exact pick_any b 9 X hb (by omega) (by omega)
   have CPi:Hid (0<i→∀X,Calls prog 10 #[.int .i64 a,.int .i64 (i:Int)] X fun e w'=>e=.returned (.int .i64 ((k0:Nat):Int))∧w'=X):=fun h0 X=>by
    rw[hk0,←him]
    exact pick_any a i X ha h0 (by omega)
   have R3:Hid (∀X,Below w.heap.size w X→Calls prog 11 #[.string (suH++suT3),.string fB,.slice (some ⟨X.heap.size,0,none⟩) 2 2] (X.alloc (.cells #[.string (arr (itoa ((i:Int)+(p9:Int)))),.string (T++⟨#[41]⟩)] 9)) fun e w'=>∃f,e=.returned (.tuple #[.string ⟨#[]⟩,f])∧FltW f∧Below w.heap.size w w'):=fun X hX=>by
    have e0:((i:Int)+(p9:Int))=((i+p9:Nat):Int):=by omega
    rw[e0]
    refine (RK.out X (suH++suT3) su3L su3F [arr (itoa ((i+p9:Nat):Int)),T++⟨#[41]⟩] suT3_list su3_loads (by decide +kernel) (by simp) (fun x hx=>?_) hX).mono fun e w' ⟨hb2,hr⟩=>?_
    ·simp only[List.mem_cons,List.not_mem_nil,or_false] at hx
     rcases hx with rfl | rfl
     ·rw[arr_size];have:=itoa_length_le ((i+p9:Nat):Int) (by omega) (by omega);omega
     ·omega
    ·simp only[List.map_cons,List.map_nil] at hr
     rw[eT,arr_data,su3_k hin hLlen (by omega) (by omega)] at hr
     rcases hr with ⟨t,h1,_⟩ | ⟨_,f,h1,h2⟩
     ·cases h1
     ·exact⟨f,h2,h1,hb2⟩
   obtain⟨af,haf⟩:=G.fl.fl
   have IS:Hid (∀X f,FltW f→Below w.heap.size w X→Calls prog 12 #[f,errVal af] X fun e w'=>e=.returned (.bool true)∧Below w.heap.size w w'):=fun X f hf hX=>(is_flt hf af X (Below.cellv hX haf)).mono fun e w' ⟨h1,h2⟩=>⟨h1,hX.trans (h2.mono hX.size)⟩
   have GF:Hid (∀X,Below w.heap.size w X→X.cell? ⟨0,0,none⟩=some (errVal af)):=fun X hX=>Below.cellv hX haf
   have LZ:Hid (0<i→∃g o,ad=some ⟨g,o,none⟩∧In64 (L.getD k0 0)∧∀X,Below w.heap.size w X→X.cell? ⟨g,o+k0,none⟩=some (.int .i64 (L.getD k0 0))):=fun h0=>by
    have hk:=hkl h0
    obtain⟨g,o,e,hc⟩:=hcell k0 (by omega)
    have eg:L.getD k0 0=l[k0]:=by
     rw[List.getD_eq_getElem?_getD,List.getElem?_eq_getElem hk]
     simp[hL]
    rw[eg]
    exact⟨g,o,e,hin0 _ (List.getElem_mem _),fun X hX=>Below.cellv hX hc⟩
   unfold suH suT1 fB at R1
   unfold suH suT0 fB at R0
   unfold suH suT2 fB at R2
   unfold suH suT3 fB at R3
   have r1:wrap64 (a+b)=y1:=hy1.symm
   have r1':IntKind.i64.wrap (a+b)=y1:=(Go.IntWalk.i64_left _).trans r1
   have r2:wrap64 (a-b)=y2:=hy2.symm
   have r2':IntKind.i64.wrap (a-b)=y2:=(Go.IntWalk.i64_left _).trans r2
   have r3:wrap64 (a*b)=y3:=hy3.symm
   have r3':IntKind.i64.wrap (a*b)=y3:=(Go.IntWalk.i64_left _).trans r3
   have hi100:(i:Int)≤100:=by omega
   have hx:(¬ (i:Int)<(l.length:Int))∨((i:Int)<(l.length:Int)∧¬ (i:Int)<100):=by omega
   have HBW:Hid (Below w.heap.size w wr):=hbw
   have hkn:0<i→(k0:Int)<100∧(k0:Int)<(l.length:Int):=fun h0=>by have:=hkl h0;omega
   have HK:Hid _:=hkn
   clear hA hI hcell hin0 hin h CP S0 hb1 hL hLl G hk0 RK LD eT eD eB hTz hy1 hy2 hy3 hp9 haf hkl hkn him hbw hlt
   have h3:a<b∨a=b∨b<a:=by omega
   clear hLlen
   by_cases hi0:i=0
   ·have R0h:Hid _:=R0.out hi0
    have hx:¬ (i:Int)<(l.length:Int):=by omega
    have hii0:(i:Int)=0:=by omega
    clear R0 R2 R3 C9 CPi LZ HK hi0
    rcases h3 with h3 | h3 | h3
    ·have q1:(if a<b then (1:Int) else 0)=1:=if_pos h3
     have q2:(if a=b then (1:Int) else 0)=0:=if_neg (by omega)
     have q3:¬ a=b:=by omega
     rw[q1,q2] at R1
     clear q1 q2
     go_wp2_with (first | (go_at_call 9;refine (CN.out _ _ ?_).mono ?_;(assumption);rintro e w2 ⟨rfl,rfl⟩))
     refine (R1.out _ HBW.out).mono ?_
     rintro e w3 ⟨rfl,hb3⟩
     clear R1 HBW
     go_wp2_with (first | (go_at_call 9;refine (CN.out _ _ ?_).mono ?_;(assumption);rintro e w2 ⟨rfl,rfl⟩))
     refine (R0h.out _ hb3).mono ?_
     rintro e w4 ⟨f4,rfl,hf4,hb4⟩
     have g4:=GF.out _ hb4
     go_wp2_with fail
     refine (IS.out _ f4 hf4 hb4).mono ?_
     rintro e w5 ⟨rfl,hb5⟩
     clear g4 hb4
     go_wp2_with fail
     go_ret
     exact⟨rfl,hb5⟩
    ·have q1:(if a<b then (1:Int) else 0)=0:=if_neg (by omega)
     have q2:(if a=b then (1:Int) else 0)=1:=if_pos h3
     have q3:¬ a<b:=by omega
     rw[q1,q2] at R1
     clear q1 q2
     have q5:(a==b)=true:=by simp[h3]
     clear h3
     go_wp2_with (first | (go_at_call 9;refine (CN.out _ _ ?_).mono ?_;(assumption);rintro e w2 ⟨rfl,rfl⟩))
     refine (R1.out _ HBW.out).mono ?_
     rintro e w3 ⟨rfl,hb3⟩
     clear R1 HBW
     go_wp2_with (first | (go_at_call 9;refine (CN.out _ _ ?_).mono ?_;(assumption);rintro e w2 ⟨rfl,rfl⟩))
     refine (R0h.out _ hb3).mono ?_
     rintro e w4 ⟨f4,rfl,hf4,hb4⟩
     have g4:=GF.out _ hb4
     go_wp2_with fail
     refine (IS.out _ f4 hf4 hb4).mono ?_
     rintro e w5 ⟨rfl,hb5⟩
     clear g4 hb4
     go_wp2_with fail
     go_ret
     exact⟨rfl,hb5⟩
    ·have q1:(if a<b then (1:Int) else 0)=0:=if_neg (by omega)
     have q2:(if a=b then (1:Int) else 0)=0:=if_neg (by omega)
     have q3:¬ a=b∧¬ a<b:=by omega
     obtain⟨q3,q4⟩:=q3
     rw[q1,q2] at R1
     clear q1 q2
     go_wp2_with (first | (go_at_call 9;refine (CN.out _ _ ?_).mono ?_;(assumption);rintro e w2 ⟨rfl,rfl⟩))
     refine (R1.out _ HBW.out).mono ?_
     rintro e w3 ⟨rfl,hb3⟩
     clear R1 HBW
     go_wp2_with (first | (go_at_call 9;refine (CN.out _ _ ?_).mono ?_;(assumption);rintro e w2 ⟨rfl,rfl⟩))
     refine (R0h.out _ hb3).mono ?_
     rintro e w4 ⟨f4,rfl,hf4,hb4⟩
     have g4:=GF.out _ hb4
     go_wp2_with fail
     refine (IS.out _ f4 hf4 hb4).mono ?_
     rintro e w5 ⟨rfl,hb5⟩
     clear g4 hb4
     go_wp2_with fail
     go_ret
     exact⟨rfl,hb5⟩
   ·have hip:0<i:=by omega
    have R2h:Hid _:=R2.out hip
    have CPh:Hid _:=CPi.out hip
    obtain⟨g,o,rfl,iz,hzc⟩:=LZ.out hip
    have LZc:Hid _:=hzc
    obtain⟨hk1,hk2⟩:=HK.out hip
    have ik:In64 (k0:Int):=by unfold In64;omega
    have ip:In64 ((i:Int)+(p9:Int)):=by unfold In64;omega
    have lz:=itoa_length_le (L.getD k0 0) iz.1 iz.2
    have hpi:(p9:Int)<9:=by omega
    have hii0:¬ (i:Int)=0:=by omega
    clear R0 R2 CPi LZ HK hzc hi0
    generalize L.getD k0 0=zk at *
    rcases hx with hx | ⟨hx,hx2⟩
    ·rcases h3 with h3 | h3 | h3
     ·have q1:(if a<b then (1:Int) else 0)=1:=if_pos h3
      have q2:(if a=b then (1:Int) else 0)=0:=if_neg (by omega)
      have q3:¬ a=b:=by omega
      rw[q1,q2] at R1
      clear q1 q2
      go_wp2_with (first | (go_at_call 9;refine (CN.out _ _ ?_).mono ?_;(assumption);rintro e w2 ⟨rfl,rfl⟩))
      refine (R1.out _ HBW.out).mono ?_
      rintro e w3 ⟨rfl,hb3⟩
      clear R1 HBW
      go_wp2_with (first | (go_at_call 9;refine (CN.out _ _ ?_).mono ?_;(assumption);rintro e w2 ⟨rfl,rfl⟩) | (go_at_call 10;refine (CPh.out _).mono ?_;rintro e w2 ⟨rfl,rfl⟩))
      refine (R2h.out _ hb3).mono ?_
      rintro e w4 ⟨rfl,hb4⟩
      clear R2h
      go_wp2_with (first | (go_at_call 9;refine (CN.out _ _ ?_).mono ?_;(assumption);rintro e w2 ⟨rfl,rfl⟩) | (go_at_call 10;refine (C9.out _).mono ?_;rintro e w2 ⟨rfl,rfl⟩))
      refine (R3.out _ hb4).mono ?_
      rintro e w5 ⟨f5,rfl,hf5,hb5⟩
      have g5:=GF.out _ hb5
      have c5:=LZc.out _ hb5
      clear R3
      go_wp2_with (first | (go_at_call 9;refine (CN.out _ _ ?_).mono ?_;(assumption);rintro e w2 ⟨rfl,rfl⟩))
      refine (IS.out _ f5 hf5 hb5).mono ?_
      rintro e w6 ⟨rfl,hb6⟩
      clear g5 hb5 c5
      go_wp2_with fail
      go_ret
      exact⟨rfl,hb6⟩
     ·have q1:(if a<b then (1:Int) else 0)=0:=if_neg (by omega)
      have q2:(if a=b then (1:Int) else 0)=1:=if_pos h3
      have q3:¬ a<b:=by omega
      rw[q1,q2] at R1
      clear q1 q2
      have q5:(a==b)=true:=by simp[h3]
      clear h3
      go_wp2_with (first | (go_at_call 9;refine (CN.out _ _ ?_).mono ?_;(assumption);rintro e w2 ⟨rfl,rfl⟩))
      refine (R1.out _ HBW.out).mono ?_
      rintro e w3 ⟨rfl,hb3⟩
      clear R1 HBW
      go_wp2_with (first | (go_at_call 9;refine (CN.out _ _ ?_).mono ?_;(assumption);rintro e w2 ⟨rfl,rfl⟩) | (go_at_call 10;refine (CPh.out _).mono ?_;rintro e w2 ⟨rfl,rfl⟩))
      refine (R2h.out _ hb3).mono ?_
      rintro e w4 ⟨rfl,hb4⟩
      clear R2h
      go_wp2_with (first | (go_at_call 9;refine (CN.out _ _ ?_).mono ?_;(assumption);rintro e w2 ⟨rfl,rfl⟩) | (go_at_call 10;refine (C9.out _).mono ?_;rintro e w2 ⟨rfl,rfl⟩))
      refine (R3.out _ hb4).mono ?_
      rintro e w5 ⟨f5,rfl,hf5,hb5⟩
      have g5:=GF.out _ hb5
      have c5:=LZc.out _ hb5
      clear R3
      go_wp2_with (first | (go_at_call 9;refine (CN.out _ _ ?_).mono ?_;(assumption);rintro e w2 ⟨rfl,rfl⟩))
      refine (IS.out _ f5 hf5 hb5).mono ?_
      rintro e w6 ⟨rfl,hb6⟩
      clear g5 hb5 c5
      go_wp2_with fail
      go_ret
      exact⟨rfl,hb6⟩
     ·have q1:(if a<b then (1:Int) else 0)=0:=if_neg (by omega)
      have q2:(if a=b then (1:Int) else 0)=0:=if_neg (by omega)
      have q3:¬ a=b∧¬ a<b:=by omega
      obtain⟨q3,q4⟩:=q3
      rw[q1,q2] at R1
      clear q1 q2
      go_wp2_with (first | (go_at_call 9;refine (CN.out _ _ ?_).mono ?_;(assumption);rintro e w2 ⟨rfl,rfl⟩))
      refine (R1.out _ HBW.out).mono ?_
      rintro e w3 ⟨rfl,hb3⟩
      clear R1 HBW
      go_wp2_with (first | (go_at_call 9;refine (CN.out _ _ ?_).mono ?_;(assumption);rintro e w2 ⟨rfl,rfl⟩) | (go_at_call 10;refine (CPh.out _).mono ?_;rintro e w2 ⟨rfl,rfl⟩))
      refine (R2h.out _ hb3).mono ?_
      rintro e w4 ⟨rfl,hb4⟩
      clear R2h
      go_wp2_with (first | (go_at_call 9;refine (CN.out _ _ ?_).mono ?_;(assumption);rintro e w2 ⟨rfl,rfl⟩) | (go_at_call 10;refine (C9.out _).mono ?_;rintro e w2 ⟨rfl,rfl⟩))
      refine (R3.out _ hb4).mono ?_
      rintro e w5 ⟨f5,rfl,hf5,hb5⟩
      have g5:=GF.out _ hb5
      have c5:=LZc.out _ hb5
      clear R3
      go_wp2_with (first | (go_at_call 9;refine (CN.out _ _ ?_).mono ?_;(assumption);rintro e w2 ⟨rfl,rfl⟩))
      refine (IS.out _ f5 hf5 hb5).mono ?_
      rintro e w6 ⟨rfl,hb6⟩
      clear g5 hb5 c5
      go_wp2_with fail
      go_ret
      exact⟨rfl,hb6⟩
    ·rcases h3 with h3 | h3 | h3
     ·have q1:(if a<b then (1:Int) else 0)=1:=if_pos h3
      have q2:(if a=b then (1:Int) else 0)=0:=if_neg (by omega)
      have q3:¬ a=b:=by omega
      rw[q1,q2] at R1
      clear q1 q2
      go_wp2_with (first | (go_at_call 9;refine (CN.out _ _ ?_).mono ?_;(assumption);rintro e w2 ⟨rfl,rfl⟩))
      refine (R1.out _ HBW.out).mono ?_
      rintro e w3 ⟨rfl,hb3⟩
      clear R1 HBW
      go_wp2_with (first | (go_at_call 9;refine (CN.out _ _ ?_).mono ?_;(assumption);rintro e w2 ⟨rfl,rfl⟩) | (go_at_call 10;refine (CPh.out _).mono ?_;rintro e w2 ⟨rfl,rfl⟩))
      refine (R2h.out _ hb3).mono ?_
      rintro e w4 ⟨rfl,hb4⟩
      clear R2h
      go_wp2_with (first | (go_at_call 9;refine (CN.out _ _ ?_).mono ?_;(assumption);rintro e w2 ⟨rfl,rfl⟩) | (go_at_call 10;refine (C9.out _).mono ?_;rintro e w2 ⟨rfl,rfl⟩))
      refine (R3.out _ hb4).mono ?_
      rintro e w5 ⟨f5,rfl,hf5,hb5⟩
      have g5:=GF.out _ hb5
      have c5:=LZc.out _ hb5
      clear R3
      go_wp2_with (first | (go_at_call 9;refine (CN.out _ _ ?_).mono ?_;(assumption);rintro e w2 ⟨rfl,rfl⟩))
      refine (IS.out _ f5 hf5 hb5).mono ?_
      rintro e w6 ⟨rfl,hb6⟩
      clear g5 hb5 c5
      go_wp2_with fail
      go_ret
      exact⟨rfl,hb6⟩
     ·have q1:(if a<b then (1:Int) else 0)=0:=if_neg (by omega)
      have q2:(if a=b then (1:Int) else 0)=1:=if_pos h3
      have q3:¬ a<b:=by omega
      rw[q1,q2] at R1
      clear q1 q2
      have q5:(a==b)=true:=by simp[h3]
      clear h3
      go_wp2_with (first | (go_at_call 9;refine (CN.out _ _ ?_).mono ?_;(assumption);rintro e w2 ⟨rfl,rfl⟩))
      refine (R1.out _ HBW.out).mono ?_
      rintro e w3 ⟨rfl,hb3⟩
      clear R1 HBW
      go_wp2_with (first | (go_at_call 9;refine (CN.out _ _ ?_).mono ?_;(assumption);rintro e w2 ⟨rfl,rfl⟩) | (go_at_call 10;refine (CPh.out _).mono ?_;rintro e w2 ⟨rfl,rfl⟩))
      refine (R2h.out _ hb3).mono ?_
      rintro e w4 ⟨rfl,hb4⟩
      clear R2h
      go_wp2_with (first | (go_at_call 9;refine (CN.out _ _ ?_).mono ?_;(assumption);rintro e w2 ⟨rfl,rfl⟩) | (go_at_call 10;refine (C9.out _).mono ?_;rintro e w2 ⟨rfl,rfl⟩))
      refine (R3.out _ hb4).mono ?_
      rintro e w5 ⟨f5,rfl,hf5,hb5⟩
      have g5:=GF.out _ hb5
      have c5:=LZc.out _ hb5
      clear R3
      go_wp2_with (first | (go_at_call 9;refine (CN.out _ _ ?_).mono ?_;(assumption);rintro e w2 ⟨rfl,rfl⟩))
      refine (IS.out _ f5 hf5 hb5).mono ?_
      rintro e w6 ⟨rfl,hb6⟩
      clear g5 hb5 c5
      go_wp2_with fail
      go_ret
      exact⟨rfl,hb6⟩
     ·have q1:(if a<b then (1:Int) else 0)=0:=if_neg (by omega)
      have q2:(if a=b then (1:Int) else 0)=0:=if_neg (by omega)
      have q3:¬ a=b∧¬ a<b:=by omega
      obtain⟨q3,q4⟩:=q3
      rw[q1,q2] at R1
      clear q1 q2
      go_wp2_with (first | (go_at_call 9;refine (CN.out _ _ ?_).mono ?_;(assumption);rintro e w2 ⟨rfl,rfl⟩))
      refine (R1.out _ HBW.out).mono ?_
      rintro e w3 ⟨rfl,hb3⟩
      clear R1 HBW
      go_wp2_with (first | (go_at_call 9;refine (CN.out _ _ ?_).mono ?_;(assumption);rintro e w2 ⟨rfl,rfl⟩) | (go_at_call 10;refine (CPh.out _).mono ?_;rintro e w2 ⟨rfl,rfl⟩))
      refine (R2h.out _ hb3).mono ?_
      rintro e w4 ⟨rfl,hb4⟩
      clear R2h
      go_wp2_with (first | (go_at_call 9;refine (CN.out _ _ ?_).mono ?_;(assumption);rintro e w2 ⟨rfl,rfl⟩) | (go_at_call 10;refine (C9.out _).mono ?_;rintro e w2 ⟨rfl,rfl⟩))
      refine (R3.out _ hb4).mono ?_
      rintro e w5 ⟨f5,rfl,hf5,hb5⟩
      have g5:=GF.out _ hb5
      have c5:=LZc.out _ hb5
      clear R3
      go_wp2_with (first | (go_at_call 9;refine (CN.out _ _ ?_).mono ?_;(assumption);rintro e w2 ⟨rfl,rfl⟩))
      refine (IS.out _ f5 hf5 hb5).mono ?_
      rintro e w6 ⟨rfl,hb6⟩
      clear g5 hb5 c5
      go_wp2_with fail
      go_ret
      exact⟨rfl,hb6⟩
end Go.Proofs.YtifhgjpglicjbaaGreatDoor
