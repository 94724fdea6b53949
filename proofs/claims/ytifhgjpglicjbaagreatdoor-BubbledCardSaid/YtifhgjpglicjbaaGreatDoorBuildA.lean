/-
  build at every form.
-/
import Derived.Test.YtifhgjpglicjbaaGreatDoorBuild
import Derived.Lib.ConvBytes
import Derived.Lib.AtoiErrMem
set_option maxHeartbeats 1000000
set_option maxRecDepth 100000
namespace Go.Proofs.YtifhgjpglicjbaaGreatDoor
open Go.Proofs.Tryz
open Go.RowKit
def Ifs (vs:List Value):Prop:=∀v∈vs,∃t x,v=Value.iface t x
theorem RepEs.ifs {w:World}{D:Nat→Prop}:∀{es:List Ex} {vs:List Value},RepEs w D es vs→Ifs vs
 | [],vs,h=>by rw[RepEs] at h;subst h;intro v hv;cases hv
 | e::es,vs,h=>by
  rw[RepEs] at h
  obtain⟨v,r,rfl,h2,h3⟩:=h
  intro x hx
  rcases List.mem_cons.1 hx with rfl | hx
  ·exact h2.iface
  ·exact RepEs.ifs h3 x hx
theorem len_one {vs:List Value}(h:vs.length=1):∃a,vs=[a]:=by
 match vs,h with
 | [a],_=>exact⟨a,rfl⟩
theorem len_two {vs:List Value}(h:vs.length=2):∃a b,vs=[a,b]:=by
 match vs,h with
 | [a,b],_=>exact⟨a,b,rfl⟩
theorem len_three {vs:List Value}(h:vs.length=3):∃a b c,vs=[a,b,c]:=by
 match vs,h with
 | [a,b,c],_=>exact⟨a,b,c,rfl⟩
theorem shape_m {l:List UInt8}{nm b:Bool}{m n:Int}(h1:shapeL l=some (nm,m))(h2:shapeL l=some (b,n)):m=n:=by
 rw[h1] at h2
 simp only[Option.some.injEq,Prod.mk.injEq] at h2
 exact h2.2
theorem row_slice {w:World}{D:Nat→Prop}{e:TypeId}{size:Nat}{v:Value}{n:Nat}{xs:List Value}(h:RowAt w D e size v n xs):∃ad len cap,v=.slice ad len cap:=by
 rcases h.2 with ⟨h,_⟩ | ⟨g,cap,_,h,_⟩
 ·exact⟨_,_,_,h⟩
 ·exact⟨_,_,_,h⟩
theorem build_any (bd nb:ByteArray)(sp at_:Nat)(pv:Value)(vs:List Value)(w:World)(D:Nat→Prop)(hnb:nb.size≤2000){nm:Bool}{m:Int}(hsh:shapeL bd.data.toList=some (nm,m))(hR:RowAt w D 64 1 pv vs.length vs)(hI:Ifs vs)(hlen:0≤m→(vs.length:Int)=m):
  Calls prog 198 #[.string bd,.int .i64 ((sp:Nat):Int),nameV nb at_,pv] w (buildPost w D sp bd.data.toList nb.data.toList at_ vs):=by
 rcases shape_cases bd.data.toList with h | h | h | h | h | h | h | h | h | h | h | h | h | h | ⟨h,_⟩
 ·have h':bd.toList=[108,105,115,116]:=by rw[ByteArray.toList_eq];exact h
  rw[h]
  obtain⟨ad,len,cap,rfl⟩:=row_slice hR
  exact build_list bd nb sp at_ ad len cap vs w D h' hR
 ·have h':bd.toList=[99,97,108,108]:=by rw[ByteArray.toList_eq];exact h
  rw[h]
  obtain⟨ad,len,cap,rfl⟩:=row_slice hR
  exact build_call bd nb sp at_ ad len cap vs w D hnb h' hR
 ·have h':bd.toList=[109,97,112]:=by rw[ByteArray.toList_eq];exact h
  rw[h]
  rw[h] at hsh
  have hm:m=1:=shape_m hsh (show shapeL [109,97,112]=some (true,1) by decide)
  obtain⟨a,rfl⟩:=len_one (vs:=vs) (by have:=hlen (by omega);omega)
  obtain⟨t0,x0,rfl⟩:=hI a (by simp)
  obtain⟨g,cap,rfl,hg,hc1,hc2,hcell⟩:=hR.cell (by simp)
  exact build_map bd nb sp at_ g cap t0 x0 w D hnb h' hc1 hc2 (by rw[hcell 0 (by simp)];rfl)
 ·have h':bd.toList=[108,101,116]:=by rw[ByteArray.toList_eq];exact h
  rw[h]
  rw[h] at hsh
  have hm:m=2:=shape_m hsh (show shapeL [108,101,116]=some (true,2) by decide)
  obtain⟨a,b,rfl⟩:=len_two (vs:=vs) (by have:=hlen (by omega);omega)
  obtain⟨t0,x0,rfl⟩:=hI a (by simp)
  obtain⟨t1,x1,rfl⟩:=hI b (by simp)
  obtain⟨g,cap,rfl,hg,hc1,hc2,hcell⟩:=hR.cell (by simp)
  exact build_let bd nb sp at_ g cap t0 t1 x0 x1 w D hnb h' hc1 hc2 (by rw[hcell 0 (by simp)];rfl) (by rw[hcell 1 (by simp)];rfl)
 ·have h':bd.toList=[105,102]:=by rw[ByteArray.toList_eq];exact h
  rw[h]
  rw[h] at hsh
  have hm:m=3:=shape_m hsh (show shapeL [105,102]=some (false,3) by decide)
  obtain⟨a,b,c,rfl⟩:=len_three (vs:=vs) (by have:=hlen (by omega);omega)
  obtain⟨t0,x0,rfl⟩:=hI a (by simp)
  obtain⟨t1,x1,rfl⟩:=hI b (by simp)
  obtain⟨t2,x2,rfl⟩:=hI c (by simp)
  obtain⟨g,cap,rfl,hg,hc1,hc2,hcell⟩:=hR.cell (by simp)
  exact build_if bd nb sp at_ g cap t0 t1 t2 x0 x1 x2 w D h' hc1 hc2 (by rw[hcell 0 (by simp)];rfl) (by rw[hcell 1 (by simp)];rfl) (by rw[hcell 2 (by simp)];rfl)
 ·have h':bd.toList=[115,101,116]:=by rw[ByteArray.toList_eq];exact h
  rw[h]
  rw[h] at hsh
  have hm:m=3:=shape_m hsh (show shapeL [115,101,116]=some (false,3) by decide)
  obtain⟨a,b,c,rfl⟩:=len_three (vs:=vs) (by have:=hlen (by omega);omega)
  obtain⟨t0,x0,rfl⟩:=hI a (by simp)
  obtain⟨t1,x1,rfl⟩:=hI b (by simp)
  obtain⟨t2,x2,rfl⟩:=hI c (by simp)
  obtain⟨g,cap,rfl,hg,hc1,hc2,hcell⟩:=hR.cell (by simp)
  exact build_set bd nb sp at_ g cap t0 t1 t2 x0 x1 x2 w D h' hc1 hc2 (by rw[hcell 0 (by simp)];rfl) (by rw[hcell 1 (by simp)];rfl) (by rw[hcell 2 (by simp)];rfl)
 ·have h':bd.toList=[108,101,110]:=by rw[ByteArray.toList_eq];exact h
  rw[h]
  rw[h] at hsh
  have hm:m=1:=shape_m hsh (show shapeL [108,101,110]=some (false,1) by decide)
  obtain⟨a,rfl⟩:=len_one (vs:=vs) (by have:=hlen (by omega);omega)
  obtain⟨t0,x0,rfl⟩:=hI a (by simp)
  obtain⟨g,cap,rfl,hg,hc1,hc2,hcell⟩:=hR.cell (by simp)
  exact build_len bd nb sp at_ g cap t0 x0 w D h' hc1 hc2 (by rw[hcell 0 (by simp)];rfl)
 ·have h':bd.toList=[97,100,100]:=by rw[ByteArray.toList_eq];exact h
  rw[h]
  rw[h] at hsh
  have hm:m=2:=shape_m hsh (show shapeL [97,100,100]=some (false,2) by decide)
  obtain⟨a,b,rfl⟩:=len_two (vs:=vs) (by have:=hlen (by omega);omega)
  obtain⟨t0,x0,rfl⟩:=hI a (by simp)
  obtain⟨t1,x1,rfl⟩:=hI b (by simp)
  obtain⟨g,cap,rfl,hg,hc1,hc2,hcell⟩:=hR.cell (by simp)
  exact build_add bd nb sp at_ g cap t0 t1 x0 x1 w D h' hc1 hc2 (by rw[hcell 0 (by simp)];rfl) (by rw[hcell 1 (by simp)];rfl)
 ·have h':bd.toList=[115,117,98]:=by rw[ByteArray.toList_eq];exact h
  rw[h]
  rw[h] at hsh
  have hm:m=2:=shape_m hsh (show shapeL [115,117,98]=some (false,2) by decide)
  obtain⟨a,b,rfl⟩:=len_two (vs:=vs) (by have:=hlen (by omega);omega)
  obtain⟨t0,x0,rfl⟩:=hI a (by simp)
  obtain⟨t1,x1,rfl⟩:=hI b (by simp)
  obtain⟨g,cap,rfl,hg,hc1,hc2,hcell⟩:=hR.cell (by simp)
  exact build_sub bd nb sp at_ g cap t0 t1 x0 x1 w D h' hc1 hc2 (by rw[hcell 0 (by simp)];rfl) (by rw[hcell 1 (by simp)];rfl)
 ·have h':bd.toList=[109,117,108]:=by rw[ByteArray.toList_eq];exact h
  rw[h]
  rw[h] at hsh
  have hm:m=2:=shape_m hsh (show shapeL [109,117,108]=some (false,2) by decide)
  obtain⟨a,b,rfl⟩:=len_two (vs:=vs) (by have:=hlen (by omega);omega)
  obtain⟨t0,x0,rfl⟩:=hI a (by simp)
  obtain⟨t1,x1,rfl⟩:=hI b (by simp)
  obtain⟨g,cap,rfl,hg,hc1,hc2,hcell⟩:=hR.cell (by simp)
  exact build_mul bd nb sp at_ g cap t0 t1 x0 x1 w D h' hc1 hc2 (by rw[hcell 0 (by simp)];rfl) (by rw[hcell 1 (by simp)];rfl)
 ·have h':bd.toList=[101,113]:=by rw[ByteArray.toList_eq];exact h
  rw[h]
  rw[h] at hsh
  have hm:m=2:=shape_m hsh (show shapeL [101,113]=some (false,2) by decide)
  obtain⟨a,b,rfl⟩:=len_two (vs:=vs) (by have:=hlen (by omega);omega)
  obtain⟨t0,x0,rfl⟩:=hI a (by simp)
  obtain⟨t1,x1,rfl⟩:=hI b (by simp)
  obtain⟨g,cap,rfl,hg,hc1,hc2,hcell⟩:=hR.cell (by simp)
  exact build_eq bd nb sp at_ g cap t0 t1 x0 x1 w D h' hc1 hc2 (by rw[hcell 0 (by simp)];rfl) (by rw[hcell 1 (by simp)];rfl)
 ·have h':bd.toList=[108,101,115,115]:=by rw[ByteArray.toList_eq];exact h
  rw[h]
  rw[h] at hsh
  have hm:m=2:=shape_m hsh (show shapeL [108,101,115,115]=some (false,2) by decide)
  obtain⟨a,b,rfl⟩:=len_two (vs:=vs) (by have:=hlen (by omega);omega)
  obtain⟨t0,x0,rfl⟩:=hI a (by simp)
  obtain⟨t1,x1,rfl⟩:=hI b (by simp)
  obtain⟨g,cap,rfl,hg,hc1,hc2,hcell⟩:=hR.cell (by simp)
  exact build_less bd nb sp at_ g cap t0 t1 x0 x1 w D h' hc1 hc2 (by rw[hcell 0 (by simp)];rfl) (by rw[hcell 1 (by simp)];rfl)
 ·have h':bd.toList=[97,116]:=by rw[ByteArray.toList_eq];exact h
  rw[h]
  rw[h] at hsh
  have hm:m=2:=shape_m hsh (show shapeL [97,116]=some (false,2) by decide)
  obtain⟨a,b,rfl⟩:=len_two (vs:=vs) (by have:=hlen (by omega);omega)
  obtain⟨t0,x0,rfl⟩:=hI a (by simp)
  obtain⟨t1,x1,rfl⟩:=hI b (by simp)
  obtain⟨g,cap,rfl,hg,hc1,hc2,hcell⟩:=hR.cell (by simp)
  exact build_at bd nb sp at_ g cap t0 t1 x0 x1 w D h' hc1 hc2 (by rw[hcell 0 (by simp)];rfl) (by rw[hcell 1 (by simp)];rfl)
 ·have h':bd.toList=[106,111,105,110]:=by rw[ByteArray.toList_eq];exact h
  rw[h]
  rw[h] at hsh
  have hm:m=2:=shape_m hsh (show shapeL [106,111,105,110]=some (false,2) by decide)
  obtain⟨a,b,rfl⟩:=len_two (vs:=vs) (by have:=hlen (by omega);omega)
  obtain⟨t0,x0,rfl⟩:=hI a (by simp)
  obtain⟨t1,x1,rfl⟩:=hI b (by simp)
  obtain⟨g,cap,rfl,hg,hc1,hc2,hcell⟩:=hR.cell (by simp)
  exact build_join bd nb sp at_ g cap t0 t1 x0 x1 w D h' hc1 hc2 (by rw[hcell 0 (by simp)];rfl) (by rw[hcell 1 (by simp)];rfl)
 ·rw[h] at hsh;cases hsh
def NumOk (l:List UInt8):Prop:=(∀c∈unsignL l,digit c=true)∧1≤(unsignL l).length∧(unsignL l).length≤9
theorem digits_snoc (l:List UInt8)(c:UInt8):digitsVal (l++[c])=10*digitsVal l+((c.toNat:Int)-48):=by
 simp[digitsVal]
theorem fold_bd:∀(l:List UInt8) (n:Int) (k:Nat),(∀c∈l,digit c=true)→0≤n→n<10 ^ k→0≤l.foldl (fun n c=>10*n+((c.toNat:Int)-48)) n∧l.foldl (fun n c=>10*n+((c.toNat:Int)-48)) n<10 ^ (k+l.length)
 | [],n,k,_,h0,h1=>⟨h0,h1⟩
 | c::l,n,k,h,h0,h1=>by
  obtain⟨h3,h4⟩:=(digit_iff c).1 (h c (by simp))
  have:=fold_bd l (10*n+((c.toNat:Int)-48)) (k+1) (fun x hx=>h x (by simp[hx])) (by omega) (by rw[Int.pow_succ];omega)
  rw[show k+(c::l).length=k+1+l.length by simp;omega]
  exact this
theorem digits_bd (l:List UInt8)(h:∀c∈l,digit c=true):0≤digitsVal l∧digitsVal l<10 ^ l.length:=by
 have:=fold_bd l 0 0 h (by omega) (by decide)
 simpa[digitsVal] using this
theorem parseUint_any (t:ByteArray)(w:World)(hd:∀c∈t.data.toList,digit c=true)(h1:1≤t.size)(h9:t.size≤9):
  Calls prog 199 #[.string t,.int .i64 10,.int .i64 64] w fun e w'=>e=.returned (.tuple #[.int .u64 (digitsVal t.data.toList),.nilIface])∧Below w.heap.size w w':=by
 have e1:t.toList.isEmpty=false:=by
  rw[ByteArray.toList_eq]
  cases h:t.data.toList with
  | nil=>have:=len_data t;rw[h] at this;simp at this;omega
  | cons a l=>rfl
 have hcv:=Lib.run_convert_string_bytes (P:=prog) w 9 130 5 t (u:=.string) underlying9 underlying130 underlying5
 have hB:∀j,j<t.size→(Lib.bytesWorld w 5 t).cell? ⟨w.heap.size,j,none⟩=some (.int .u8 (t.data.toList.getD j 0).toNat):=fun j hj=>Lib.bytesWorld_cell w 5 t j hj
 have hbel:Below w.heap.size w (Lib.bytesWorld w 5 t):=Lib.bytesWorld_below w 5 t
 generalize Lib.bytesWorld w 5 t=W1 at *
 have hmv:IntKind.u64.wrap (IntKind.u64.wrap 18446744073709551616-1)=18446744073709551615:=by
  rw[IntKind.wrap_u64,IntKind.wrap_u64]
  decide
 go_enter func199,ntmps199
 go_wp2
 generalize grownCap w t.size 0 5=cap at *
 clear hcv hmv e1
 have hls:=len_data t
 go_loop [12,13,101] (fun vu vn vi=>∃(k:Nat) (a:Int),vu=.bool false∧vn=.int .u64 a∧vi=.int .i64 k∧k≤t.size∧Hid (a=digitsVal (t.data.toList.take k)))
  (fun _ _ vi=>t.size-(intOf vi).toNat)
 case atStart=>exact⟨0,0,rfl,rfl,rfl,by omega,rfl⟩
 case round =>
  obtain⟨k,a,rfl,rfl,rfl,hk,ha⟩:=hrel
  have hbd:=digits_bd (t.data.toList.take k) (fun c hc=>hd c (List.mem_of_mem_take hc))
  rw[←ha.out] at hbd
  obtain⟨a0,a1⟩:=hbd
  by_cases hkn:k<t.size
  ·have hc:=hB k hkn
   have hget:t.data.toList.getD k 0=t.data.toList[k]'(by rw[hls];exact hkn):=by simp[List.getD,hls,hkn]
   have hts:t.data.toList.take (k+1)=t.data.toList.take k++[t.data.toList[k]'(by rw[hls];exact hkn)]:=List.take_succ_eq_append_getElem (by rw[hls];exact hkn)
   have hdg:=(digit_iff _).1 (hd (t.data.toList[k]'(by rw[hls];exact hkn)) (List.getElem_mem _))
   rw[hget] at hc
   have HS:=digits_snoc (t.data.toList.take k) (t.data.toList[k]'(by rw[hls];exact hkn))
   rw[←hts,←ha.out] at HS
   generalize t.data.toList[k]'(by rw[hls];exact hkn)=c at hc hdg HS
   have HS2:Hid (digitsVal (t.data.toList.take (k+1))=10*a+((c.toNat:Int)-48)):=HS
   obtain⟨d1,d2⟩:=hdg
   have a2:a≤99999999:=by
    have h10:(10:Int) ^ (t.data.toList.take k).length≤100000000:=by
     rw[List.length_take,hls,Nat.min_eq_left (by omega)]
     have:k≤8:=by omega
     have:k=0∨k=1∨k=2∨k=3∨k=4∨k=5∨k=6∨k=7∨k=8:=by omega
     rcases this with rfl | rfl | rfl | rfl | rfl | rfl | rfl | rfl | rfl<;>decide
    omega
   clear hB HS hget hts ha a1 hd hbel
   generalize hx:(c.toNat:Int)=x at *
   go_wp2
   go_round
   case rel=>exact⟨k+1,a*10+(x-48),rfl,rfl,by go_num,by omega,by show _=_;rw[HS2.out];omega⟩
   case measure=>simp[intOf];omega
  ·go_wp2
   go_ret2
   have:k=t.size:=by omega
   subst this
   exact⟨by rw[ha.out,←hls,List.take_length];rfl,hbel⟩
theorem starts_consN (c:UInt8)(l:List UInt8):startsB 45 (c::l)=(c==45):=by simp[startsB]
theorem iParseInt_any (t:ByteArray)(w:World)(h:NumOk t.data.toList):
  Calls prog 176 #[.string t,.int .i64 10,.int .i64 64] w fun e w'=>e=.returned (.tuple #[.int .i64 (numVal t.data.toList),.nilIface])∧Below w.heap.size w w':=by
 obtain⟨hd,h1,h9⟩:=h
 have hls:=len_data t
 obtain⟨c,l,hcl⟩:∃c l,t.data.toList=c::l:=by
  cases h:t.data.toList with
  | nil=>rw[h] at h1;simp[unsignL,startsB] at h1
  | cons c l=>exact⟨c,l,rfl⟩
 have e1:t.toList.isEmpty=false:=by rw[ByteArray.toList_eq,hcl];rfl
 have hz:1≤t.size:=by rw[hcl] at hls;simp at hls;omega
 have hi:(0:Int)<t.size:=by omega
 have hs0:t[0]=c:=by
  have:=data_at t 0 (by omega)
  simpa[hcl] using this.symm
 by_cases hm:c=45
 ·subst hm
  have hu:unsignL t.data.toList=t.data.toList.drop 1:=by rw[hcl];simp[unsignL,startsB]
  have hnv:Hid (numVal t.data.toList=- digitsVal (t.data.toList.drop 1)):=by show _=_;rw[hcl];simp[numVal,startsB]
  rw[hu] at hd h1 h9
  have hbd:=digits_bd _ hd
  have er:(t.extract 1 t.size).data.toList=t.data.toList.drop 1:=Lib.extract_to_end t 1
  have cu:=fun w=>parseUint_any (t.extract 1 t.size) w (by rw[er];exact hd) (by rw[←len_data,er];exact h1) (by rw[←len_data,er];exact h9)
  rw[er] at cu
  have h10:(10:Int) ^ (t.data.toList.drop 1).length≤1000000000:=by
   have:(t.data.toList.drop 1).length=0∨(t.data.toList.drop 1).length=1∨(t.data.toList.drop 1).length=2∨(t.data.toList.drop 1).length=3∨(t.data.toList.drop 1).length=4∨(t.data.toList.drop 1).length=5∨(t.data.toList.drop 1).length=6∨(t.data.toList.drop 1).length=7∨(t.data.toList.drop 1).length=8∨(t.data.toList.drop 1).length=9:=by omega
   rcases this with h | h | h | h | h | h | h | h | h | h<;>rw[h]<;>decide
  generalize digitsVal (t.data.toList.drop 1)=a at *
  obtain⟨a0,a1⟩:=hbd
  have a2:a≤1000000000:=by omega
  clear a1 h10 hd h1 h9 hu er hcl
  go_enter func176,ntmps176
  go_wp2_with (go_at_call 199;refine (cu _).mono ?_;rintro e w' ⟨rfl,hb⟩)
  go_ret2
  exact⟨by rw[hnv.out];rfl,hb⟩
 ·have hu:unsignL t.data.toList=t.data.toList:=by rw[hcl];simp[unsignL,startsB,hm]
  have hnv:Hid (numVal t.data.toList=digitsVal t.data.toList):=by show _=_;rw[hcl];simp[numVal,startsB,hm]
  rw[hu] at hd h1 h9
  have hbd:=digits_bd _ hd
  have cu:=fun w=>parseUint_any t w hd (by rw[←len_data];exact h1) (by rw[←len_data];exact h9)
  have h10:(10:Int) ^ t.data.toList.length≤1000000000:=by
   have:t.data.toList.length=0∨t.data.toList.length=1∨t.data.toList.length=2∨t.data.toList.length=3∨t.data.toList.length=4∨t.data.toList.length=5∨t.data.toList.length=6∨t.data.toList.length=7∨t.data.toList.length=8∨t.data.toList.length=9:=by omega
   rcases this with h | h | h | h | h | h | h | h | h | h<;>rw[h]<;>decide
  obtain⟨c1,c2⟩:=(digit_iff c).1 (hd c (by rw[hcl];simp))
  generalize digitsVal t.data.toList=a at *
  obtain⟨a0,a1⟩:=hbd
  have a2:a≤1000000000:=by omega
  have b1:((c.toNat:Int)==43)=false:=by simp;omega
  have b2:((c.toNat:Int)==45)=false:=by simp;omega
  clear a1 h10 hd h1 h9 hu hcl hm
  go_enter func176,ntmps176
  go_wp2_with (go_at_call 199;refine (cu _).mono ?_;rintro e w' ⟨rfl,hb⟩)
  go_ret2
  exact⟨by rw[hnv.out];rfl,hb⟩
theorem parseInt_any (t:ByteArray)(w:World)(h:NumOk t.data.toList):
  Calls prog 145 #[.string t,.int .i64 10,.int .i64 64] w fun e w'=>e=.returned (.tuple #[.int .i64 (numVal t.data.toList),.nilIface])∧Below w.heap.size w w':=by
 have ci:=fun w=>iParseInt_any t w h
 go_enter func145,ntmps145
 go_wp2_with (go_at_call 176;refine (ci _).mono ?_;rintro e w' ⟨rfl,hb⟩)
 go_ret2
 exact⟨rfl,hb⟩
theorem new_cells3 (w:World)(x y z:Value)(t:TypeId):let X:=w.alloc (.cells #[x,y,z] t)
  X.cell? ⟨w.heap.size,0,none⟩=some x∧X.cell? ⟨w.heap.size,1,none⟩=some y∧X.cell? ⟨w.heap.size,2,none⟩=some z∧w.heap.size<X.heap.size:=by
 have h:(w.alloc (Obj.cells #[x,y,z] t)).heap[w.heap.size]?=some (.cells #[x,y,z] t):=heap_alloc_new _ _
 refine⟨?_,?_,?_,by simp⟩<;>(unfold World.cell?;rw[h];rfl)
theorem numberOf_any (at_:Nat)(bd:ByteArray)(w:World)(h:NumOk bd.data.toList):
  Calls prog 172 #[tokV 3 at_ bd] w fun e w'=>e=.returned (.tuple #[.iface 306 (.agg #[.int .i64 ((at_:Nat):Int),.int .i64 (numVal bd.data.toList)]),.nilIface])∧Below w.heap.size w w':=by
 have ci:=fun w=>parseInt_any bd w h
 obtain⟨n0,n1,n2,n3⟩:=new_cells3 w (.int .i64 3) (.int .i64 ((at_:Nat):Int)) (.string bd) 173
 go_enter func172,ntmps172
 go_wp2_with (go_at_call 145;refine (ci _).mono ?_;rintro e w' ⟨rfl,hb⟩;have m1:=Below.cellv hb n1)
 go_ret2
 exact⟨rfl,((Below.refl _ _).alloc (Nat.le_refl _) _).trans (hb.mono (by simp))⟩
end Go.Proofs.YtifhgjpglicjbaaGreatDoor
