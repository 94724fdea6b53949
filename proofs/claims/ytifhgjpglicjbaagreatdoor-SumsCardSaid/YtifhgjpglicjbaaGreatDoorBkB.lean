/-
  Back.
-/
import Derived.Test.YtifhgjpglicjbaaGreatDoorLkB
set_option maxHeartbeats 400000
set_option maxRecDepth 8000
namespace Go.Proofs.YtifhgjpglicjbaaGreatDoor
open Go.Proofs.Tryz
open Go.RowKit Go.Lib
attribute [local go_sem ↓] Go.wp_at_zero Go.wp_at_succ
def bkB:ByteArray:=⟨#[40,102,117,110,32,105,110,105,116,32,40,41,32,48,41,32,40,102,117,110,32,117,112,100,97,116,101,32,40,109,32,110,41,32,110,41,32,40,102,117,110,32,118,105,101,119,32,40,110,41,32,110,41,32,40,102,117,110,32,115,97,109,101,32,40,120,32,121,41,32,40,108,105,115,116,32,40,101,113,32,120,32,121,41,32,120,41,41]⟩
theorem bkB_list:bkB.data.toList=bkL:=by kernel_rfl
def bkR (w:World)(R:Option (List UInt8))(e:Ending)(w':World):Prop :=
 Below w.heap.size w w'∧((∃t,R=some t∧e=.returned (.tuple #[.string ⟨t.toArray⟩,.nilIface]))∨(R=none∧∃f,FltW f∧e=.returned (.tuple #[.string ⟨#[]⟩,f])))
theorem bk_call {w X:World}{E:Nat→Addr}(G:G0 w E)(hX:Below w.heap.size w X)(a b:ByteArray)(ha:a.size≤1000000)(hb:b.size≤1000000):
  Calls prog 11 #[.string bkB,.string ⟨#[115,97,109,101]⟩,.slice (some ⟨X.heap.size,0,none⟩) 2 2] (X.alloc (.cells #[.string a,.string b] 9)) (bkR w (reckK bkF sameN [a.data.toList,b.data.toList])):=by
 have L:=bk_loads
 rw[←bkB_list] at L
 refine (reckon_new (G.below hX) L (by decide +kernel) ⟨#[115,97,109,101]⟩ [a,b] (by simp) (fun x hx=>?_)).mono fun e w' ⟨hb,h⟩=>⟨hX.trans (hb.mono hX.size),h⟩
 simp at hx
 rcases hx with rfl | rfl<;>omega
theorem bk_no {w X:World}{E:Nat→Addr}(G:G0 w E)(hX:Below w.heap.size w X)(a b:ByteArray)(ha:a.size≤1000000)(hb:b.size≤1000000)(h:reckK bkF sameN [a.data.toList,b.data.toList]=none):
  Calls prog 11 #[.string bkB,.string ⟨#[115,97,109,101]⟩,.slice (some ⟨X.heap.size,0,none⟩) 2 2] (X.alloc (.cells #[.string a,.string b] 9)) fun e w'=>∃f,e=.returned (.tuple #[.string ⟨#[]⟩,f])∧FltW f∧Below w.heap.size w w':=by
 refine (bk_call G hX a b ha hb).mono fun e w' ⟨hb,hr⟩=>?_
 rw[h] at hr
 rcases hr with ⟨t,h1,_⟩ | ⟨_,f,h1,h2⟩
 ·cases h1
 ·exact⟨f,h2,h1,hb⟩
theorem arr_data (l:List UInt8):(⟨l.toArray⟩:ByteArray).data.toList=l:=by simp
theorem app_data (a b:ByteArray):(a++b).data.toList=a.data.toList++b.data.toList:=by simp
theorem app_size (a b:ByteArray):(a++b).size=a.size+b.size:=by rw[←tl_size,app_data,List.length_append,tl_size,tl_size]
theorem ext_size (a:ByteArray)(k:Nat)(h:k≤a.size):(a.extract 0 k).size=k∧(a.extract k a.size).size=a.size-k:=by
 rw[ByteArray.size_extract,ByteArray.size_extract];omega
theorem ext3 (l:List UInt8):(⟨([40,48,32]++l).toArray⟩:ByteArray).extract 0 3=⟨#[40,48,32]⟩:=by
 apply ByteArray.ext
 rw[ByteArray.data_extract]
 apply Array.toList_inj.1
 simp
theorem Back_any (raw:List Int)(blank:Int)(sl:Value)(w:World)(E:Nat→Addr)(G:G0 w E)(hraw:∀x∈raw,In64 x)(h:IntsAt w sl raw)(hb:In64 blank):
  Calls prog 4 #[sl,.int .i64 blank] w fun e w'=>e=.returned (.bool true)∧Below w.heap.size w w':=by
 have h':=h
 obtain⟨ad,cap,rfl,hcap,hcm,hcell⟩:=h'
 unfold maxLen at hcm
 have CK:=known_ok w E G.er G.fl G.nu G.sz
 obtain⟨m,hm⟩:∃m,m=min raw.length 60:=⟨_,rfl⟩
 have htk:IntsAt w (.slice ad m cap) (raw.take 60):=by
  have hl:(raw.take 60).length=m:=by rw[List.length_take,hm];omega
  refine⟨ad,cap,by rw[hl],by omega,by unfold maxLen;omega,fun j hj=>?_⟩
  obtain⟨g,o,e,hc⟩:=hcell j (by omega)
  exact⟨g,o,e,by rw[hc,List.getElem_take]⟩
 have hg:=shape_good 5 (raw.take 60) fun x hx=>hraw x (List.mem_of_mem_take hx)
 have hle:=hg.le
 have hwt:=hg.wt
 rw[List.length_take] at hle
 have BV:BkV (shapeA 5 (raw.take 60)).1:=⟨hg.ok,hg.qt,by omega⟩
 have hwl:=wrV_len _ hg.ok
 have SH0:∀X,Below w.heap.size w X→Calls prog 13 #[.slice ad m cap,.int .i64 5] X (ksP 5 (raw.take 60) X):=fun X hX=>shape_any 5 (by omega) (raw.take 60) _ X (by rw[List.length_take];omega) (fun x hx=>hraw x (List.mem_of_mem_take hx)) (htk.below hX)
 obtain⟨v,hv⟩:∃v,v=(shapeA 5 (raw.take 60)).1:=⟨_,rfl⟩
 obtain⟨sB,hsB⟩:∃sB:ByteArray,sB=⟨(wrV v).toArray⟩:=⟨_,rfl⟩
 have hsd:sB.data.toList=wrV v:=by rw[hsB,arr_data]
 have hsz:sB.size=(wrV v).length:=by rw[←hsd,tl_size]
 have SH:Hid (∀X,Below w.heap.size w X→Calls prog 13 #[.slice ad m cap,.int .i64 5] X fun e w'=>∃z,e=.returned (.tuple #[.string sB,.int .i64 z])∧Below w.heap.size w w'):=fun X hX=>(SH0 X hX).mono fun e w' ⟨h1,h2⟩=>⟨(((shapeA 5 (raw.take 60)).2:Nat):Int),h1.trans (by rw[hsB,hv]),hX.trans (h2.mono hX.size)⟩
 rw[←hv] at BV hwl hwt
 have hsmall:sB.size≤20000:=by have:=BV.wt;omega
 have z1:=app_size
 have R0:Hid (∀X,Below w.heap.size w X→Calls prog 11 #[.string bkB,.string ⟨#[115,97,109,101]⟩,.slice (some ⟨X.heap.size,0,none⟩) 2 2] (X.alloc (.cells #[.string sB,.string sB] 9)) fun e w'=>e=.returned (.tuple #[.string (⟨#[40,49,32]⟩++sB++⟨#[41]⟩),.nilIface])∧Below w.heap.size w w'):=fun X hX=>by
  refine (bk_call G hX sB sB (by omega) (by omega)).mono fun e w' ⟨hb,hr⟩=>?_
  rw[hsd,bk_first BV] at hr
  rcases hr with ⟨t,h1,h2⟩ | ⟨h1,_⟩
  ·cases h1
   refine⟨?_,hb⟩
   rw[h2]
   have:(⟨([40,49,32]++wrV v++[41]).toArray⟩:ByteArray)=⟨#[40,49,32]⟩++sB++⟨#[41]⟩:=by
    rw[hsB]
    apply ByteArray.ext
    simp
   rw[this]
  ·cases h1
 have R1:Hid (∀X,Below w.heap.size w X→Calls prog 11 #[.string bkB,.string ⟨#[115,97,109,101]⟩,.slice (some ⟨X.heap.size,0,none⟩) 2 2] (X.alloc (.cells #[.string sB,.string (⟨#[32]⟩++sB)] 9)) fun e w'=>∃f,e=.returned (.tuple #[.string ⟨#[]⟩,f])∧FltW f∧Below w.heap.size w w'):=fun X hX=>bk_no G hX _ _ (by omega) (by rw[z1];show 1+_≤_;omega) (by rw[app_data,hsd];exact bk_one v)
 have R2:Hid (∀X,Below w.heap.size w X→Calls prog 11 #[.string bkB,.string ⟨#[115,97,109,101]⟩,.slice (some ⟨X.heap.size,0,none⟩) 2 2] (X.alloc (.cells #[.string (sB++⟨#[41]⟩),.string sB] 9)) fun e w'=>∃f,e=.returned (.tuple #[.string ⟨#[]⟩,f])∧FltW f∧Below w.heap.size w w'):=fun X hX=>bk_no G hX _ _ (by rw[z1];show _+1≤_;omega) (by omega) (by rw[app_data,hsd];exact bk_two BV)
 have R3:Hid (∀X,Below w.heap.size w X→Calls prog 11 #[.string bkB,.string ⟨#[115,97,109,101]⟩,.slice (some ⟨X.heap.size,0,none⟩) 2 2] (X.alloc (.cells #[.string sB,.string (⟨#[40]⟩++sB)] 9)) fun e w'=>∃f,e=.returned (.tuple #[.string ⟨#[]⟩,f])∧FltW f∧Below w.heap.size w w'):=fun X hX=>bk_no G hX _ _ (by omega) (by rw[z1];show 1+_≤_;omega) (by rw[app_data,hsd];exact bk_three BV)
 have R4:Hid (∀X,Below w.heap.size w X→Calls prog 11 #[.string bkB,.string ⟨#[115,97,109,101]⟩,.slice (some ⟨X.heap.size,0,none⟩) 2 2] (X.alloc (.cells #[.string (sB++⟨#[32]⟩),.string sB] 9)) fun e w'=>∃f,e=.returned (.tuple #[.string ⟨#[]⟩,f])∧FltW f∧Below w.heap.size w w'):=fun X hX=>bk_no G hX _ _ (by rw[z1];show _+1≤_;omega) (by omega) (by rw[app_data,hsd];exact bk_four BV)
 obtain⟨k,hk⟩:∃k,k=pickA blank (sB.size+1):=⟨_,rfl⟩
 have hkl:k<sB.size+1:=by rw[hk];exact pickA_lt (by omega)
 have CP:Hid (∀X,Calls prog 10 #[.int .i64 blank,.int .i64 ((sB.size:Int)+1)] X fun e w'=>e=.returned (.int .i64 ((k:Nat):Int))∧w'=X):=fun X=>by
  rw[hk]
  exact pick_any blank (sB.size+1) X hb (by omega) (by omega)
 obtain⟨T,hT⟩:∃T:ByteArray,T=sB.extract 0 k++(⟨#[40,41]⟩:ByteArray)++sB.extract k sB.size:=⟨_,rfl⟩
 have el:T.data.toList.length=(wrV v).length+2:=by
  rw[hT,tl_size,z1,z1]
  obtain⟨e1,e2⟩:=ext_size sB k (by omega)
  rw[e1,e2]
  show k+2+_=_
  omega
 have hTs:T.size≤1000000:=by rw[←tl_size,el];omega
 have R5:Hid (∀X,Below w.heap.size w X→Calls prog 11 #[.string bkB,.string ⟨#[115,97,109,101]⟩,.slice (some ⟨X.heap.size,0,none⟩) 2 2] (X.alloc (.cells #[.string T,.string sB] 9)) fun e w'=>∃(u:ByteArray) (f:Value),e=.returned (.tuple #[.string u,f])∧Below w.heap.size w w'∧((∃tf xf,f=.iface tf xf)∨(f=.nilIface∧3<u.size∧u.size≤1000000∧u.extract 0 3=⟨#[40,48,32]⟩))):=fun X hX=>by
  refine (bk_call G hX T sB hTs (by omega)).mono fun e w' ⟨hb,hr⟩=>?_
  rw[hsd] at hr
  rcases bk_five BV el with h0 | ⟨r,h0,hrl⟩
  ·rw[h0] at hr
   rcases hr with ⟨t,h1,_⟩ | ⟨_,f,h1,h2⟩
   ·cases h1
   ·exact⟨_,f,h2,hb,Or.inl h1.iface⟩
  ·rw[h0] at hr
   rcases hr with ⟨t,h1,h2⟩ | ⟨h1,_⟩
   ·have h1:=Option.some.inj h1
    rw[←h1] at h2
    refine⟨_,_,h2,hb,Or.inr ⟨rfl,?_,?_,?_⟩⟩
    ·rw[←tl_size,arr_data]
     simp only[List.length_append,List.length_cons,List.length_nil,el]
     omega
    ·rw[←tl_size,arr_data]
     simp only[List.length_append,List.length_cons,List.length_nil,el]
     omega
    ·exact ext3 _
   ·cases h1
 obtain⟨af,haf⟩:=G.fl.fl
 have IS:Hid (∀X f,FltW f→Below w.heap.size w X→Calls prog 12 #[f,errVal af] X fun e w'=>e=.returned (.bool true)∧Below w.heap.size w w'):=fun X f hf hX=>(is_flt hf af X (Below.cellv hX haf)).mono fun e w' ⟨h1,h2⟩=>⟨h1,hX.trans (h2.mono hX.size)⟩
 have GF:Hid (∀X,Below w.heap.size w X→X.cell? ⟨0,0,none⟩=some (errVal af)):=fun X hX=>Below.cellv hX haf
 rw[hT] at R5
 unfold bkB at R0 R1 R2 R3 R4 R5
 have hmm:m=(min (raw.length:Int) 60).toNat:=by omega
 rw[hmm] at SH
 have hcap2:raw.length≤cap:=by omega
 have hli:(raw.length:Int)≤9223372036854775807:=by omega
 have hszi:(sB.size:Int)≤20000:=by omega
 have hki:(k:Int)≤(sB.size:Int):=by omega
 clear h hcap hcell htk hg hle hwt BV hwl SH0 hv hsB hsd hsz z1 hraw G haf hk hm hb hT el hTs hmm
 go_enter func4,ntmps4
 go_wp2_with (go_at_call 8;refine CK.mono ?_;rintro e w1 ⟨rfl,hb1⟩)
 refine (SH.out _ hb1).mono ?_
 rintro e w2 ⟨z,rfl,hb2⟩
 clear SH CK
 go_wp2_with fail
 refine (R0.out _ hb2).mono ?_
 rintro e w3 ⟨rfl,hb3⟩
 clear R0
 go_wp2_with fail
 refine (R1.out _ hb3).mono ?_
 rintro e w4 ⟨f1,rfl,hf1,hb4⟩
 clear R1
 go_wp2_with fail
 refine (R2.out _ hb4).mono ?_
 rintro e w5 ⟨f2,rfl,hf2,hb5⟩
 clear R2
 go_wp2_with fail
 refine (R3.out _ hb5).mono ?_
 rintro e w6 ⟨f3,rfl,hf3,hb6⟩
 clear R3
 go_wp2_with fail
 refine (R4.out _ hb6).mono ?_
 rintro e w7 ⟨f4,rfl,hf4,hb7⟩
 clear R4
 go_wp2_with (go_at_call 10;refine (CP.out _).mono ?_;rintro e w8 ⟨rfl,rfl⟩)
 have R6:=R5.out w8 hb7
 have R7:Calls prog 11 _ ((w8.alloc (.cells #[.string (sB.extract 0 k++⟨#[40,41]⟩++sB.extract k sB.size),.string sB] 9)).drew) _:=R5.out w8.drew hb7.drew
 clear R5
 go_region_with (go_at_call 11;(first | refine R6.mono ?_ | refine R7.mono ?_);rintro e w9 ⟨u,f5,rfl,hb9,h5⟩)
 all_goals
  have g9:=GF.out _ hb9
  clear R6 R7 CP
  rcases h5 with ⟨tf,xf,rfl⟩ | ⟨rfl,hu1,hu2,hu3⟩
 all_goals
  go_wp2_with fail
  refine (IS.out _ f1 hf1 hb9).mono ?_
  rintro e w10 ⟨rfl,hb10⟩
  have g10:=GF.out _ hb10
  clear g9 hb9
  go_wp2_with fail
  refine (IS.out _ f2 hf2 hb10).mono ?_
  rintro e w11 ⟨rfl,hb11⟩
  have g11:=GF.out _ hb11
  clear g10 hb10
  go_wp2_with fail
  refine (IS.out _ f3 hf3 hb11).mono ?_
  rintro e w12 ⟨rfl,hb12⟩
  have g12:=GF.out _ hb12
  clear g11 hb11
  go_wp2_with fail
  refine (IS.out _ f4 hf4 hb12).mono ?_
  rintro e w13 ⟨rfl,hb13⟩
  clear g12 hb12
  go_wp2_with fail
  go_ret
  exact⟨rfl,hb13⟩
end Go.Proofs.YtifhgjpglicjbaaGreatDoor
