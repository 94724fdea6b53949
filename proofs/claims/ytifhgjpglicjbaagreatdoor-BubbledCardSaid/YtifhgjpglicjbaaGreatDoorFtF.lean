/-
  Frames, the program: lay.
-/
import Derived.Test.YtifhgjpglicjbaaGreatDoorFsZ
import Derived.Test.YtifhgjpglicjbaaGreatDoorRdA
set_option maxHeartbeats 1000000
set_option maxRecDepth 8000
namespace Go.Proofs.YtifhgjpglicjbaaGreatDoor
open Go.Proofs.Tryz
open Go.RowKit Go.Lib
attribute [local go_sem ↓] Go.wp_at_zero Go.wp_at_succ
def layA (a:PA)(ms:List PV):PA:=if a.queue.length+ms.length≤12 then { a with queue:=a.queue++ms } else { a with dropped:=a.dropped+1 }
def layN (a:PA)(ms:List PV):Nat:=if a.queue.length+ms.length≤12 then ms.length else 0
def laP (w:World)(ab:Nat)(fns:List Fn)(lk:Int)(a:PA)(ms:List PV)(e:Ending)(w':World):Prop :=
 ∃c',e=.returned (.int .i64 ((layN a ms:Nat):Int))∧Below ab w w'∧AppAt w' ab fns lk c' (layA a ms)
theorem lay_ok {fns:List Fn}{w:World}{ab:Nat}{lk:Int}{c:AC}{a:PA}(h:AppAt w ab fns lk c a)(ms:List PV)(ad:Option Addr)(cap:Nat)(cs:List Value)(hseg:SegAt w (NQ c.qv a.foe) 74 1 (.slice ad ms.length cap) ms.length cs)(hvs:VLs w (NQ c.qv a.foe) ms cs)(hf:∀m∈ms,Fine m)(hl:ms.length≤1000000000)(hdr:a.dropped≤900000000):
  Calls prog 45 #[.pointer (some ⟨ab,0,none⟩),.slice ad ms.length cap] w (laP w ab fns lk a ms):=by
 obtain⟨qcs,qown,qvs⟩:=h.st.queue
 obtain⟨qa,qc,hqv⟩:=owns_slice qown
 have hq:=h.st.hq
 have c4:w.cell? ⟨ab,4,none⟩=some c.qv:=h.cell 4
 have f4:=h.frozen 4
 have hlt:=h.lt
 have hqi:(a.queue.length:Int)≤12:=by omega
 have hmi:(ms.length:Int)≤1000000000:=by omega
 by_cases hle:a.queue.length+ms.length≤12
 ·have FIN:Hid (∀v' w',w'.ownsRow (ab+1) 74 1 v' (a.queue.length+ms.length) (qcs++cs)→w.grownBy w' c.qv.ownBlock→(v'.ownBlock=c.qv.ownBlock∨v'.ownBlock=some w.heap.size)→(∃u,w'.cell? ⟨ab,4,none⟩=some u)∧w'.frozen? ⟨ab,4,none⟩=false∧laP w ab fns lk a ms (.returned (.int .i64 ((ms.length:Nat):Int))) (w'.setCell ⟨ab,4,none⟩ v')):=fun v' w' h1 h2 h3=>by
   have r:=h.queue (q':=a.queue++ms) h2 h3 (by rw[List.length_append];exact h1) (VLs.append hvs qvs) (fun v hv=>by rw[List.mem_append] at hv;rcases hv with hv | hv;exact h.st.fq v hv;exact hf v hv) (by rw[List.length_append];exact hle)
   have hab:w'.heap[ab]?=w.heap[ab]?:=h2.block ab hlt fun e=>by have:=(qown.lt ab e.symm).1;omega
   refine⟨⟨c.qv,by unfold World.cell?;rw[hab,h.blk];rfl⟩,by unfold World.frozen?;rw[hab,h.blk];rfl,{ c with qv:=v' },?_,r.2,?_⟩
   ·rw[layN,if_pos hle]
   ·rw[layA,if_pos hle]
    exact r.1
  have h1c:=hvs.one_cell
  rw[hqv] at c4 qown FIN
  have hlei:(a.queue.length:Int)+(ms.length:Int)≤12:=by omega
  generalize laP w ab fns lk a ms=POST at *
  clear h hqv qvs hvs hf
  go_enter func45,ntmps45
  go_wp2_with (at_builtin;obtain⟨i0,hi,hz0,hz1,hz2⟩:=info_parts Tryz.infoVVal;refine wpList_append_seg rfl _ _ 70 rfl (ab+1) 74 i0 .nilIface 1 16 underlying70 hi hz0 hz1 hz2 rfl (by decide) _ _ _ rfl qown _ ms.length cs rfl hseg h1c (by unfold maxLen;omega) (by omega) (by omega) ?_;intro v6 w6 own6 hg6 hob6;clear hi hz0 hz1 hz2;obtain⟨⟨u6,k6⟩,g6,FI⟩:=FIN.out v6 w6 own6 hg6 hob6;have FI2:Hid _:=FI;clear FI;obtain⟨a6,n6,rfl⟩:=owns_slice own6)
  exact FI2.out
 ·have h1:AppAt (w.setCell ⟨ab,10,none⟩ (.int .i64 ((a.dropped:Int)+1))) ab fns lk c { a with dropped:=a.dropped+1 }:=h.upd 10 _ (by simp[appCells]) rfl rfl rfl rfl
  have b1:=(h.set 10 (.int .i64 ((a.dropped:Int)+1))).2.2
  have c10:w.cell? ⟨ab,10,none⟩=some (.int .i64 ((a.dropped:Nat):Int)):=h.cell 10
  have f10:=h.frozen 10
  have FIN:Hid (laP w ab fns lk a ms (.returned (.int .i64 0)) (w.setCell ⟨ab,10,none⟩ (.int .i64 ((a.dropped:Int)+1)))):=by
   refine⟨c,by rw[layN,if_neg hle];rfl,b1,?_⟩
   rw[layA,if_neg hle]
   exact h1
  have hlei:12<(a.queue.length:Int)+(ms.length:Int):=by omega
  have hdi:(a.dropped:Int)≤900000000:=by omega
  rw[hqv] at c4
  generalize laP w ab fns lk a ms=POST at *
  clear h h1 b1 qown hqv qvs hvs hf
  go_enter func45,ntmps45
  go_wp2_with fail
  exact FIN.out
end Go.Proofs.YtifhgjpglicjbaaGreatDoor
namespace Go.Proofs.YtifhgjpglicjbaaGreatDoor
open Go.Proofs.Tryz
open Go.RowKit Go.Lib Go.MuLone
attribute [local go_sem ↓] Go.wp_at_zero Go.wp_at_succ
def evP (w:World)(ab:Nat)(fns:List Fn)(a:PA)(ms:List PV)(e:Ending)(w':World):Prop :=
 ∃c',e=.returned (.tuple #[.int .i64 ((layN a ms:Nat):Int),.nilIface])∧Below ab w w'∧AppAt w' ab fns 0 c' (layA a ms)
theorem askA_mem {ev:List UInt8}:∀{l:List (An×Tg)} {x:Hd×Tg},x∈askA ev l→∃y∈l,x.1∈hdsA y.1∧x.2=y.2
 | [],x,h=>by simp[askA] at h
 | y::r,x,h=>by
  rw[askA,List.mem_append] at h
  rcases h with h | h
  ·unfold askH at h
   rw[List.mem_map] at h
   obtain⟨hd,h1,rfl⟩:=h
   exact⟨y,by simp,(List.mem_filter.1 h1).1,rfl⟩
  ·split at h
   ·simp at h
   ·obtain⟨z,h1,h2⟩:=askA_mem h
    exact⟨z,by simp[h1],h2⟩
theorem askA_len {ev:List UInt8}:∀{l:List (An×Tg)},(∀y∈l,(hdsA y.1).length≤1000)→(askA ev l).length≤1000*l.length
 | [],_=>by simp[askA]
 | y::r,h=>by
  rw[askA,List.length_append]
  have h1:=askH_len ev y.2 (hdsA y.1)
  have h2:=h y (by simp)
  have h3:=askA_len (ev:=ev) (l:=r) fun z hz=>h z (by simp[hz])
  simp only[List.length_cons]
  split
  ·simp;omega
  ·omega
theorem msgsA_len {fns:List Fn}:∀{l:List (Hd×Tg)} {R:List PV},msgsA fns l=some R→R.length=l.length
 | [],R,h=>by rw[msgsA] at h;cases h;rfl
 | a::r,R,h=>by
  rw[msgsA] at h
  cases e:msgA fns a.2 a.1.msg with
  | none=>rw[e] at h;cases h
  | some m =>
   rw[e] at h
   simp only at h
   cases e2:msgsA fns r with
   | none=>rw[e2] at h;cases h
   | some q =>
    rw[e2] at h
    simp only[Option.map_some,Option.some.injEq] at h
    subst h
    simp[msgsA_len e2]
theorem Event_ok {fns:List Fn}(hP:ProgOk fns)(hU:UniqF fns){w:World}{ab:Nat}{c:AC}{a:PA}(h:AppAt w ab fns 0 c a){n:An}(hn:a.shown=some n)(path:List Nat)(pv:Value)(hp:SegAt w TT 3 1 pv path.length (pathV path))(hpl:path.length≤1000000)(hpi:∀i∈path,i≤1000000000)(evB:ByteArray)(fs:List (An×Tg))(hfs:(wayA (topW n) path).map (topW n::·)=some fs)(hhd:∀y∈fs,(hdsA y.1).length≤1000∧∀x∈hdsA y.1,Fine x.msg)(ms:List PV)(hms:msgsA fns (askA evB.data.toList fs.reverse)=some ms)(hdr:a.dropped≤900000000):
  Calls prog 23 #[.pointer (some ⟨ab,0,none⟩),pv,.string evB] w (evP w ab fns a ms):=by
 have h1:=h.lock 1
 have b1:Below ab w (w.setCell ⟨ab,0,none⟩ (.int .i32 1)):=(h.set 0 _).2.2
 have hp1:SegAt (w.setCell ⟨ab,0,none⟩ (.int .i32 1)) TT 3 1 pv path.length (pathV path):=hp.tyKeep (TyKeep.setCell h.blk (by decide) _)
 have c0:w.cell? ⟨ab,0,none⟩=some (.int .i32 0):=h.cell 0
 have f0:=h.frozen 0
 obtain⟨W1,hW1⟩:∃W1,W1=w.setCell ⟨ab,0,none⟩ (.int .i32 1):=⟨_,rfl⟩
 rw[←hW1] at h1 b1 hp1
 have CLock:=(lock_free muLib ⟨ab,0,none⟩ _ c0 f0).mono (fun e w' (hp:_∧_)=>(⟨hp.1,hp.2.trans hW1.symm⟩:e=.returned (.tuple #[])∧w'=W1))
 have c6:W1.cell? ⟨ab,6,none⟩=some n.val:=by
  rw[h1.cell 6]
  show some (valN a.shown)=_
  rw[hn]
  rfl
 have hs:=h1.st.shown
 rw[hn] at hs
 have hs:AnD W1 (NQ c.qv a.foe) n:=hs
 have hz:=(h.st.ok n hn).2
 have hml:=msgsA_len hms
 have CW:Calls prog 44 #[n.val,pv] W1 fun e w'=>∃wad wcap,e=.returned (.tuple #[.slice wad fs.length wcap,.nilIface])∧Calls prog 47 #[.slice wad fs.length wcap,.string evB] w' fun e w'=>∃aad acap al,e=.returned (.slice aad al acap)∧Calls prog 46 #[.pointer (some ⟨ab,0,none⟩),.slice aad al acap] w' fun e w'=>∃mad mcap,e=.returned (.slice mad ms.length mcap)∧Calls prog 45 #[.pointer (some ⟨ab,0,none⟩),.slice mad ms.length mcap] w' fun e w'=>∃c',e=.returned (.int .i64 ((layN a ms:Nat):Int))∧Below ab w w'∧AppAt w' ab fns 1 c' (layA a ms):=by
  refine (Way_any (NQ c.qv a.foe) n path pv W1 hs (by omega) hp1 hpl hpi).mono fun e w' hq=>?_
  rw[hfs] at hq
  obtain⟨hb2,⟨fs',wad,wcap,wcs,hR,he,hsg,hfc,hnd,hlen⟩ | ⟨hR,_⟩⟩:=hq
  ·cases hR
   refine⟨wad,wcap,he,?_⟩
   refine (Ask_any (NQ c.qv a.foe) fs wcs wad wcap evB w' hsg hfc (fun y hy=>⟨(hnd y hy).1,(hnd y hy).2.1,(hhd y hy).1⟩) hlen).mono fun e w3 hq=>?_
   obtain⟨aad,acap,acs,he3,hsg3,hac3,hb3⟩:=hq
   have bb3:=hb2.trans (hb3.mono hb2.size)
   have h3:=h1.below bb3
   have hal:(askA evB.data.toList fs.reverse).length≤1000*fs.reverse.length:=askA_len fun y hy=>(hhd y (by simpa using hy)).1
   rw[List.length_reverse] at hal
   refine⟨aad,acap,_,he3,?_⟩
   refine (messages_ok hP hU h3 _ aad acap acs hsg3 hac3 (by omega) (fun x hx=>?_) ms hms).mono fun e w4 hq=>?_
   ·obtain⟨y,hy1,hy2,hy3⟩:=askA_mem hx
    have hy1:y∈fs:=by simpa using hy1
    refine⟨(hhd y hy1).2 _ hy2,?_⟩
    rw[hy3]
    exact (hnd y hy1).2.2
   ·obtain⟨mad,mcap,mcs,he4,hsg4,hvs4,hb4,hf4⟩:=hq
    have bb4:=bb3.trans (hb4.mono bb3.size)
    have h4:=h1.below bb4
    refine⟨mad,mcap,he4,?_⟩
    refine (lay_ok h4 ms mad mcap mcs hsg4 hvs4 hf4 (by omega) hdr).mono fun e w5 hq=>?_
    obtain⟨c',he5,hb5,h5⟩:=hq
    have:ab≤W1.heap.size:=by have:=h1.lt;omega
    exact⟨c',he5,(b1.trans (bb4.mono this)).trans hb5,h5⟩
  ·cases hR
 have FIN:Hid (∀X c',Below ab w X→AppAt X ab fns 1 c' (layA a ms)→X.cell? ⟨ab,0,none⟩=some (.int .i32 1)∧X.frozen? ⟨ab,0,none⟩=false∧evP w ab fns a ms (.returned (.tuple #[.int .i64 ((layN a ms:Nat):Int),.nilIface])) (X.setCell ⟨ab,0,none⟩ (.int .i32 0))):=fun X c' hb hA=>⟨hA.cell 0,hA.frozen 0,c',rfl,hb.trans (hA.set 0 _).2.2,hA.lock 0⟩
 obtain⟨pad,pcap,rfl⟩:=hp.slice
 obtain⟨tn,bn,hv⟩:=n.val_iface
 rw[hv] at CW c6
 have hlt:=h.lt
 generalize layN a ms=LN at *
 generalize evP w ab fns a ms=POST at *
 clear h h1 hs hn hv hp hp1 hhd hms hfs hW1 hP hU b1 hpi hml
 go_enter_defers func23,ntmps23
 go_wp2_with (go_at_call 32;refine CLock.mono ?_;clear CLock;rintro e w1 ⟨rfl,rfl⟩)
 refine CW.mono ?_
 rintro e w2 ⟨wad,wcap,rfl,CA⟩
 clear CW c6
 go_wp2_with fail
 refine CA.mono ?_
 rintro e w3 ⟨aad,acap,al,rfl,CM⟩
 clear CA
 go_wp2_with fail
 refine CM.mono ?_
 rintro e w4 ⟨mad,mcap,rfl,CL⟩
 clear CM
 go_wp2_with fail
 refine CL.mono ?_
 rintro e w5 ⟨c5,rfl,hb5,h5⟩
 obtain⟨d0,g0,FI⟩:=FIN.out _ _ hb5 h5
 have FI2:Hid _:=FI
 clear FI h5 CL FIN
 go_wp2_with fail
 refine leaves_cons (f:=33) (args:=#[.pointer (some ⟨ab,0,none⟩)]) (by simp) (by simp[go_sem]) ?_
 refine (unlock_deferred muLib ⟨ab,0,none⟩ .returning _ d0 g0).mono ?_
 rintro e u' w3 ⟨rfl,rfl,rfl⟩
 refine⟨_,results_tmp2 rfl _ _ _,?_⟩
 have hfin:=FI2.out
 simpa using hfin
end Go.Proofs.YtifhgjpglicjbaaGreatDoor
namespace Go.Proofs.YtifhgjpglicjbaaGreatDoor
open Go.Proofs.Tryz
open Go.Lib
def counterL:List UInt8:=[40,102,117,110,32,111,100,100,32,40,98,41,32,40,105,102,32,98,32,39,116,104,114,101,101,39,32,39,111,116,104,101,114,39,41,41,32,40,102,117,110,32,105,110,105,116,32,40,41,32,48,41,32,40,102,117,110,32,117,112,100,97,116,101,32,40,109,32,110,41,32,40,97,100,100,32,110,32,109,41,41,32,40,102,117,110,32,118,105,101,119,32,40,110,41,32,40,108,105,115,116,32,39,101,108,39,32,39,112,39,32,40,108,105,115,116,32,40,108,105,115,116,32,39,111,110,39,32,39,117,112,39,32,49,41,32,40,108,105,115,116,32,39,105,100,39,32,39,120,39,41,41,32,40,108,105,115,116,32,110,32,40,108,105,115,116,32,39,108,97,122,121,39,32,39,111,100,100,39,32,40,101,113,32,110,32,51,41,41,41,41,41]
def counterF:List Fn:=[⟨[111,100,100],5,[([98],10)],.form [105,102] [] 14 [.var [98] 17,.txt [116,104,114,101,101],.txt [111,116,104,101,114]]⟩,
 ⟨[105,110,105,116],42,[],.num [48]⟩,
 ⟨[117,112,100,97,116,101],58,[([109],66),([110],68)],.form [97,100,100] [] 72 [.var [110] 76,.var [109] 78]⟩,
 ⟨[118,105,101,119],87,[([110],93)],.form [108,105,115,116] [] 97 [.txt [101,108],.txt [112],.form [108,105,115,116] [] 112 [.form [108,105,115,116] [] 118 [.txt [111,110],.txt [117,112],.num [49]],.form [108,105,115,116] [] 137 [.txt [105,100],.txt [120]]],.form [108,105,115,116] [] 154 [.var [110] 159,.form [108,105,115,116] [] 162 [.txt [108,97,122,121],.txt [111,100,100],.form [101,113] [] 181 [.var [110] 184,.num [51]]]]]⟩]
theorem counter_load:loadF counterL=some counterF:=by kernel_rfl
theorem counter_loads:Loads counterL counterF:=loads_of counter_load (by decide +kernel)
def cntView (n e:Int):PV:=.lst [.txt [101,108],.txt [112],.lst [.lst [.txt [111,110],.txt [117,112],.num 1],.lst [.txt [105,100],.txt [120]]],.lst [.num n,.lst [.txt [108,97,122,121],.txt [111,100,100],.num e]]]
theorem counter_init:reckP counterF initB.data.toList []=some (.num 0):=by kernel_rfl
theorem counter_view0:reckP counterF viewB.data.toList [.num 0]=some (cntView 0 0):=by kernel_rfl
theorem counter_view1:reckP counterF viewB.data.toList [.num 1]=some (cntView 1 0):=by kernel_rfl
theorem counter_up:pumpM counterF 5 [.num 1] (.num 0)=some (.num 1,[],1):=by kernel_rfl
def cntAts:List (List UInt8×List UInt8):=[([105,100],[120])]
def cntHs:List Hd:=[⟨[117,112],.num 1,false⟩]
def cntOth:List UInt8:=[111,116,104,101,114]
def cntK0:Ln:=.el [112] cntAts cntHs [.txt [48],.lz [111,100,100] [.num 0] (.txt cntOth)]
theorem counter_look0:lookA counterF 10 0 0 (cntView 0 0) none=some (cntK0,4,1):=by kernel_rfl
def cntN (s:List UInt8)(b b1 b2 b3:Nat):An:=.el b ⟨1,none⟩ [112] cntAts cntHs [.txt b1 ⟨2,none⟩ s,.lz b2 [111,100,100] [.num 0] (.txt b3 ⟨3,none⟩ cntOth)]
theorem made0 {n:An}{F:List Nat}(h:Made cntK0 n F):∃b b1 b2 b3,numA n (bareO none) 0=(cntN [48] b b1 b2 b3,3):=by
 unfold cntK0 at h
 rw[Made] at h
 obtain⟨b,ns,G,rfl,_,h⟩:=h
 rw[MadeL] at h
 obtain⟨m,ms,F1,F2,rfl,_,h1,h⟩:=h
 rw[MadeL] at h
 obtain⟨m2,ms2,F3,F4,rfl,_,h2,h⟩:=h
 rw[MadeL] at h
 obtain⟨rfl,_⟩:=h
 rw[Made] at h1
 rw[Made] at h2
 obtain⟨b1,rfl,_⟩:=h1
 obtain⟨b2,m3,G2,rfl,_,h3⟩:=h2
 rw[Made] at h3
 obtain⟨b3,rfl,_⟩:=h3
 exact⟨b,b1,b2,b3,by kernel_rfl⟩
def cntK1 (b2 b3:Nat):Ln:=.el [112] cntAts cntHs [.txt [49],.old (.lz b2 [111,100,100] [.num 0] (.txt b3 ⟨3,none⟩ cntOth))]
theorem counter_look1 (b b1 b2 b3:Nat):lookA counterF 10 0 0 (cntView 1 0) (some (cntN [48] b b1 b2 b3))=some (cntK1 b2 b3,4,0):=by kernel_rfl
theorem made1 {b b1 b2 b3:Nat}{n:An}{F:List Nat}(h:Made (cntK1 b2 b3) n F):∃c c1,numA n (bareO (some (cntN [48] b b1 b2 b3))) 3=(cntN [49] c c1 b2 b3,3):=by
 unfold cntK1 at h
 rw[Made] at h
 obtain⟨c,ns,G,rfl,_,h⟩:=h
 rw[MadeL] at h
 obtain⟨m,ms,F1,F2,rfl,_,h1,h⟩:=h
 rw[MadeL] at h
 obtain⟨m2,ms2,F3,F4,rfl,_,h2,h⟩:=h
 rw[MadeL] at h
 obtain⟨rfl,_⟩:=h
 rw[Made] at h1
 rw[Made] at h2
 obtain⟨c1,rfl,_⟩:=h1
 obtain⟨rfl,_⟩:=h2
 exact⟨c,c1,by kernel_rfl⟩
theorem counter_tree0 (b b1 b2 b3:Nat):treeT (er (cntN [48] b b1 b2 b3))=[60,112,35,49,32,105,100,61,39,120,39,62,35,50,32,39,48,39,35,51,32,39,111,116,104,101,114,39,60,47,112,62]:=by kernel_rfl
theorem counter_tree1 (b b1 b2 b3:Nat):treeT (er (cntN [49] b b1 b2 b3))=[60,112,35,49,32,105,100,61,39,120,39,62,35,50,32,39,49,39,35,51,32,39,111,116,104,101,114,39,60,47,112,62]:=by kernel_rfl
theorem counter_way (b b1 b2 b3:Nat):(wayA (topW (cntN [48] b b1 b2 b3)) []).map (topW (cntN [48] b b1 b2 b3)::·)=some [(cntN [48] b b1 b2 b3,[])]:=by kernel_rfl
theorem counter_msgs (b b1 b2 b3:Nat):msgsA counterF (askA [117,112] [(cntN [48] b b1 b2 b3,[])])=some [.num 1]:=by kernel_rfl
end Go.Proofs.YtifhgjpglicjbaaGreatDoor
namespace Go.Proofs.YtifhgjpglicjbaaGreatDoor
open Go.Proofs.Tryz
open Go.RowKit Go.Lib
attribute [local go_sem ↓] Go.wp_at_zero Go.wp_at_succ
def cntB:ByteArray:=⟨#[40,102,117,110,32,111,100,100,32,40,98,41,32,40,105,102,32,98,32,39,116,104,114,101,101,39,32,39,111,116,104,101,114,39,41,41,32,40,102,117,110,32,105,110,105,116,32,40,41,32,48,41,32,40,102,117,110,32,117,112,100,97,116,101,32,40,109,32,110,41,32,40,97,100,100,32,110,32,109,41,41,32,40,102,117,110,32,118,105,101,119,32,40,110,41,32,40,108,105,115,116,32,39,101,108,39,32,39,112,39,32,40,108,105,115,116,32,40,108,105,115,116,32,39,111,110,39,32,39,117,112,39,32,49,41,32,40,108,105,115,116,32,39,105,100,39,32,39,120,39,41,41,32,40,108,105,115,116,32,110,32,40,108,105,115,116,32,39,108,97,122,121,39,32,39,111,100,100,39,32,40,101,113,32,110,32,51,41,41,41,41,41]⟩
theorem cntB_list:cntB.data.toList=counterL:=by kernel_rfl
def cntT0:ByteArray:=⟨#[60,112,35,49,32,105,100,61,39,120,39,62,35,50,32,39,48,39,35,51,32,39,111,116,104,101,114,39,60,47,112,62]⟩
def cntT1:ByteArray:=⟨#[60,112,35,49,32,105,100,61,39,120,39,62,35,50,32,39,49,39,35,51,32,39,111,116,104,101,114,39,60,47,112,62]⟩
def upB:ByteArray:=⟨#[117,112]⟩
theorem known_calls (w:World)(E:Nat→Addr)(hE:Errs w E)(hG:FltG w)(hN:NumG w)(h15:15≤w.heap.size):
  Calls prog 14 #[.string cntB] w fun e w'=>∃ab,e=.returned (.tuple #[.pointer (some ⟨ab,0,none⟩),.nilIface]) ∧
   Calls prog 16 #[.pointer (some ⟨ab,0,none⟩)] w' fun e w'=>e=.returned .nilIface ∧
   Calls prog 17 #[.pointer (some ⟨ab,0,none⟩)] w' fun e w'=>e=.returned (.string cntT0) ∧
   Calls prog 23 #[.pointer (some ⟨ab,0,none⟩),.slice none 0 0,.string upB] w' fun e w'=>e=.returned (.tuple #[.int .i64 1,.nilIface]) ∧
   Calls prog 20 #[.pointer (some ⟨ab,0,none⟩),.int .i64 5] w' fun e w'=>e=.returned (.int .i64 1) ∧
   Calls prog 16 #[.pointer (some ⟨ab,0,none⟩)] w' fun e w'=>e=.returned .nilIface ∧
   Calls prog 17 #[.pointer (some ⟨ab,0,none⟩)] w' fun e w'=>e=.returned (.string cntT1)∧Below w.heap.size w w':=by
 have L:=counter_loads
 obtain⟨ts,rest,t1,t2,t3⟩:=L.ex
 have hs:cntB.size=counterL.length:=by kernel_rfl
 rw[←cntB_list] at t1
 rw[←hs] at t2
 refine (New_ok L.ok L.un cntB w E hE hG hN h15 (by rw[hs];decide +kernel) t1 t2 t3 (.num 0) counter_init).mono fun e w1 ⟨ab,c,he,hab,hb1,hA1⟩=>?_
 refine⟨ab,he,?_⟩
 refine (Frame_ok L.ok L.un hA1 (Or.inl rfl) (cntView 0 0) 10 cntK0 4 1 counter_view0 counter_look0 (by show 0≤900000000;omega) (by show 0≤900000000;omega) (by show 0≤900000000;omega)).mono fun e w2 ⟨n2,F2,he,hM2,hb2,hA2⟩=>?_
 refine⟨he,?_⟩
 obtain⟨b,b1,b2,b3,hn2⟩:=made0 hM2
 have e0:numA n2 (bareO (newA (.num 0) w.heap.size).shown) (newA (.num 0) w.heap.size).greatest=(cntN [48] b b1 b2 b3,3):=hn2
 rw[e0] at hA2
 have ht0:=counter_tree0 b b1 b2 b3
 refine (Tree_ok hA2 (n:=cntN [48] b b1 b2 b3) rfl (by show 3≤1000000000;omega) (by rw[ht0];decide)).mono fun e w3 ⟨he,hb3,hA3⟩=>?_
 refine⟨by rw[he,ht0];rfl,?_⟩
 refine (Event_ok L.ok L.un hA3 (n:=cntN [48] b b1 b2 b3) rfl [] (.slice none 0 0) ⟨rfl,Or.inl ⟨⟨none,0,rfl⟩,rfl⟩⟩ (by simp) (by simp) upB _ (counter_way b b1 b2 b3) (fun y hy=>?_) [.num 1] (counter_msgs b b1 b2 b3) (by show 0≤900000000;omega)).mono fun e w4 ⟨c4,he,hb4,hA4⟩=>?_
 ·rw[List.mem_singleton] at hy
  subst hy
  refine⟨by show 1≤1000;omega,fun x hx=>?_⟩
  have hx:x∈cntHs:=hx
  rw[cntHs,List.mem_singleton] at hx
  subst hx
  exact⟨by show okV (.num 1);rw[okV];unfold In64;omega,by show wtV (.num 1)≤600;rw[wtV];omega⟩
 refine⟨he,?_⟩
 refine (Pump_ok L.ok L.un hA4 5 1 (by omega) (.num 1) [] counter_up).mono fun e w5 ⟨c5,he,hb5,hA5⟩=>?_
 refine⟨he,?_⟩
 refine (Frame_ok L.ok L.un hA5 (Or.inr rfl) (cntView 1 0) 10 (cntK1 b2 b3) 4 0 counter_view1 (counter_look1 b b1 b2 b3) (by show 3≤900000000;omega) (by show 1≤900000000;omega) (by show 1≤900000000;omega)).mono fun e w6 ⟨n6,F6,he,hM6,hb6,hA6⟩=>?_
 refine⟨he,?_⟩
 obtain⟨d,d1,hn6⟩:=made1 (b:=b) (b1:=b1) hM6
 have ht1:=counter_tree1 d d1 b2 b3
 refine (Tree_ok hA6 (n:=cntN [49] d d1 b2 b3) ?_ ?_ (by rw[ht1];decide)).mono fun e w7 ⟨he,hb7,hA7⟩=>?_
 ·exact congrArg (fun x=>some x.1) hn6
 ·show (numA n6 (bareO (some (cntN [48] b b1 b2 b3))) 3).2≤1000000000
  rw[hn6]
  omega
 refine⟨by rw[he,ht1];rfl,?_⟩
 exact (((((hb1.trans (hb2.mono hab)).trans (hb3.mono hab)).trans (hb4.mono hab)).trans (hb5.mono hab)).trans (hb6.mono hab)).trans (hb7.mono hab)
theorem known_ok (w:World)(E:Nat→Addr)(hE:Errs w E)(hG:FltG w)(hN:NumG w)(h15:15≤w.heap.size):
  Calls prog 8 #[] w fun e w'=>e=.returned (.bool true)∧Below w.heap.size w w':=by
 have C:=known_calls w E hE hG hN h15
 unfold cntB cntT0 cntT1 upB at C
 go_enter func8,ntmps8
 go_wp2_with fail
 refine C.mono ?_
 rintro e w1 ⟨ab,rfl,C1⟩
 clear C
 go_wp2_with fail
 refine C1.mono ?_
 rintro e w2 ⟨rfl,C2⟩
 clear C1
 go_wp2_with fail
 refine C2.mono ?_
 rintro e w3 ⟨rfl,C3⟩
 clear C2
 go_wp2_with fail
 refine C3.mono ?_
 rintro e w4 ⟨rfl,C4⟩
 clear C3
 go_wp2_with fail
 refine C4.mono ?_
 rintro e w5 ⟨rfl,C5⟩
 clear C4
 go_wp2_with fail
 refine C5.mono ?_
 rintro e w6 ⟨rfl,C6⟩
 clear C5
 go_wp2_with fail
 refine C6.mono ?_
 rintro e w7 ⟨rfl,hb⟩
 clear C6
 go_wp2_with fail
 go_ret
 exact⟨rfl,hb⟩
end Go.Proofs.YtifhgjpglicjbaaGreatDoor
