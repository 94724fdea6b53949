/-
  Sums, plainly: what its programs give.
-/
import Derived.Test.YtifhgjpglicjbaaGreatDoorLkB
import Derived.Test.YtifhgjpglicjbaaGreatDoorBkB
namespace Go.Proofs.YtifhgjpglicjbaaGreatDoor
open Go.Lib Go.RowKit
def su0L:List UInt8:=[40,102,117,110,32,105,110,105,116,32,40,41,32,48,41,32,40,102,117,110,32,117,112,100,97,116,101,32,40,109,32,110,41,32,110,41,32,40,102,117,110,32,118,105,101,119,32,40,110,41,32,110,41,32,40,102,117,110,32,116,119,105,99,101,32,40,120,41,32,40,97,100,100,32,120,32,120,41,41,32,40,102,117,110,32,102,32,40,108,41,32,40,97,116,32,108,32,48,41,41]
def su0F:List Fn:=[⟨[105,110,105,116],5,[],.num [48]⟩,
 ⟨[117,112,100,97,116,101],21,[([109],29),([110],31)],.var [110] 34⟩,
 ⟨[118,105,101,119],42,[([110],48)],.var [110] 51⟩,
 ⟨[116,119,105,99,101],59,[([120],66)],.form [97,100,100] [] 70 [.var [120] 74,.var [120] 76]⟩,
 ⟨[102],85,[([108],88)],.form [97,116] [] 92 [.var [108] 95,.num [48]]⟩]
def su1L:List UInt8:=[40,102,117,110,32,105,110,105,116,32,40,41,32,48,41,32,40,102,117,110,32,117,112,100,97,116,101,32,40,109,32,110,41,32,110,41,32,40,102,117,110,32,118,105,101,119,32,40,110,41,32,110,41,32,40,102,117,110,32,116,119,105,99,101,32,40,120,41,32,40,97,100,100,32,120,32,120,41,41,32,40,102,117,110,32,102,32,40,97,32,98,32,108,41,32,40,108,105,115,116,32,40,97,100,100,32,97,32,98,41,32,40,115,117,98,32,97,32,98,41,32,40,109,117,108,32,97,32,98,41,32,40,108,101,115,115,32,97,32,98,41,32,40,101,113,32,97,32,98,41,32,40,108,101,110,32,108,41,32,40,109,97,112,32,116,119,105,99,101,32,108,41,32,40,101,113,32,108,32,40,106,111,105,110,32,108,32,40,108,105,115,116,41,41,41,41,41]
def su1F:List Fn:=[⟨[105,110,105,116],5,[],.num [48]⟩,
 ⟨[117,112,100,97,116,101],21,[([109],29),([110],31)],.var [110] 34⟩,
 ⟨[118,105,101,119],42,[([110],48)],.var [110] 51⟩,
 ⟨[116,119,105,99,101],59,[([120],66)],.form [97,100,100] [] 70 [.var [120] 74,.var [120] 76]⟩,
 ⟨[102],85,[([97],88),([98],90),([108],92)],.form [108,105,115,116] [] 96 [.form [97,100,100] [] 102 [.var [97] 106,.var [98] 108],.form [115,117,98] [] 112 [.var [97] 116,.var [98] 118],.form [109,117,108] [] 122 [.var [97] 126,.var [98] 128],.form [108,101,115,115] [] 132 [.var [97] 137,.var [98] 139],.form [101,113] [] 143 [.var [97] 146,.var [98] 148],.form [108,101,110] [] 152 [.var [108] 156],.form [109,97,112] [116,119,105,99,101] 164 [.var [108] 170],.form [101,113] [] 174 [.var [108] 177,.form [106,111,105,110] [] 180 [.var [108] 185,.form [108,105,115,116] [] 188 []]]]⟩]
def su2L:List UInt8:=[40,102,117,110,32,105,110,105,116,32,40,41,32,48,41,32,40,102,117,110,32,117,112,100,97,116,101,32,40,109,32,110,41,32,110,41,32,40,102,117,110,32,118,105,101,119,32,40,110,41,32,110,41,32,40,102,117,110,32,116,119,105,99,101,32,40,120,41,32,40,97,100,100,32,120,32,120,41,41,32,40,102,117,110,32,102,32,40,105,32,98,32,108,41,32,40,108,105,115,116,32,40,97,116,32,108,32,105,41,32,40,115,101,116,32,108,32,105,32,98,41,41,41]
def su2F:List Fn:=[⟨[105,110,105,116],5,[],.num [48]⟩,
 ⟨[117,112,100,97,116,101],21,[([109],29),([110],31)],.var [110] 34⟩,
 ⟨[118,105,101,119],42,[([110],48)],.var [110] 51⟩,
 ⟨[116,119,105,99,101],59,[([120],66)],.form [97,100,100] [] 70 [.var [120] 74,.var [120] 76]⟩,
 ⟨[102],85,[([105],88),([98],90),([108],92)],.form [108,105,115,116] [] 96 [.form [97,116] [] 102 [.var [108] 105,.var [105] 107],.form [115,101,116] [] 111 [.var [108] 115,.var [105] 117,.var [98] 119]]⟩]
def su3L:List UInt8:=[40,102,117,110,32,105,110,105,116,32,40,41,32,48,41,32,40,102,117,110,32,117,112,100,97,116,101,32,40,109,32,110,41,32,110,41,32,40,102,117,110,32,118,105,101,119,32,40,110,41,32,110,41,32,40,102,117,110,32,116,119,105,99,101,32,40,120,41,32,40,97,100,100,32,120,32,120,41,41,32,40,102,117,110,32,102,32,40,105,32,108,41,32,40,97,116,32,108,32,105,41,41]
def su3F:List Fn:=[⟨[105,110,105,116],5,[],.num [48]⟩,
 ⟨[117,112,100,97,116,101],21,[([109],29),([110],31)],.var [110] 34⟩,
 ⟨[118,105,101,119],42,[([110],48)],.var [110] 51⟩,
 ⟨[116,119,105,99,101],59,[([120],66)],.form [97,100,100] [] 70 [.var [120] 74,.var [120] 76]⟩,
 ⟨[102],85,[([105],88),([108],90)],.form [97,116] [] 94 [.var [108] 97,.var [105] 99]⟩]
theorem su0_loads:Loads su0L su0F:=loads_of (by kernel_rfl) (by decide +kernel)
theorem su1_loads:Loads su1L su1F:=loads_of (by kernel_rfl) (by decide +kernel)
theorem su2_loads:Loads su2L su2F:=loads_of (by kernel_rfl) (by decide +kernel)
theorem su3_loads:Loads su3L su3F:=loads_of (by kernel_rfl) (by decide +kernel)
def numsV (l:List Int):List PV:=l.map PV.num
theorem numsV_wt:∀l:List Int,wtVs (numsV l)=l.length
 | []=>rfl
 | z::r=>by
  show wtV (.num z)+wtVs (numsV r)=_
  rw[wtV,numsV_wt r]
  simp
  omega
theorem numsV_ok:∀{l:List Int},(∀z∈l,In64 z)→okVs (numsV l)∧quotVs (numsV l)
 | [],_=>⟨by show okVs [];rw[okVs];trivial,by show quotVs [];rw[quotVs];trivial⟩
 | z::r,h=>by
  have ih:=numsV_ok (l:=r) fun x hx=>h x (by simp[hx])
  refine⟨?_,?_⟩
  ·show okVs (.num z::numsV r)
   rw[okVs,okV]
   exact⟨h z (by simp),ih.1⟩
  ·show quotVs (.num z::numsV r)
   rw[quotVs,quotV]
   exact⟨trivial,ih.2⟩
def dblA (z:Int):Int:=wrap64 (z+z)
theorem su_twice (f k:Nat)(z:Int):evC (evE su1F (f+2)) su1F (k+3) [116,119,105,99,101] [.num z]=some (.num (dblA z),k):=by kernel_rfl
theorem su_map (f:Nat):∀(l:List Int) (k:Nat),evM (fun k v=>evC (evE su1F (f+2)) su1F k [116,119,105,99,101] [v]) (k+3*l.length) (numsV l)=some (numsV (l.map dblA),k)
 | [],k=>rfl
 | z::r,k=>by
  show evM _ _ (.num z::numsV r)=_
  have e:k+3*(z::r).length=(k+3*r.length)+3:=by simp;omega
  rw[e,evM,su_twice]
  simp only
  rw[su_map f r k]
  rfl
def su1k1:Ex:=.form [97,100,100] [] 102 [.var [97] 106,.var [98] 108]
def su1k2:Ex:=.form [115,117,98] [] 112 [.var [97] 116,.var [98] 118]
def su1k3:Ex:=.form [109,117,108] [] 122 [.var [97] 126,.var [98] 128]
def su1k4:Ex:=.form [108,101,115,115] [] 132 [.var [97] 137,.var [98] 139]
def su1k5:Ex:=.form [101,113] [] 143 [.var [97] 146,.var [98] 148]
def su1k6:Ex:=.form [108,101,110] [] 152 [.var [108] 156]
def su1k7:Ex:=.form [109,97,112] [116,119,105,99,101] 164 [.var [108] 170]
def su1k8:Ex:=.form [101,113] [] 174 [.var [108] 177,.form [106,111,105,110] [] 180 [.var [108] 185,.form [108,105,115,116] [] 188 []]]
def su1B:Ex:=.form [108,105,115,116] [] 96 [su1k1,su1k2,su1k3,su1k4,su1k5,su1k6,su1k7,su1k8]
def env1 (a b:Int)(L:List PV):Env:=[([108],.lst L),([98],.num b),([97],.num a)]
theorem su1_reck (a b:Int)(L:List PV):reckP su1F [102] [.num a,.num b,.lst L]=(evE su1F 20000 20000 (env1 a b L) su1B).map (·.1):=by kernel_rfl
theorem su1_1 (f k:Nat)(a b:Int)(L:List PV):evE su1F (f+2) (k+3) (env1 a b L) su1k1=some (.num (wrap64 (a+b)),k):=by kernel_rfl
theorem su1_2 (f k:Nat)(a b:Int)(L:List PV):evE su1F (f+2) (k+3) (env1 a b L) su1k2=some (.num (wrap64 (a-b)),k):=by kernel_rfl
theorem su1_3 (f k:Nat)(a b:Int)(L:List PV):evE su1F (f+2) (k+3) (env1 a b L) su1k3=some (.num (wrap64 (a*b)),k):=by kernel_rfl
theorem su1_4 (f k:Nat)(a b:Int)(L:List PV):evE su1F (f+2) (k+3) (env1 a b L) su1k4=some (bitV (decide (a<b)),k):=by kernel_rfl
theorem su1_5 (f k:Nat)(a b:Int)(L:List PV):evE su1F (f+2) (k+3) (env1 a b L) su1k5=some (bitV (a==b),k):=by kernel_rfl
theorem su1_6 (f k:Nat)(a b:Int)(L:List PV):evE su1F (f+2) (k+2) (env1 a b L) su1k6=some (.num (L.length:Int),k):=by kernel_rfl
theorem su1_7 (f k:Nat)(a b:Int)(L:List PV):evE su1F (f+2) (k+2) (env1 a b L) su1k7=lightL (evM (fun k v=>evC (evE su1F (f+1)) su1F k [116,119,105,99,101] [v]) k L):=by kernel_rfl
theorem evL_cons {E:Nat→Ex→Option (PV×Nat)}{k k1 k2:Nat}{e:Ex}{es:List Ex}{v:PV}{vs:List PV}(h1:E k e=some (v,k1))(h2:evL E k1 es=some (vs,k2)):evL E k (e::es)=some (v::vs,k2):=by
 rw[evL,h1]
 simp only[h2]
theorem ev_list {F:List Fn}{f k k' p:Nat}{s:Env}{ks:List Ex}{vs:List PV}(h:evL (fun k e=>evE F f k s e) k ks=some (vs,k'))(hw:1+wtVs vs≤600):evE F (f+1) (k+1) s (.form [108,105,115,116] [] p ks)=some (.lst vs,k'):=by
 rw[evE,evX,if_neg (by decide),if_neg (by decide),h]
 show evF _ _ _ _ _ _=_
 unfold evF
 rw[if_pos rfl,lightL,wtV,if_pos hw]
theorem ev_op2 {F:List Fn}{f k k' p:Nat}{s:Env}{ks:List Ex}{wd:List UInt8}{x y v:PV}(h:evL (fun k e=>evE F f k s e) k ks=some ([x,y],k'))(h1:wd=[101,113]∨wd=[106,111,105,110]∨wd=[97,116])(hv:op2 wd x y=some v)(hw:wtV v≤600):evE F (f+1) (k+1) s (.form wd [] p ks)=some (v,k'):=by
 rw[evE,evX,if_neg (by rcases h1 with rfl | rfl | rfl<;>decide),if_neg (by rcases h1 with rfl | rfl | rfl<;>decide),h]
 show evF _ _ _ _ _ _=_
 unfold evF
 rw[if_neg (by rcases h1 with rfl | rfl | rfl<;>decide),if_neg (by rcases h1 with rfl | rfl | rfl<;>decide),if_neg (by rcases h1 with rfl | rfl | rfl<;>decide),simpleV,hv,lightV,if_pos hw]
 rfl
theorem ev_var {F:List Fn}{f k p:Nat}{s:Env}{n:List UInt8}{v:PV}(h:envOf s n=some v):evE F (f+1) (k+1) s (.var n p)=some (v,k):=by
 rw[evE,evX,h]
 rfl
theorem su1_8 (f k:Nat)(a b:Int)(L:List PV)(hw:1+wtVs L≤600):evE su1F (f+4) (k+5) (env1 a b L) su1k8=some (.num 1,k):=by
 unfold su1k8
 have hl:∀f k p,evE su1F (f+1) (k+1) (env1 a b L) (.var [108] p)=some (.lst L,k):=fun f k p=>ev_var rfl
 refine ev_op2 (x:=.lst L) (y:=.lst L) (evL_cons (hl _ _ _) (evL_cons (ev_op2 (x:=.lst L) (y:=.lst []) (v:=.lst L) (evL_cons (hl _ _ _) (evL_cons (ev_list rfl (by decide)) rfl)) (Or.inr (Or.inl rfl)) ?_ (by rw[wtV];exact hw)) rfl)) (Or.inl rfl) ?_ (by rw[wtV];omega)
 ·show some (PV.lst (L++[]))=_
  rw[List.append_nil]
 ·show some (bitV (sameV (.lst L) (.lst L)))=_
  rw[sameV_refl]
  rfl
def su1V (a b:Int)(l:List Int):PV:=.lst [.num (wrap64 (a+b)),.num (wrap64 (a-b)),.num (wrap64 (a*b)),bitV (decide (a<b)),bitV (a==b),.num (l.length:Int),.lst (numsV (l.map dblA)),.num 1]
theorem su1_val (a b:Int)(l:List Int)(hl:l.length≤100):reckP su1F [102] [.num a,.num b,.lst (numsV l)]=some (su1V a b l):=by
 rw[su1_reck]
 have hn:(numsV l).length=l.length:=by simp[numsV]
 have h7:evE su1F 19999 19982 (env1 a b (numsV l)) su1k7=some (.lst (numsV (l.map dblA)),19980-3*l.length):=by
  rw[su1_7 19997 19980]
  have:=su_map 19996 l (19980-3*l.length)
  rw[show 19980-3*l.length+3*l.length=19980 by omega] at this
  rw[this,lightL,wtV,numsV_wt,List.length_map,if_pos (by omega)]
 have h8:evE su1F 19999 (19980-3*l.length) (env1 a b (numsV l)) su1k8=some (.num 1,19975-3*l.length):=by
  rw[show 19980-3*l.length=(19975-3*l.length)+5 by omega]
  exact su1_8 19995 _ a b _ (by rw[numsV_wt];omega)
 have h6:evE su1F 19999 19984 (env1 a b (numsV l)) su1k6=some (.num (l.length:Int),19982):=by
  rw[su1_6 19997 19982,hn]
 have:evE su1F 20000 20000 (env1 a b (numsV l)) su1B=some (su1V a b l,19975-3*l.length):=by
  refine ev_list (evL_cons (su1_1 19997 19996 a b _) (evL_cons (su1_2 19997 19993 a b _) (evL_cons (su1_3 19997 19990 a b _) (evL_cons (su1_4 19997 19987 a b _) (evL_cons (su1_5 19997 19984 a b _) (evL_cons h6 (evL_cons h7 (evL_cons h8 rfl)))))))) ?_
  simp only[wtVs,wtV,bitV,numsV_wt,List.length_map]
  omega
 rw[this]
 rfl
def su2B:Ex:=.form [108,105,115,116] [] 96 [.form [97,116] [] 102 [.var [108] 105,.var [105] 107],.form [115,101,116] [] 111 [.var [108] 115,.var [105] 117,.var [98] 119]]
def su3B:Ex:=.form [97,116] [] 94 [.var [108] 97,.var [105] 99]
theorem su0_val:reckP su0F [102] [.lst []]=none:=by kernel_rfl
def env2 (i b:Int)(L:List PV):Env:=[([108],.lst L),([98],.num b),([105],.num i)]
def env3 (i:Int)(L:List PV):Env:=[([108],.lst L),([105],.num i)]
theorem su2_reck (i b:Int)(L:List PV):reckP su2F [102] [.num i,.num b,.lst L]=(evE su2F 20000 20000 (env2 i b L) su2B).map (·.1):=by kernel_rfl
theorem su3_reck (i:Int)(L:List PV):reckP su3F [102] [.num i,.lst L]=(evE su3F 20000 20000 (env3 i L) su3B).map (·.1):=by kernel_rfl
theorem ev_set {F:List Fn}{f k k' p:Nat}{s:Env}{ks:List Ex}{x y z v:PV}(h:evL (fun k e=>evE F f k s e) k ks=some ([x,y,z],k'))(hv:set3 x y z=some v)(hw:wtV v≤600):evE F (f+1) (k+1) s (.form [115,101,116] [] p ks)=some (v,k'):=by
 rw[evE,evX,if_neg (by decide),if_neg (by decide),h]
 show evF _ _ _ _ _ _=_
 unfold evF
 rw[if_neg (by decide),if_neg (by decide),if_neg (by decide),simpleV,hv,lightV,if_pos hw]
 rfl
theorem ev_no {F:List Fn}{f k k' p:Nat}{s:Env}{ks:List Ex}{x y:PV}(h:evL (fun k e=>evE F f k s e) k ks=some ([x,y],k'))(hv:op2 [97,116] x y=none):evE F (f+1) (k+1) s (.form [97,116] [] p ks)=none:=by
 rw[evE,evX,if_neg (by decide),if_neg (by decide),h]
 show evF _ _ _ _ _ _=_
 unfold evF
 rw[if_neg (by decide),if_neg (by decide),if_neg (by decide),simpleV,hv,lightV]
 rfl
def su2V (k:Nat)(b:Int)(l:List Int):PV:=.lst [.num (l.getD k 0),.lst (numsV (l.set k b))]
theorem su2_val (k:Nat)(b:Int)(l:List Int)(hl:l.length≤100)(hk:k<l.length):reckP su2F [102] [.num (k:Int),.num b,.lst (numsV l)]=some (su2V k b l):=by
 rw[su2_reck]
 have hn:(numsV l).length=l.length:=by simp[numsV]
 have vl:∀f k' p,evE su2F (f+1) (k'+1) (env2 k b (numsV l)) (.var [108] p)=some (.lst (numsV l),k'):=fun f k' p=>ev_var rfl
 have vi:∀f k' p,evE su2F (f+1) (k'+1) (env2 k b (numsV l)) (.var [105] p)=some (.num (k:Int),k'):=fun f k' p=>ev_var rfl
 have vb:∀f k' p,evE su2F (f+1) (k'+1) (env2 k b (numsV l)) (.var [98] p)=some (.num b,k'):=fun f k' p=>ev_var rfl
 have:evE su2F 20000 20000 (env2 k b (numsV l)) su2B=some (su2V k b l,19992):=by
  unfold su2B su2V
  refine ev_list (evL_cons (ev_op2 (v:=.num (l.getD k 0)) (evL_cons (vl _ _ _) (evL_cons (vi _ _ _) rfl)) (Or.inr (Or.inr rfl)) ?_ (by rw[wtV];omega)) (evL_cons (ev_set (v:=.lst (numsV (l.set k b))) (evL_cons (vl _ _ _) (evL_cons (vi _ _ _) (evL_cons (vb _ _ _) rfl))) ?_ ?_) rfl)) ?_
  ·show atV (numsV l) (k:Int)=_
   unfold atV
   rw[if_pos (by omega)]
   simp[numsV,hk]
  ·show setV (numsV l) (k:Int) (.num b)=_
   unfold setV
   rw[if_pos (by omega)]
   simp[numsV]
  ·rw[wtV,numsV_wt,List.length_set]
   omega
  ·simp only[wtVs,wtV,numsV_wt,List.length_set]
   omega
 rw[this]
 rfl
theorem su3_val (i:Nat)(l:List Int)(hi:l.length≤i):reckP su3F [102] [.num (i:Int),.lst (numsV l)]=none:=by
 rw[su3_reck]
 have vl:∀f k' p,evE su3F (f+1) (k'+1) (env3 i (numsV l)) (.var [108] p)=some (.lst (numsV l),k'):=fun f k' p=>ev_var rfl
 have vi:∀f k' p,evE su3F (f+1) (k'+1) (env3 i (numsV l)) (.var [105] p)=some (.num (i:Int),k'):=fun f k' p=>ev_var rfl
 have:evE su3F 20000 20000 (env3 i (numsV l)) su3B=none:=by
  unfold su3B
  refine ev_no (evL_cons (vl _ _ _) (evL_cons (vi _ _ _) rfl)) ?_
  show atV (numsV l) (i:Int)=_
  unfold atV
  rw[if_pos (by omega)]
  simp[numsV,hi]
 rw[this]
 rfl
end Go.Proofs.YtifhgjpglicjbaaGreatDoor
namespace Go.Proofs.YtifhgjpglicjbaaGreatDoor
open Go.RowKit Go.Lib
def suH:ByteArray:=⟨#[40,102,117,110,32,105,110,105,116,32,40,41,32,48,41,32,40,102,117,110,32,117,112,100,97,116,101,32,40,109,32,110,41,32,110,41,32,40,102,117,110,32,118,105,101,119,32,40,110,41,32,110,41,32,40,102,117,110,32,116,119,105,99,101,32,40,120,41,32,40,97,100,100,32,120,32,120,41,41,32]⟩
def suT0:ByteArray:=⟨#[40,102,117,110,32,102,32,40,108,41,32,40,97,116,32,108,32,48,41,41]⟩
theorem suT0_list:(suH++suT0).data.toList=su0L:=by kernel_rfl
def suT1:ByteArray:=⟨#[40,102,117,110,32,102,32,40,97,32,98,32,108,41,32,40,108,105,115,116,32,40,97,100,100,32,97,32,98,41,32,40,115,117,98,32,97,32,98,41,32,40,109,117,108,32,97,32,98,41,32,40,108,101,115,115,32,97,32,98,41,32,40,101,113,32,97,32,98,41,32,40,108,101,110,32,108,41,32,40,109,97,112,32,116,119,105,99,101,32,108,41,32,40,101,113,32,108,32,40,106,111,105,110,32,108,32,40,108,105,115,116,41,41,41,41,41]⟩
theorem suT1_list:(suH++suT1).data.toList=su1L:=by kernel_rfl
def suT2:ByteArray:=⟨#[40,102,117,110,32,102,32,40,105,32,98,32,108,41,32,40,108,105,115,116,32,40,97,116,32,108,32,105,41,32,40,115,101,116,32,108,32,105,32,98,41,41,41]⟩
theorem suT2_list:(suH++suT2).data.toList=su2L:=by kernel_rfl
def suT3:ByteArray:=⟨#[40,102,117,110,32,102,32,40,105,32,108,41,32,40,97,116,32,108,32,105,41,41]⟩
theorem suT3_list:(suH++suT3).data.toList=su3L:=by kernel_rfl
def fB:ByteArray:=⟨#[102]⟩
abbrev arr (l:List UInt8):ByteArray:=⟨l.toArray⟩
def pre (l:List Int):ByteArray:=arr (40::wrVs (numsV l))
def sepB (i:Nat):ByteArray:=if i=0 then ⟨#[]⟩ else ⟨#[32]⟩
theorem pre_snoc (l:List Int)(z:Int):pre l++sepB l.length++arr (itoa z)=pre (l++[z]):=by
 have e:wrVs (numsV (l++[z]))=if l=[] then itoa z else wrVs (numsV l)++32::itoa z:=by
  have:numsV (l++[z])=numsV l++[.num z]:=by simp[numsV]
  rw[this,wrVs_snoc]
  have h0:numsV l=[] ↔ l=[]:=by simp[numsV]
  by_cases h:l=[]
  ·rw[if_pos (h0.2 h),if_pos h,wrV]
  ·rw[if_neg (fun hh=>h (h0.1 hh)),if_neg h,wrV]
 unfold pre sepB
 rw[e]
 by_cases h:l=[]
 ·subst h
  apply ByteArray.ext
  simp[numsV,wrVs,arr]
 ·rw[if_neg (by simpa using h),if_neg h]
  apply ByteArray.ext
  simp[arr]
theorem pre_end (l:List Int):pre l++⟨#[41]⟩=arr (wrV (.lst (numsV l))):=by
 unfold pre
 rw[wrV]
 apply ByteArray.ext
 simp[arr]
theorem arr_size (l:List UInt8):(arr l).size=l.length:=by rw[←tl_size,arr_data]
theorem nums_len {l:List Int}(h:∀z∈l,In64 z)(hl:l.length≤100):(wrV (.lst (numsV l))).length≤3000:=by
 have:=wrV_len (.lst (numsV l)) (by rw[okV];exact (numsV_ok h).1)
 rw[wtV,numsV_wt] at this
 omega
theorem pre_size {l:List Int}(h:∀z∈l,In64 z)(hl:l.length≤100):(pre l).size≤3000:=by
 have:=nums_len h hl
 rw[wrV] at this
 unfold pre
 rw[arr_size]
 simp at this ⊢
 omega
theorem wrap_in (n:Int):In64 (wrap64 n):=by
 unfold In64 wrap64
 omega
theorem dbl_in (z:Int):In64 (dblA z):=wrap_in _
theorem readN (z:Int)(h:In64 z):readV (itoa z)=some (.num z):=by
 have:=readV_wr (v:=.num z) (by rw[okV];exact h) (by rw[quotV];trivial) (by rw[wtV];omega)
 rw[wrV] at this
 exact this
theorem readL {l:List Int}(h:∀z∈l,In64 z)(hl:l.length≤100):readV (wrV (.lst (numsV l)))=some (.lst (numsV l)) :=
 readV_wr (by rw[okV];exact (numsV_ok h).1) (by rw[quotV];exact (numsV_ok h).2) (by rw[wtV,numsV_wt];omega)
theorem readAll1 {a:List UInt8}{u:PV}(h1:readV a=some u):readAllV [a]=some [u]:=by simp[readAllV,h1]
theorem readAll3 {a b c:List UInt8}{u v t:PV}(h1:readV a=some u)(h2:readV b=some v)(h3:readV c=some t):readAllV [a,b,c]=some [u,v,t]:=by simp[readAllV,h1,h2,h3]
theorem su1_k {a b:Int}{l:List Int}(ha:In64 a)(hb:In64 b)(h:∀z∈l,In64 z)(hl:l.length≤100):reckK su1F [102] [itoa a,itoa b,wrV (.lst (numsV l))]=some (wrV (su1V a b l)):=by
 unfold reckK
 rw[readAll3 (readN a ha) (readN b hb) (readL h hl)]
 simp only[su1_val a b l hl]
 rfl
theorem su0_k:reckK su0F [102] [wrV (.lst (numsV []))]=none:=by
 unfold reckK
 rw[readAll1 (readL (l:=[]) (fun z hz=>by simp at hz) (by simp))]
 show (reckP su0F [102] [.lst []]).map wrV=none
 rw[su0_val]
 rfl
theorem su2_k {k:Nat}{b:Int}{l:List Int}(hb:In64 b)(h:∀z∈l,In64 z)(hl:l.length≤100)(hk:k<l.length):reckK su2F [102] [itoa (k:Int),itoa b,wrV (.lst (numsV l))]=some (wrV (su2V k b l)):=by
 unfold reckK
 rw[readAll3 (readN k (by unfold In64;omega)) (readN b hb) (readL h hl)]
 simp only[su2_val k b l hl hk]
 rfl
theorem su3_k {i:Nat}{l:List Int}(h:∀z∈l,In64 z)(hl:l.length≤100)(hi:l.length≤i)(hi2:i≤1000):reckK su3F [102] [itoa (i:Int),wrV (.lst (numsV l))]=none:=by
 unfold reckK
 rw[readAll2 (readN i (by unfold In64;omega)) (readL h hl)]
 simp only[su3_val i l hi]
 rfl
theorem su1_wr (a b:Int)(l:List Int):arr (wrV (su1V a b l))=⟨#[40]⟩++arr (itoa (wrap64 (a+b)))++⟨#[32]⟩++arr (itoa (wrap64 (a-b)))++⟨#[32]⟩++arr (itoa (wrap64 (a*b)))++⟨#[32]⟩++arr (itoa (if a<b then 1 else 0))++⟨#[32]⟩++arr (itoa (if a=b then 1 else 0))++⟨#[32]⟩++arr (itoa (l.length:Int))++⟨#[32]⟩++arr (wrV (.lst (numsV (l.map dblA))))++⟨#[32,49,41]⟩:=by
 have e1:bitV (decide (a<b))=.num (if a<b then 1 else 0):=by unfold bitV;simp
 have e2:bitV (a==b)=.num (if a=b then 1 else 0):=by unfold bitV;simp
 unfold su1V
 rw[e1,e2,wrV]
 simp only[wrVs,wrT]
 rw[show wrV (.num 1)=[49] by rw[wrV,itoa_1]]
 simp only[wrV]
 apply ByteArray.ext
 simp[arr]
theorem su2_wr (k:Nat)(b:Int)(l:List Int):arr (wrV (su2V k b l))=⟨#[40]⟩++arr (itoa (l.getD k 0))++⟨#[32]⟩++arr (wrV (.lst (numsV (l.set k b))))++⟨#[41]⟩:=by
 unfold su2V
 rw[wrV]
 simp only[wrVs,wrT]
 simp only[wrV]
 apply ByteArray.ext
 simp[arr]
end Go.Proofs.YtifhgjpglicjbaaGreatDoor
