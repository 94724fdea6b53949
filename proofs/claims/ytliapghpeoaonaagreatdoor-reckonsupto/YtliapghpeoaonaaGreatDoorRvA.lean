/-
  The reference: what a value weighs.
-/
import Derived.Test.YtliapghpeoaonaaGreatDoorTouch
import Derived.WalkKit
import Derived.WalkSpells
import Derived.WalkLawsBesides
import Derived.Deep.LoopGhost
import Derived.Deep.DrawnRows
import Derived.Outline
set_option maxHeartbeats 2000000
namespace Go.Proofs.YtliapghpeoaonaaGreatDoor
open Go.Proofs.Tryz
open Go.RowKit
attribute [local go_sem ↓] Go.wp_at_zero Go.wp_at_succ
abbrev Zce (a b c d:Value):Obj:=.cells #[a,b,c,d] 46
theorem Zmv (l:List PV)(j:Nat)(hj:j<l.length):Zbh (l.take (j+1))=Zbh (l.take j)+wtV l[j]:=by
 rw[List.take_succ_eq_append_getElem hj,Zz0]
theorem Zfy (l:List PV)(j:Nat):Zbh (l.take j)≤Zbh l:=by
 conv=>rhs;rw[←List.take_append_drop j l]
 rw[Zgp]
 omega
theorem Zkd {w wr:World}{a b c d:Value}(hb:Below (w.heap.size+1) (w.alloc (Zce a b c d)) wr):wr.cell? ⟨w.heap.size,0,none⟩=some a∧wr.cell? ⟨w.heap.size,1,none⟩=some b∧wr.cell? ⟨w.heap.size,2,none⟩=some c∧wr.cell? ⟨w.heap.size,3,none⟩=some d:=by
 have h:∀j,wr.cell? ⟨w.heap.size,j,none⟩=(w.alloc (Zce a b c d)).cell? ⟨w.heap.size,j,none⟩:=fun j=>hb.cell (p:=⟨w.heap.size,j,none⟩) (Nat.lt_succ_self _)
 have hn:(w.alloc (Zce a b c d)).heap[w.heap.size]?=some (Zce a b c d):=heap_alloc_new _ _
 rw[h,h,h,h]
 refine⟨?_,?_,?_,?_⟩<;>(unfold World.cell?;rw[hn];rfl)
theorem Zhx        (D : Nat → Prop) : ∀ (n : Nat) (v : PV) (x : Value) (w : World), wtV v ≤ n → n ≤ 1000000000 → RV w D v x →
    Calls Tryz.prog 70 #[x] w fun e w' => e = .returned (.int .i64 ((wtV v : Nat) : Int)) ∧ Below w.heap.size w w'
  | 0, v, x, w, h0, _, _ => by have := Zf1     v; omega
  | n + 1, v, x, w, hn, hm, hv => by
    have ih := Zhx        D n
    cases v with
    | num z =>
      rw [RV] at hv
      subst hv
      rw [wtV]
      go_enter Tryz.func70, Tryz.ntmps70
      go_wp2
      go_loop [3, 4] (fun n i => n = .int .i64 1 ∧ i = .int .i64 0) (fun _ _ => 0)
      case atStart => exact ⟨rfl, rfl⟩
      case round =>
        obtain ⟨rfl, rfl⟩ := hrel
        go_wp2
        go_ret
        exact ⟨rfl, Zab    w _⟩
    | txt b =>
      rw [RV] at hv
      obtain ⟨s, rfl, rfl⟩ := hv
      rw [wtV] at hn ⊢
      have hs : s.size ≤ 1000000000 := by have : s.data.toList.length = s.size := by simp
                                          omega
      go_enter Tryz.func70, Tryz.ntmps70
      go_wp2
      go_loop [3, 4] (fun n i => n = .int .i64 (1 + (s.size : Int)) ∧ i = .int .i64 0) (fun _ _ => 0)
      case atStart => exact ⟨rfl, rfl⟩
      case round =>
        obtain ⟨rfl, rfl⟩ := hrel
        go_wp2
        go_ret
        exact ⟨by simp, Zab    w _⟩
    | lst l =>
      rw [RV] at hv
      obtain ⟨sl, cs, rfl, hseg, hvs⟩ := hv
      obtain ⟨ad, cap, rfl⟩ := hseg.slice
      rw [wtV] at hn ⊢
      have hl := Zdd      l
      go_enter Tryz.func70, Tryz.ntmps70
      go_wp2
      go_loopg [3, 4] l.length (fun gh nv iv wr => ∃ q : Nat, gh = l.length - q ∧ iv = .int .i64 ((q : Nat) : Int) ∧ q ≤ l.length ∧ nv = .int .i64 ((1 + Zbh  (l.take q) : Nat) : Int) ∧ Below (w.heap.size + 1) (w.alloc (Zce  (.int .u8 108) (.int .i64 0) (.string ⟨#[]⟩) (.slice ad l.length cap))) wr)
      case atStart => exact ⟨0, by omega, rfl, by omega, rfl, Below.refl _ _⟩
      case round =>
        obtain ⟨q, rfl, rfl, hq, rfl, hbw⟩ := hrel
        have hBw : Below w.heap.size w wr := (Zab    w _).trans (hbw.mono (by simp))
        obtain ⟨_, _, _, o3⟩ := Zkd       hbw
        by_cases hlt : q < l.length
        · obtain ⟨g, o, c', hsv, _, hc1, hc2, hcell⟩ := (hseg.below hBw).cell (by omega)
          simp only [Value.slice.injEq] at hsv
          obtain ⟨rfl, _, rfl⟩ := hsv
          obtain ⟨va, vb, vc, vd, e0, e1, e2, e3, hrv⟩ := (hvs.below hBw).at q hlt
          have k0 : wr.cell? ⟨g, o + q * 4, none⟩ = some va := by rw [hcell _ (by omega)]; exact e0
          have k1 : wr.cell? ⟨g, o + q * 4 + 1, none⟩ = some vb := by rw [Nat.add_assoc, hcell _ (by omega)]; exact e1
          have k2 : wr.cell? ⟨g, o + q * 4 + 2, none⟩ = some vc := by rw [Nat.add_assoc, hcell _ (by omega)]; exact e2
          have k3 : wr.cell? ⟨g, o + q * 4 + 3, none⟩ = some vd := by rw [Nat.add_assoc, hcell _ (by omega)]; exact e3
          have hw := Zix     l q hlt
          have cw := ih l[q] (.agg #[va, vb, vc, vd]) wr (by omega) (by omega) hrv
          have ht := Zmv       l q hlt
          have hle := Zfy          l (q + 1)
          have hlit : Aside (Zbh  (l.take (q + 1)) = Zbh  (l.take q) + wtV l[q]) := ht
          rw [ht] at hle
          clear ht hcell
          unfold maxLen at hc2
          generalize wtV l[q] = W at *
          generalize Zbh  (l.take q) = Z at *
          go_wp2_with (go_at_call 70; refine cw.mono ?_; rintro e w2 ⟨rfl, hb2⟩)
          go_roundg (l.length - (q + 1))
          all_goals first
            | omega
            | exact ⟨q + 1, rfl, by go_num, by omega, by rw [hlit.out]; go_num, hbw.trans (hb2.mono (by have := hbw.size; simp at this; omega))⟩
        · go_wp2
          go_ret
          exact ⟨by rw [List.take_of_length_le (by omega)]; rfl, hBw⟩
theorem Ziy (s:ByteArray):s.data.toList.length=s.size:=by rw[Array.length_toList];rfl
mutual
def VL (w:World)(D:Nat→Prop):PV→Value→Prop
 | .num z,x=>x=.iface 228 (.int .i64 z)
 | .txt b,x=>∃s:ByteArray,s.data.toList=b∧x=.iface 231 (.string s)
 | .lst l,x=>∃sl cs,x=.iface 233 (.agg #[sl,.int .i64 ((Zbh l:Nat):Int)])∧Zar w D 81 1 sl l.length cs∧VLs w D l cs
def VLs (w:World)(D:Nat→Prop):List PV→List Value→Prop
 | [],cs=>cs=[]
 | v::r,cs=>∃x xs,cs=x::xs∧VL w D v x∧VLs w D r xs
end
mutual
theorem VL.map {w w':World}{D D':Nat→Prop}(hR:∀sl n vs,Zar w D 81 1 sl n vs→Zar w' D' 81 1 sl n vs):∀{v:PV} {x:Value},VL w D v x→VL w' D' v x
 | .num z,x,h=>by rw[VL] at h ⊢;exact h
 | .txt b,x,h=>by rw[VL] at h ⊢;exact h
 | .lst l,x,h=>by
  rw[VL] at h ⊢
  obtain⟨sl,cs,h1,h2,h3⟩:=h
  exact⟨sl,cs,h1,hR _ _ _ h2,VLs.map hR h3⟩
theorem VLs.map {w w':World}{D D':Nat→Prop}(hR:∀sl n vs,Zar w D 81 1 sl n vs→Zar w' D' 81 1 sl n vs):∀{l:List PV} {cs:List Value},VLs w D l cs→VLs w' D' l cs
 | [],cs,h=>by rw[VLs] at h ⊢;exact h
 | v::r,cs,h=>by
  rw[VLs] at h ⊢
  obtain⟨x,xs,h1,h2,h3⟩:=h
  exact⟨x,xs,h1,VL.map hR h2,VLs.map hR h3⟩
end
theorem VL.weaken {w:World}{D D':Nat→Prop}(hD:∀k,D k→D' k){v:PV}{x:Value}(h:VL w D v x):VL w D' v x:=h.map fun _ _ _ g=>g.weaken hD
theorem VLs.weaken {w:World}{D D':Nat→Prop}(hD:∀k,D k→D' k){v:List PV}{x:List Value}(h:VLs w D v x):VLs w D' v x:=h.map fun _ _ _ g=>g.weaken hD
theorem VL.below {w w':World}{D:Nat→Prop}{v:PV}{x:Value}(h:VL w D v x)(hb:Below w.heap.size w w'):VL w' D v x:=h.map fun _ _ _ g=>g.below hb
theorem VLs.below {w w':World}{D:Nat→Prop}{v:List PV}{x:List Value}(h:VLs w D v x)(hb:Below w.heap.size w w'):VLs w' D v x:=h.map fun _ _ _ g=>g.below hb
theorem VL.touch {w w':World}{D S:Nat→Prop}{v:PV}{x:Value}(h:VL w D v x)(ht:Zaa S w w')(hD:∀k,D k→¬ S k):VL w' D v x:=h.map fun _ _ _ g=>g.touch ht hD
theorem VLs.touch {w w':World}{D S:Nat→Prop}{v:List PV}{x:List Value}(h:VLs w D v x)(ht:Zaa S w w')(hD:∀k,D k→¬ S k):VLs w' D v x:=h.map fun _ _ _ g=>g.touch ht hD
theorem VLs.length {w:World}{D:Nat→Prop}:∀{l:List PV} {cs:List Value},VLs w D l cs→cs.length=l.length
 | [],cs,h=>by rw[VLs] at h;rw[h];rfl
 | v::r,cs,h=>by
  rw[VLs] at h
  obtain⟨x,xs,rfl,_,h3⟩:=h
  simp[VLs.length h3]
theorem VLs.at {w:World}{D:Nat→Prop}:∀{l:List PV} {cs:List Value},VLs w D l cs→∀j (hj:j<l.length),∃x,cs[j]?=some x∧VL w D l[j] x
 | [],cs,h,j,hj=>by simp at hj
 | v::r,cs,h,j,hj=>by
  rw[VLs] at h
  obtain⟨x,xs,rfl,h2,h3⟩:=h
  cases j with
  | zero=>exact⟨x,rfl,h2⟩
  | succ j =>
   obtain⟨y,e,hy⟩:=VLs.at h3 j (by simpa using hj)
   exact⟨y,by simpa using e,by simpa using hy⟩
theorem VLs.append {w:World}{D:Nat→Prop}{b:List PV}{bs:List Value}(hb:VLs w D b bs):∀{a:List PV} {cs:List Value},VLs w D a cs→VLs w D (a++b) (cs++bs)
 | [],cs,h=>by rw[VLs] at h;subst h;exact hb
 | v::r,cs,h=>by
  rw[VLs] at h
  obtain⟨x,xs,rfl,h2,h3⟩:=h
  rw[List.cons_append,List.cons_append,VLs]
  exact⟨x,xs++bs,rfl,h2,VLs.append hb h3⟩
theorem VLs.one {w:World}{D:Nat→Prop}{v:PV}{x:Value}(h:VL w D v x):VLs w D [v] [x]:=by
 rw[VLs]
 exact⟨x,[],rfl,h,by rw[VLs]⟩
theorem VL.iface {w:World}{D:Nat→Prop}{v:PV}{x:Value}(h:VL w D v x):∃t y,x=.iface t y:=by
 cases v with
 | num z=>rw[VL] at h;exact⟨_,_,h⟩
 | txt b=>rw[VL] at h;obtain⟨s,_,h⟩:=h;exact⟨_,_,h⟩
 | lst l=>rw[VL] at h;obtain⟨_,_,h,_⟩:=h;exact⟨_,_,h⟩
theorem Zdi (x:Value)(w:World):(Instr.typeAssert (.iface 228 x) 81 228 true).run prog w=.ok (.tuple #[x,.bool true]) w:=by kernel_rfl
theorem Zdh (x:Value)(w:World):(Instr.typeAssert (.iface 228 x) 81 231 true).run prog w=.ok (.tuple #[.string ⟨#[]⟩,.bool false]) w:=by kernel_rfl
theorem Zdj (x:Value)(w:World):(Instr.typeAssert (.iface 228 x) 81 233 true).run prog w=.ok (.tuple #[.agg #[.slice none 0 0,.int .i64 0],.bool false]) w:=by kernel_rfl
theorem Zdf (x:Value)(w:World):(Instr.typeAssert (.iface 231 x) 81 228 true).run prog w=.ok (.tuple #[.int .i64 0,.bool false]) w:=by kernel_rfl
theorem Zde (x:Value)(w:World):(Instr.typeAssert (.iface 231 x) 81 231 true).run prog w=.ok (.tuple #[x,.bool true]) w:=by kernel_rfl
theorem Zdg (x:Value)(w:World):(Instr.typeAssert (.iface 231 x) 81 233 true).run prog w=.ok (.tuple #[.agg #[.slice none 0 0,.int .i64 0],.bool false]) w:=by kernel_rfl
theorem Zdl (x:Value)(w:World):(Instr.typeAssert (.iface 233 x) 81 228 true).run prog w=.ok (.tuple #[.int .i64 0,.bool false]) w:=by kernel_rfl
theorem Zdk (x:Value)(w:World):(Instr.typeAssert (.iface 233 x) 81 231 true).run prog w=.ok (.tuple #[.string ⟨#[]⟩,.bool false]) w:=by kernel_rfl
theorem Zdm (x:Value)(w:World):(Instr.typeAssert (.iface 233 x) 81 233 true).run prog w=.ok (.tuple #[x,.bool true]) w:=by kernel_rfl
attribute [local go_sem] Zdi Zdh Zdj Zdf Zde Zdg Zdl Zdk Zdm
theorem Zse (D:Nat→Prop)(v:PV)(x:Value)(w:World)(hv:VL w D v x)(hw:wtV v≤1000000000):
  Calls prog 194 #[x] w fun e w'=>e=.returned (.int .i64 ((wtV v:Nat):Int))∧Below w.heap.size w w':=by
 cases v with
 | num z =>
  rw[VL] at hv
  subst hv
  rw[wtV]
  go_enter func194,ntmps194
  go_wp2
  go_ret
  exact⟨rfl,Below.refl _ _⟩
 | txt b =>
  rw[VL] at hv
  obtain⟨s,hs,rfl⟩:=hv
  rw[wtV] at hw ⊢
  rw[←hs,Ziy] at hw ⊢
  go_enter func194,ntmps194
  go_wp2
  go_ret
  exact⟨by congr 2,Below.refl _ _⟩
 | lst l =>
  rw[VL] at hv
  obtain⟨sl,cs,rfl,h2,_⟩:=hv
  obtain⟨ad,cap,rfl⟩:=h2.slice
  rw[wtV] at hw ⊢
  clear h2
  generalize Zbh l=n at *
  go_enter func194,ntmps194
  go_wp2
  go_ret
  exact⟨by congr 2,Zab w _⟩
theorem clip_any (ad:Option Addr)(n cap:Nat)(w:World)(h1:n≤cap)(_h2:cap≤maxLen):
  Calls prog 212 #[.slice ad n cap] w fun e w'=>e=.returned (.slice ad n n)∧w'=w:=by
 unfold maxLen at _h2
 go_enter func212,ntmps212
 go_wp2
 go_ret
 exact⟨rfl,rfl⟩
theorem items_any (ad:Option Addr)(n cap:Nat)(z:Int)(w:World)(h1:n≤cap)(h2:cap≤maxLen):
  Calls prog 173 #[.agg #[.slice ad n cap,.int .i64 z]] w fun e w'=>e=.returned (.slice ad n n)∧Below w.heap.size w w':=by
 have cc:=fun w=>clip_any ad n cap w h1 h2
 go_enter func173,ntmps173
 go_wp2_with (go_at_call 212;refine (cc _).mono ?_;rintro e w' ⟨rfl,rfl⟩)
 go_ret
 exact⟨rfl,Zab w _⟩
theorem Zei (D:Nat→Prop)(l:List PV)(sl:Value)(cs:List Value)(w:World)(hseg:Zar w D 81 1 sl l.length cs)(hvs:VLs w D l cs)(hw:Zbh l≤1000000000):
  Calls prog 201 #[sl] w fun e w'=>e=.returned (.agg #[sl,.int .i64 ((Zbh l:Nat):Int)])∧Below w.heap.size w w':=by
 obtain⟨ad,cap,rfl⟩:=hseg.slice
 have bX:=Zab w (Obj.cells #[.slice none 0 0,.int .i64 0] 233)
 have hX:(w.alloc (Obj.cells #[.slice none 0 0,.int .i64 0] 233)).heap[w.heap.size]?=some (.cells #[.slice none 0 0,.int .i64 0] 233):=heap_alloc_new _ _
 have hXz:(w.alloc (Obj.cells #[.slice none 0 0,.int .i64 0] 233)).heap.size=w.heap.size+1:=by simp
 go_enter func201,ntmps201
 go_wp2
 go_loopg [3,8] l.length (fun k av iv wr=>∃j:Nat,k=l.length-j∧iv=.int .i64 ((j:Nat):Int)∧av=.int .i64 ((Zbh (l.take j):Nat):Int)∧j≤l.length∧Below (w.heap.size+1) (w.alloc (Obj.cells #[.slice none 0 0,.int .i64 0] 233)) wr)
 case atStart=>exact⟨0,by omega,rfl,by simp[Zbh],by omega,Below.refl _ _⟩
 case round =>
  obtain⟨j,rfl,rfl,rfl,hj,hb⟩:=hrel
  have hbw:Below w.heap.size w wr:=bX.trans (hb.mono (by omega))
  by_cases hjl:j<l.length
  ·obtain⟨g,o,cap',e,hg,hc1,hc2,hcell⟩:=hseg.cell (by omega)
   simp only[Value.slice.injEq] at e
   obtain⟨rfl,_,rfl⟩:=e
   obtain⟨x,hx,hvx⟩:=hvs.at j hjl
   have c0:wr.cell? ⟨g,o+j,none⟩=some x:=Below.cellv hbw (by have:=hcell j (by rw[Nat.mul_one];omega);rw[this];exact hx)
   obtain⟨tx,yx,rfl⟩:=hvx.iface
   have hle:=Zfy l (j+1)
   have hwt:=Zmv l j hjl
   have cw:=Zse D l[j] _ wr (hvx.below hbw) (by omega)
   have HW:Aside (Zbh (l.take (j+1))=Zbh (l.take j)+wtV l[j]):=hwt
   have hs1:Zbh (l.take j)+wtV l[j]≤1000000000:=by omega
   clear hvx hseg hvs hcell hwt hle hx
   generalize wtV l[j]=m at *
   generalize hT:Zbh (l.take j)=s at *
   unfold maxLen at hc2
   go_wp2_with (go_at_call 194;refine cw.mono ?_;rintro e w2 ⟨rfl,hb2⟩)
   go_roundg (l.length-(j+1))
   case measure=>omega
   case rel=>exact⟨j+1,rfl,by go_num,by rw[HW.out];go_num,by omega,hb.trans (hb2.mono (by have:=hb.size;omega))⟩
  ·have hjj:j=l.length:=by omega
   subst hjj
   rw[List.take_length]
   have h2:wr.heap[w.heap.size]?=some (.cells #[.slice none 0 0,.int .i64 0] 233):=by rw[hb.block _ (by omega)];exact hX
   have c0:wr.cell? ⟨w.heap.size,0,none⟩=some (.slice none 0 0):=by unfold World.cell?;rw[h2];rfl
   have c1:wr.cell? ⟨w.heap.size,1,none⟩=some (.int .i64 0):=by unfold World.cell?;rw[h2];rfl
   have f0:wr.frozen? ⟨w.heap.size,0,none⟩=false:=by unfold World.frozen?;rw[h2];rfl
   have f1:wr.frozen? ⟨w.heap.size,1,none⟩=false:=by unfold World.frozen?;rw[h2];rfl
   clear hseg hvs
   go_wp2
   exact bodyPost_ret (v:=.agg #[.slice ad l.length cap,.int .i64 ((Zbh l:Nat):Int)]) (by simp[results,results201,go_sem,c0,c1]) rfl ⟨rfl,(hbw.setCell (p:=⟨w.heap.size,0,none⟩) (Nat.le_refl _) _).setCell (p:=⟨w.heap.size,1,none⟩) (Nat.le_refl _) _⟩
end Go.Proofs.YtliapghpeoaonaaGreatDoor
namespace Go.Proofs.YtliapghpeoaonaaGreatDoor
open Go.Proofs.Tryz
open Go.RowKit
attribute [local go_sem ↓] Go.wp_at_zero Go.wp_at_succ
attribute [local go_sem] Zdi Zdh Zdj Zdf Zde Zdg Zdl Zdk Zdm
theorem Zr4 (w:World)(o o':Obj):Below w.heap.size w ((w.alloc o).alloc o'):=(Zab w o).alloc (by simp) o'
def Z3w (n:Nat)(D:Nat→Prop):Prop:=∀(a b:PV) (x y:Value) (w:World),wtV a≤n→VL w D a x→VL w D b y →
  Calls prog 272 #[x,y] w fun e w'=>e=.returned (.bool (Zcl a b))∧Below w.heap.size w w'
theorem equal_of {n:Nat}{D:Nat→Prop}(ih:Z3w n D)(l m:List PV)(sl sm:Value)(cs ds:List Value)(w:World)(hl:Zbh l≤n)(_hn:n≤1000000000)(h1:Zar w D 81 1 sl l.length cs)(h2:VLs w D l cs)(h3:Zar w D 81 1 sm m.length ds)(h4:VLs w D m ds):
  Calls prog 271 #[sl,sm,.func (.func 272) #[] #[]] w fun e w'=>e=.returned (.bool (Zch l m))∧Below w.heap.size w w':=by
 obtain⟨ad,cap,rfl⟩:=h1.slice
 obtain⟨bd,dap,rfl⟩:=h3.slice
 have hll:=Zdd l
 by_cases hlen:l.length=m.length
 ·have HE:Aside (Zch (l.drop l.length) (m.drop l.length)=true):=Zpo l m hlen
  have HL:Aside (l.length=m.length):=hlen
  rw[←hlen] at h3 ⊢
  clear hlen
  go_enter func271,ntmps271
  go_wp2
  go_loopg [17] l.length (fun gh iv wr=>∃q:Nat,gh=l.length-q∧iv=.int .i64 ((q:Nat):Int)∧q≤l.length∧Aside (Zch l m=Zch (l.drop q) (m.drop q))∧Below w.heap.size w wr)
  case atStart=>exact⟨0,by omega,rfl,by omega,rfl,Below.refl _ _⟩
  case round =>
   obtain⟨q,rfl,rfl,hq,hS,hb⟩:=hrel
   by_cases hlt:q<l.length
   ·have hlt2:q<m.length:=by rw[←HL.out];exact hlt
    obtain⟨g,o,cap',e,hg,hc1,hc2,hcell⟩:=h1.cell (by omega)
    simp only[Value.slice.injEq] at e
    obtain⟨rfl,_,rfl⟩:=e
    obtain⟨g',o',cap'',e,hg',hd1,hd2,hcell2⟩:=h3.cell (by omega)
    simp only[Value.slice.injEq] at e
    obtain⟨rfl,_,rfl⟩:=e
    obtain⟨x,hx,hvx⟩:=h2.at q hlt
    obtain⟨y,hy,hvy⟩:=h4.at q hlt2
    have c0:wr.cell? ⟨g,o+q,none⟩=some x:=Below.cellv hb (by have:=hcell q (by rw[Nat.mul_one];omega);rw[this];exact hx)
    have c1:wr.cell? ⟨g',o'+q,none⟩=some y:=Below.cellv hb (by have:=hcell2 q (by rw[Nat.mul_one];omega);rw[this];exact hy)
    have hwq:=Zix l q hlt
    have cw:=ih l[q] m[q] x y wr (by omega) (hvx.below hb) (hvy.below hb)
    obtain⟨tx,yx,rfl⟩:=hvx.iface
    obtain⟨ty,yy,rfl⟩:=hvy.iface
    have HDR:Aside (Zch l m=(Zcl l[q] m[q]&&Zch (l.drop (q+1)) (m.drop (q+1)))):=by show _=_;rw[hS.out,Znm l m q hlt hlt2]
    clear h1 h2 h3 h4 hcell hcell2 hx hy hvx hvy hS ih
    generalize Zcl l[q] m[q]=R at *
    unfold maxLen at hc2 hd2
    cases R
    ·go_wp2_with (go_at_call 272;refine cw.mono ?_;rintro e w2 ⟨rfl,hb2⟩)
     go_ret
     exact⟨by rw[HDR.out];rfl,hb.trans (hb2.mono hb.size)⟩
    ·have HDR2:Aside (Zch l m=Zch (l.drop (q+1)) (m.drop (q+1))):=by show _=_;rw[HDR.out];rfl
     go_wp2_with (go_at_call 272;refine cw.mono ?_;rintro e w2 ⟨rfl,hb2⟩)
     go_roundg (l.length-(q+1))
     case measure=>omega
     case rel=>exact⟨q+1,rfl,by go_num,by omega,HDR2,hb.trans (hb2.mono hb.size)⟩
   ·have hqq:q=l.length:=by omega
    subst hqq
    have HR:Aside (Zch l m=true):=by show _=_;rw[hS.out];exact HE.out
    clear hS HE
    go_wp2
    go_ret
    exact⟨by rw[HR.out];rfl,hb⟩
 ·have hres:Zch l m=false:=by
   cases h:Zch l m with
   | false=>rfl
   | true=>exact absurd (Zkv l m h) hlen
  rw[hres]
  clear h1 h2 h3 h4 hres
  go_enter func271,ntmps271
  go_wp2
  go_ret
  exact⟨rfl,Below.refl _ _⟩
theorem Zwg (D:Nat→Prop):∀n,n≤1000000000→Z3w n D
 | 0,_=>fun a b x y w h _ _=>absurd (Zf1 a) (by omega)
 | n+1,hn=>fun a b x y w hwt ha hb=>by
  have ih:=Zwg D n (by omega)
  cases a with
  | num z =>
   rw[VL] at ha
   subst ha
   cases b with
   | num u =>
    rw[VL] at hb
    subst hb
    rw[Zcl]
    go_enter func272,ntmps272
    go_wp2
    all_goals go_ret
    all_goals exact⟨rfl,Below.refl _ _⟩
   | txt u =>
    rw[VL] at hb
    obtain⟨t,ht,rfl⟩:=hb
    rw[show Zcl (.num z) (.txt u)=false by simp[Zcl]]
    go_enter func272,ntmps272
    go_wp2
    go_ret
    exact⟨rfl,Below.refl _ _⟩
   | lst u =>
    rw[VL] at hb
    obtain⟨sl,cs,rfl,_,_⟩:=hb
    rw[show Zcl (.num z) (.lst u)=false by simp[Zcl]]
    go_enter func272,ntmps272
    go_wp2
    go_ret
    exact⟨rfl,Below.refl _ _⟩
  | txt z =>
   rw[VL] at ha
   obtain⟨s,hs,rfl⟩:=ha
   cases b with
   | num u =>
    rw[VL] at hb
    subst hb
    rw[show Zcl (.txt z) (.num u)=false by simp[Zcl]]
    go_enter func272,ntmps272
    go_wp2
    go_ret
    exact⟨rfl,Below.refl _ _⟩
   | txt u =>
    rw[VL] at hb
    obtain⟨t,ht,rfl⟩:=hb
    rw[Zcl]
    subst hs ht
    go_enter func272,ntmps272
    go_wp2
    all_goals go_ret
    all_goals refine⟨?_,Below.refl _ _⟩
    all_goals (rw[ByteArray.toList_eq,ByteArray.toList_eq];rfl)
   | lst u =>
    rw[VL] at hb
    obtain⟨sl,cs,rfl,_,_⟩:=hb
    rw[show Zcl (.txt z) (.lst u)=false by simp[Zcl]]
    go_enter func272,ntmps272
    go_wp2
    go_ret
    exact⟨rfl,Below.refl _ _⟩
  | lst l =>
   rw[VL] at ha
   obtain⟨sl,cs,rfl,g1,g2⟩:=ha
   rw[wtV] at hwt
   obtain⟨ad,cap,rfl⟩:=g1.slice
   cases b with
   | num u =>
    rw[VL] at hb
    subst hb
    rw[show Zcl (.lst l) (.num u)=false by simp[Zcl]]
    clear g1 g2
    go_enter func272,ntmps272
    go_wp2
    go_ret
    exact⟨rfl,Zr4 w _ _⟩
   | txt u =>
    rw[VL] at hb
    obtain⟨t,ht,rfl⟩:=hb
    rw[show Zcl (.lst l) (.txt u)=false by simp[Zcl]]
    clear g1 g2
    go_enter func272,ntmps272
    go_wp2
    go_ret
    exact⟨rfl,Zr4 w _ _⟩
   | lst m =>
    rw[VL] at hb
    obtain⟨sm,ds,rfl,g3,g4⟩:=hb
    obtain⟨bd,dap,rfl⟩:=g3.slice
    rw[Zcl]
    have bX:=Zr4 w (Obj.cells #[.slice ad l.length cap,.int .i64 ((Zbh l:Nat):Int)] 233) (Obj.cells #[.slice bd m.length dap,.int .i64 ((Zbh m:Nat):Int)] 233)
    have ce:=equal_of ih l m _ _ cs ds _ (by omega) (by omega) (g1.below bX) (g2.below bX) (g3.below bX) (g4.below bX)
    clear g1 g2 g3 g4 ih
    generalize Zch l m=R at *
    go_enter func272,ntmps272
    go_wp2_with (go_at_call 271;refine ce.mono ?_;rintro e w2 ⟨rfl,hb2⟩)
    go_ret
    exact⟨rfl,bX.trans (hb2.mono bX.size)⟩
theorem same_val (D:Nat→Prop)(a b:PV)(x y:Value)(w:World)(h:wtV a≤1000000000)(ha:VL w D a x)(hb:VL w D b y):
  Calls prog 272 #[x,y] w fun e w'=>e=.returned (.bool (Zcl a b))∧Below w.heap.size w w':=Zwg D _ (Nat.le_refl _) a b x y w h ha hb
end Go.Proofs.YtliapghpeoaonaaGreatDoor
