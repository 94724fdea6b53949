/-
  The reference: the reader in memory; forms, now, wrong, over, name.
-/
import Derived.Test.YtliapghpeoaonaaGreatDoorRefA
import Derived.Deep.RegionHeld3
set_option maxHeartbeats 2000000
namespace Go.Proofs.YtliapghpeoaonaaGreatDoor
open Go.Proofs.Tryz
open Go.RowKit
attribute [local go_sem ↓] Go.wp_at_zero Go.wp_at_succ
def Zgg:Option (Bool×Int)→Value
 | some (b,n)=>.tuple #[.int .i64 n,.bool b,.bool true]
 | none=>.tuple #[.int .i64 0,.bool false,.bool false]
theorem Zc2 (s:ByteArray)(w:World):
  Calls prog 148 #[.string s] w fun e w'=>e=.returned (Zgg (Za3 s.data.toList))∧w'=w:=by
 rw[←ByteArray.toList_eq]
 rcases Zdx s.toList with h | h | h | h | h | h | h | h | h | h | h | h | h | h | ⟨h,g0,g1,g2,g3,g4,g5,g6,g7,g8,g9,g10,g11,g12,g13⟩
 all_goals
  go_enter func148,ntmps148
  go_wp2
  go_ret3
  exact⟨by rw[h];rfl,rfl⟩
abbrev Zaq (t:Tok×ByteArray):Value:=.agg #[.int .u8 (Zba t.1.k),.string t.2,.int .i64 ((t.1.at_:Nat):Int)]
structure Rz (w:World)(rb tb cap:Nat)(l:List (Tok×ByteArray))(fv pv:Value)(k d e a:Nat):Prop where
 blk:w.heap[rb]?=some (.cells #[.slice (some ⟨tb,0,none⟩) l.length cap,.int .i64 ((k:Nat):Int),.int .i64 ((d:Nat):Int),.int .i64 ((e:Nat):Int),.int .i64 ((a:Nat):Int),fv,pv] 131)
 toks:∃cur,w.heap[tb]?=some (.cells cur 133)∧cur.toList.take (l.length*3)=Zck l
 hk:k<l.length
 hc:l.length≤cap
 hm:cap≤maxLen
 hl:l.length≤3000
 hd:d≤16
 ne:tb≠rb
theorem Zm6:∀(l:List (Tok×ByteArray)) (j:Nat) (hj:j<l.length),(Zck l)[j*3]?=some (.int .u8 (Zba l[j].1.k))∧(Zck l)[j*3+1]?=some (.string l[j].2)∧(Zck l)[j*3+2]?=some (.int .i64 ((l[j].1.at_:Nat):Int))
 | [],j,hj=>by simp at hj
 | x::r,0,_=>⟨rfl,rfl,rfl⟩
 | x::r,j+1,hj=>by
  have:=Zm6 r j (by simpa using hj)
  rw[show (j+1)*3=j*3+1+1+1 by omega]
  simpa[Zck] using this
section
variable {w:World} {rb tb cap:Nat} {l:List (Tok×ByteArray)} {fv pv:Value} {k d e a:Nat}
theorem Rz.cells (h:Rz w rb tb cap l fv pv k d e a):w.cell? ⟨rb,0,none⟩=some (.slice (some ⟨tb,0,none⟩) l.length cap)∧w.cell? ⟨rb,1,none⟩=some (.int .i64 ((k:Nat):Int))∧w.cell? ⟨rb,2,none⟩=some (.int .i64 ((d:Nat):Int))∧w.cell? ⟨rb,3,none⟩=some (.int .i64 ((e:Nat):Int))∧w.cell? ⟨rb,4,none⟩=some (.int .i64 ((a:Nat):Int))∧w.cell? ⟨rb,5,none⟩=some fv∧w.cell? ⟨rb,6,none⟩=some pv:=by
 have hb:=h.blk
 refine⟨?_,?_,?_,?_,?_,?_,?_⟩<;>(unfold World.cell?;rw[hb];rfl)
theorem Rz.free (h:Rz w rb tb cap l fv pv k d e a)(j:Nat):w.frozen? ⟨rb,j,none⟩=false:=by
 have hb:=h.blk
 unfold World.frozen?;rw[hb];simp
theorem Rz.tok (h:Rz w rb tb cap l fv pv k d e a)(j:Nat)(hj:j<l.length):w.cell? ⟨tb,j*3,none⟩=some (.int .u8 (Zba l[j].1.k))∧w.cell? ⟨tb,j*3+1,none⟩=some (.string l[j].2)∧w.cell? ⟨tb,j*3+2,none⟩=some (.int .i64 ((l[j].1.at_:Nat):Int)):=by
 obtain⟨cur,h1,h2⟩:=h.toks
 obtain⟨a1,a2,a3⟩:=Zm6 l j hj
 have key:∀i,i<l.length*3→w.cell? ⟨tb,i,none⟩=(Zck l)[i]?:=by
  intro i hi
  have:w.cell? ⟨tb,i,none⟩=cur[i]?:=by unfold World.cell?;rw[h1];rfl
  rw[this,←h2,List.getElem?_take,if_pos hi,Array.getElem?_toList]
 refine⟨?_,?_,?_⟩
 ·rw[key _ (by omega)];exact a1
 ·rw[key _ (by omega)];exact a2
 ·rw[key _ (by omega)];exact a3
theorem Rz.lt (h:Rz w rb tb cap l fv pv k d e a):rb<w.heap.size∧tb<w.heap.size:=by
 obtain⟨cur,h1,_⟩:=h.toks
 exact⟨Zag h.blk,Zag h1⟩
theorem Rz.keep {w':World}(h:Rz w rb tb cap l fv pv k d e a)(h1:w'.heap[rb]?=w.heap[rb]?)(h2:w'.heap[tb]?=w.heap[tb]?):Rz w' rb tb cap l fv pv k d e a :=
 { h with blk:=by rw[h1];exact h.blk,toks:=by rw[h2];exact h.toks }
theorem Rz.below {w':World}(h:Rz w rb tb cap l fv pv k d e a)(hb:Below w.heap.size w w'):Rz w' rb tb cap l fv pv k d e a:=h.keep (hb.block rb h.lt.1) (hb.block tb h.lt.2)
theorem Rz.alloc (h:Rz w rb tb cap l fv pv k d e a)(o:Obj):Rz (w.alloc o) rb tb cap l fv pv k d e a:=h.below (Zab w o)
theorem Rz.set1 (h:Rz w rb tb cap l fv pv k d e a){k':Nat}(hk:k'<l.length):Rz (w.setCell ⟨rb,1,none⟩ (.int .i64 ((k':Nat):Int))) rb tb cap l fv pv k' d e a :=
 { h with blk:=by rw[Zau h.blk];rfl,toks:=by rw[Below.heap_setCell w ⟨rb,1,none⟩ _ tb h.ne];exact h.toks,hk:=hk }
theorem Rz.set2 (h:Rz w rb tb cap l fv pv k d e a){d':Nat}(hd:d'≤16):Rz (w.setCell ⟨rb,2,none⟩ (.int .i64 ((d':Nat):Int))) rb tb cap l fv pv k d' e a :=
 { h with blk:=by rw[Zau h.blk];rfl,toks:=by rw[Below.heap_setCell w ⟨rb,2,none⟩ _ tb h.ne];exact h.toks,hd:=hd }
theorem Rz.set3 (h:Rz w rb tb cap l fv pv k d e a)(e':Nat):Rz (w.setCell ⟨rb,3,none⟩ (.int .i64 ((e':Nat):Int))) rb tb cap l fv pv k d e' a :=
 { h with blk:=by rw[Zau h.blk];rfl,toks:=by rw[Below.heap_setCell w ⟨rb,3,none⟩ _ tb h.ne];exact h.toks }
theorem Rz.set4 (h:Rz w rb tb cap l fv pv k d e a)(a':Nat):Rz (w.setCell ⟨rb,4,none⟩ (.int .i64 ((a':Nat):Int))) rb tb cap l fv pv k d e a' :=
 { h with blk:=by rw[Zau h.blk];rfl,toks:=by rw[Below.heap_setCell w ⟨rb,4,none⟩ _ tb h.ne];exact h.toks }
theorem Rz.set5 (h:Rz w rb tb cap l fv pv k d e a)(fv':Value):Rz (w.setCell ⟨rb,5,none⟩ fv') rb tb cap l fv' pv k d e a :=
 { h with blk:=by rw[Zau h.blk];rfl,toks:=by rw[Below.heap_setCell w ⟨rb,5,none⟩ _ tb h.ne];exact h.toks }
theorem Rz.set6 (h:Rz w rb tb cap l fv pv k d e a)(pv':Value):Rz (w.setCell ⟨rb,6,none⟩ pv') rb tb cap l fv pv' k d e a :=
 { h with blk:=by rw[Zau h.blk];rfl,toks:=by rw[Below.heap_setCell w ⟨rb,6,none⟩ _ tb h.ne];exact h.toks }
theorem box3 (w:World)(x y z:Value)(t:TypeId):(∀X:World,X=w.alloc (.cells #[x,y,z] t)→X.cell? ⟨w.heap.size,0,none⟩=some x∧X.cell? ⟨w.heap.size,1,none⟩=some y∧X.cell? ⟨w.heap.size,2,none⟩=some z∧X.heap.size=w.heap.size+1∧Below w.heap.size w X):=by
 rintro X rfl
 have h:(w.alloc (Obj.cells #[x,y,z] t)).heap[w.heap.size]?=some (.cells #[x,y,z] t):=heap_alloc_new _ _
 refine⟨?_,?_,?_,by simp,Zab w _⟩<;>(unfold World.cell?;rw[h];rfl)
theorem below_set3 {w X:World}(h:Below w.heap.size w X)(x y z:Value):Below w.heap.size w (((X.setCell ⟨w.heap.size,0,none⟩ x).setCell ⟨w.heap.size,1,none⟩ y).setCell ⟨w.heap.size,2,none⟩ z) :=
 ((h.setCell (p:=⟨w.heap.size,0,none⟩) (Nat.le_refl _) _).setCell (p:=⟨w.heap.size,1,none⟩) (Nat.le_refl _) _).setCell (p:=⟨w.heap.size,2,none⟩) (Nat.le_refl _) _
theorem Zbf (h:Rz w rb tb cap l fv pv k d e a):
  Calls prog 56 #[.pointer (some ⟨rb,0,none⟩)] w fun r w'=>r=.returned (Zaq (l[k]'h.hk))∧Below w.heap.size w w':=by
 obtain⟨c0,c1,_⟩:=h.cells
 obtain⟨t0,t1,t2⟩:=h.tok k h.hk
 have hk:=h.hk
 have hl:=h.hl
 have hne:=Nat.ne_of_lt h.lt.1
 have hne2:=Nat.ne_of_lt h.lt.2
 generalize l[k]'h.hk=t at *
 clear h
 go_enter func56,ntmps56
 go_wp2
 go_region_held3 (fun w'=>w'.cell? ⟨rb,0,none⟩=some (.slice (some ⟨tb,0,none⟩) l.length cap)∧w'.cell? ⟨rb,1,none⟩=some (.int .i64 ((k:Nat):Int))∧w'.cell? ⟨tb,k*3,none⟩=some (.int .u8 (Zba t.1.k))∧w'.cell? ⟨tb,k*3+1,none⟩=some (.string t.2)∧w'.cell? ⟨tb,k*3+2,none⟩=some (.int .i64 ((t.1.at_:Nat):Int))) (go_keep) (fail)
 all_goals go_wp2
 exact bodyPost_ret (v:=Zaq t) (by simp[results,results56,go_sem]) rfl ⟨rfl,(Zab w _).drew⟩
theorem Zsb (h:Rz w rb tb cap l fv pv k d 0 a)(c p:Nat):
  Calls prog 147 #[.pointer (some ⟨rb,0,none⟩),.int .i64 ((c:Nat):Int),.int .i64 ((p:Nat):Int)] w fun r w'=>r=.returned (.tuple #[])∧Zaa (·=rb) w w'∧Rz w' rb tb cap l fv pv k d c p:=by
 obtain⟨c0,c1,c2,c3,c4,_⟩:=h.cells
 have f3:=h.free 3
 have f4:=h.free 4
 have hz:=(h.set3 c).set4 p
 have ht:Zaa (·=rb) w ((w.setCell ⟨rb,3,none⟩ (.int .i64 ((c:Nat):Int))).setCell ⟨rb,4,none⟩ (.int .i64 ((p:Nat):Int))):=((Zaa.refl (·=rb) w).setCell (p:=⟨rb,3,none⟩) (Or.inl rfl) _).setCell (p:=⟨rb,4,none⟩) (Or.inl rfl) _
 have H:Aside (Zaa (·=rb) w ((w.setCell ⟨rb,3,none⟩ (.int .i64 ((c:Nat):Int))).setCell ⟨rb,4,none⟩ (.int .i64 ((p:Nat):Int)))∧Rz ((w.setCell ⟨rb,3,none⟩ (.int .i64 ((c:Nat):Int))).setCell ⟨rb,4,none⟩ (.int .i64 ((p:Nat):Int))) rb tb cap l fv pv k d c p):=⟨ht,hz⟩
 clear h hz ht
 go_enter func147,ntmps147
 go_wp2
 exact bodyPost_end (v:=.tuple #[]) (by simp[results,results147,go_sem]) rfl ⟨rfl,H.out⟩
theorem Zfb (h:Rz w rb tb cap l fv pv k d 0 a)(p:Nat):
  Calls prog 147 #[.pointer (some ⟨rb,0,none⟩),.int .i64 2,.int .i64 ((p:Nat):Int)] w fun r w'=>r=.returned (.tuple #[])∧Zaa (·=rb) w w'∧Rz w' rb tb cap l fv pv k d 2 p:=Zsb h 2 p
theorem Zxg (h:Rz w rb tb cap l fv pv k d 0 a)(p:Nat):
  Calls prog 147 #[.pointer (some ⟨rb,0,none⟩),.int .i64 3,.int .i64 ((p:Nat):Int)] w fun r w'=>r=.returned (.tuple #[])∧Zaa (·=rb) w w'∧Rz w' rb tb cap l fv pv k d 3 p:=Zsb h 3 p
theorem Ze2 (h:Rz w rb tb cap l fv pv k d e a)(he:e≠0)(c p:Int):
  Calls prog 147 #[.pointer (some ⟨rb,0,none⟩),.int .i64 c,.int .i64 p] w fun r w'=>r=.returned (.tuple #[])∧w'=w:=by
 obtain⟨c0,c1,c2,c3,c4,_⟩:=h.cells
 clear h
 go_enter func147,ntmps147
 go_wp2
 exact bodyPost_end (v:=.tuple #[]) (by simp[results,results147,go_sem]) rfl ⟨rfl,rfl⟩
end
theorem Zz9 (x:K):Zba x=40 ↔ x=.opn:=by cases x<;>simp[Zba]
theorem Zga (x:K):Zba x=41 ↔ x=.cls:=by cases x<;>simp[Zba]
theorem tcode_num (x:K):Zba x=49 ↔ x=.num:=by cases x<;>simp[Zba]
theorem tcode_txt (x:K):Zba x=39 ↔ x=.txt:=by cases x<;>simp[Zba]
theorem Zpf (x:K):Zba x=97 ↔ x=.word:=by cases x<;>simp[Zba]
theorem Z0a (x:K):Zba x=0 ↔ x=.eof:=by cases x<;>simp[Zba]
theorem Zlb {x y:Int}(h:¬ x=y):(x != y)=true:=by simpa using h
abbrev Zfx:Obj:=.cells #[.int .u8 0,.string ⟨#[]⟩,.int .i64 0] 133
structure Bx (W:World)(B:Nat):Prop where
 blk:W.heap[B]?=some Zfx
theorem Bx.new (w:World):Bx (w.alloc Zfx) w.heap.size:=⟨heap_alloc_new _ _⟩
theorem Bx.below {W W':World}{B:Nat}(h:Bx W B)(hb:Below W.heap.size W W'):Bx W' B:=⟨by rw[hb.block B (Zag h.blk)];exact h.blk⟩
theorem Bx.touch {W W':World}{B rb:Nat}(h:Bx W B)(ht:Zaa (·=rb) W W')(hne:B≠rb):Bx W' B:=⟨by rw[ht.block B (Zag h.blk) hne];exact h.blk⟩
theorem Bx.facts {W:World}{B:Nat}(h:Bx W B):W.cell? ⟨B,0,none⟩=some (.int .u8 0)∧W.cell? ⟨B,1,none⟩=some (.string ⟨#[]⟩)∧W.cell? ⟨B,2,none⟩=some (.int .i64 0)∧W.frozen? ⟨B,0,none⟩=false∧W.frozen? ⟨B,1,none⟩=false∧W.frozen? ⟨B,2,none⟩=false:=by
 have hb:=h.blk
 refine⟨?_,?_,?_,?_,?_,?_⟩
 all_goals first
  |(unfold World.cell?;rw[hb];rfl)
  |(unfold World.frozen?;rw[hb];rfl)
abbrev Zc3 (c:Int)(s:ByteArray)(p:Nat):Obj:=.cells #[.int .u8 c,.string s,.int .i64 ((p:Nat):Int)] 133
structure Tx (W:World)(B:Nat)(c:Int)(s:ByteArray)(p:Nat):Prop where
 blk:W.heap[B]?=some (Zc3 c s p)
theorem Za9 (w:World)(c:Int)(s:ByteArray)(p:Nat):Tx (w.alloc (Zc3 c s p)) w.heap.size c s p:=⟨heap_alloc_new _ _⟩
theorem Tx.touch {W W':World}{B rb:Nat}{c:Int}{s:ByteArray}{p:Nat}(h:Tx W B c s p)(ht:Zaa (·=rb) W W')(hne:B≠rb):Tx W' B c s p:=⟨by rw[ht.block B (Zag h.blk) hne];exact h.blk⟩
theorem Tx.below {W W':World}{B:Nat}{c:Int}{s:ByteArray}{p:Nat}(h:Tx W B c s p)(hb:Below W.heap.size W W'):Tx W' B c s p:=⟨by rw[hb.block B (Zag h.blk)];exact h.blk⟩
theorem Tx.facts {W:World}{B:Nat}{c:Int}{s:ByteArray}{p:Nat}(h:Tx W B c s p):W.cell? ⟨B,0,none⟩=some (.int .u8 c)∧W.cell? ⟨B,1,none⟩=some (.string s)∧W.cell? ⟨B,2,none⟩=some (.int .i64 ((p:Nat):Int)):=by
 have hb:=h.blk
 refine⟨?_,?_,?_⟩<;>(unfold World.cell?;rw[hb];rfl)
section
variable {w:World} {rb tb cap:Nat} {l:List (Tok×ByteArray)} {fv pv:Value} {k d e a:Nat}
theorem Rz.set_other {B:Nat}(h:Rz w rb tb cap l fv pv k d e a)(h1:rb≠B)(h2:tb≠B)(j:Nat)(v:Value):Rz (w.setCell ⟨B,j,none⟩ v) rb tb cap l fv pv k d e a :=
 h.keep (Below.heap_setCell w ⟨B,j,none⟩ v rb h1) (Below.heap_setCell w ⟨B,j,none⟩ v tb h2)
theorem Zo6  {X : World} {B : Nat} (hr : rb < B) (ht : tb < B) (hB : w.heap.size ≤ B) (hT : Zaa   (· = rb) w X) (hz : Rz X rb tb cap l fv pv k d e a) (x y z : Value) :
    Zaa   (· = rb) w (((X.setCell ⟨B, 0, none⟩ x).setCell ⟨B, 1, none⟩ y).setCell ⟨B, 2, none⟩ z) ∧ Rz (((X.setCell ⟨B, 0, none⟩ x).setCell ⟨B, 1, none⟩ y).setCell ⟨B, 2, none⟩ z) rb tb cap l fv pv k d e a :=
  ⟨((hT.setCell (p := ⟨B, 0, none⟩) (Or.inr hB) _).setCell (p := ⟨B, 1, none⟩) (Or.inr hB) _).setCell (p := ⟨B, 2, none⟩) (Or.inr hB) _,
   ((hz.set_other (Nat.ne_of_lt hr) (Nat.ne_of_lt ht) _ _).set_other (Nat.ne_of_lt hr) (Nat.ne_of_lt ht) _ _).set_other (Nat.ne_of_lt hr) (Nat.ne_of_lt ht) _ _⟩
theorem Rz.step (h:Rz w rb tb cap l fv pv k d 0 a){d':Nat}(hd:d'≤16)(hk:k+1<l.length):Rz ((w.setCell ⟨rb,2,none⟩ (.int .i64 ((d':Nat):Int))).setCell ⟨rb,1,none⟩ (.int .i64 ((k+1:Nat):Int))) rb tb cap l fv pv (k+1) d' 0 a∧Zaa (·=rb) w ((w.setCell ⟨rb,2,none⟩ (.int .i64 ((d':Nat):Int))).setCell ⟨rb,1,none⟩ (.int .i64 ((k+1:Nat):Int))) :=
 ⟨(h.set2 hd).set1 hk,((Zaa.refl (·=rb) w).setCell (p:=⟨rb,2,none⟩) (Or.inl rfl) _).setCell (p:=⟨rb,1,none⟩) (Or.inl rfl) _⟩
theorem Rz.step0 (h:Rz w rb tb cap l fv pv k d 0 a)(hk:k+1<l.length):Rz (w.setCell ⟨rb,1,none⟩ (.int .i64 ((k+1:Nat):Int))) rb tb cap l fv pv (k+1) d 0 a∧Zaa (·=rb) w (w.setCell ⟨rb,1,none⟩ (.int .i64 ((k+1:Nat):Int))) :=
 ⟨h.set1 hk,(Zaa.refl (·=rb) w).setCell (p:=⟨rb,1,none⟩) (Or.inl rfl) _⟩
abbrev funB:ByteArray:=⟨#[102,117,110]⟩
theorem Z1b (h:Rz w rb tb cap l fv pv k d e a)(he:e≠0)(u:ByteArray)(hct:Zba (l[k]'h.hk).1.k=40):
  Calls prog 97 #[.pointer (some ⟨rb,0,none⟩),.int .u8 40,.string u] w fun r w'=>r=.returned (Zaq (l[k]'h.hk))∧Zaa (·=rb) w w'∧Rz w' rb tb cap l fv pv k d e a:=by
 have hlt:=h.lt
 have hl:=h.hl
 have hd:=h.hd
 have hne1:=Nat.ne_of_lt hlt.1
 have hne2:=Nat.ne_of_lt hlt.2
 have cn:=Zbf (h.alloc Zfx)
 have hk:=h.hk
 have hcv:Zaq (l[k]'h.hk)=.agg #[.int .u8 40,.string (l[k]'h.hk).2,.int .i64 (((l[k]'h.hk).1.at_:Nat):Int)]:=by rw[←hct]
 clear hct
 generalize (l[k]'h.hk).2=ts at *
 generalize (l[k]'h.hk).1.at_=p at *
 generalize Zaq (l[k]'h.hk)=tv at *
 subst hcv
 go_enter func97,ntmps97
 go_wp2_with (first
  |(go_at_call 56;refine cn.mono ?_;rintro r w1 ⟨rfl,hb1⟩;have z1:=((h.alloc Zfx).below hb1).alloc (Zc3 40 ts p);have b1:=((Bx.new w).below hb1).below (Zab w1 (Zc3 40 ts p));have g1:=Za9 w1 40 ts p;obtain⟨c0,c1,c2,c3,c4,_⟩:=z1.cells;obtain⟨v0,v1,v2,v3,v4,v5⟩:=b1.facts;obtain⟨q0,q1,q2⟩:=g1.facts;have f1:=z1.free 1;have f2:=z1.free 2;have z0:=hb1.size;simp at z0;have ne3:rb≠w1.heap.size:=(by omega);have ne4:w.heap.size≠w1.heap.size:=(by omega))
  |(go_at_call 147;refine (Ze2 z1 he _ _).mono ?_;rintro r w2 ⟨rfl,rfl⟩))
 all_goals refine bodyPost_ret (v:=.agg #[.int .u8 40,.string ts,.int .i64 ((p:Nat):Int)]) (by simp[results,results97,go_sem,v0,v1,v2]) rfl ⟨rfl,?_⟩
 all_goals exact Zo6 hlt.1 hlt.2 (Nat.le_refl _) (Zaa.of_below (((Zab w _).trans (hb1.mono (by simp))).alloc (by omega) _)) z1 _ _ _
theorem Z1a (h:Rz w rb tb cap l fv pv k d e a)(he:e≠0)(kc:Int)(u:ByteArray)(hct:Zba (l[k]'h.hk).1.k=kc)(m1:(kc==40)=false):
  Calls prog 97 #[.pointer (some ⟨rb,0,none⟩),.int .u8 kc,.string u] w fun r w'=>r=.returned (Zaq (l[k]'h.hk))∧Zaa (·=rb) w w'∧Rz w' rb tb cap l fv pv k d e a:=by
 have hlt:=h.lt
 have hl:=h.hl
 have hd:=h.hd
 have hne1:=Nat.ne_of_lt hlt.1
 have hne2:=Nat.ne_of_lt hlt.2
 have cn:=Zbf (h.alloc Zfx)
 have hk:=h.hk
 have hcv:Zaq (l[k]'h.hk)=.agg #[.int .u8 kc,.string (l[k]'h.hk).2,.int .i64 (((l[k]'h.hk).1.at_:Nat):Int)]:=by rw[←hct]
 clear hct
 generalize (l[k]'h.hk).2=ts at *
 generalize (l[k]'h.hk).1.at_=p at *
 generalize Zaq (l[k]'h.hk)=tv at *
 subst hcv
 go_enter func97,ntmps97
 go_wp2_with (first
  |(go_at_call 56;refine cn.mono ?_;rintro r w1 ⟨rfl,hb1⟩;have z1:=((h.alloc Zfx).below hb1).alloc (Zc3 kc ts p);have b1:=((Bx.new w).below hb1).below (Zab w1 (Zc3 kc ts p));have g1:=Za9 w1 kc ts p;obtain⟨c0,c1,c2,c3,c4,_⟩:=z1.cells;obtain⟨v0,v1,v2,v3,v4,v5⟩:=b1.facts;obtain⟨q0,q1,q2⟩:=g1.facts;have f1:=z1.free 1;have f2:=z1.free 2;have z0:=hb1.size;simp at z0;have ne3:rb≠w1.heap.size:=(by omega);have ne4:w.heap.size≠w1.heap.size:=(by omega))
  |(go_at_call 147;refine (Ze2 z1 he _ _).mono ?_;rintro r w2 ⟨rfl,rfl⟩))
 all_goals refine bodyPost_ret (v:=.agg #[.int .u8 kc,.string ts,.int .i64 ((p:Nat):Int)]) (by simp[results,results97,go_sem,v0,v1,v2]) rfl ⟨rfl,?_⟩
 all_goals exact Zo6 hlt.1 hlt.2 (Nat.le_refl _) (Zaa.of_below (((Zab w _).trans (hb1.mono (by simp))).alloc (by omega) _)) z1 _ _ _
theorem Z09 (h:Rz w rb tb cap l fv pv k d e a)(he:e≠0)(kc:Int)(u:ByteArray)(hct:Zba (l[k]'h.hk).1.k=40)(m1:((40:Int) != kc)=true)(m3:¬ (40:Int)=kc):
  Calls prog 97 #[.pointer (some ⟨rb,0,none⟩),.int .u8 kc,.string u] w fun r w'=>r=.returned (Zaq (l[k]'h.hk))∧Zaa (·=rb) w w'∧Rz w' rb tb cap l fv pv k d e a:=by
 have hlt:=h.lt
 have hl:=h.hl
 have hd:=h.hd
 have hne1:=Nat.ne_of_lt hlt.1
 have hne2:=Nat.ne_of_lt hlt.2
 have cn:=Zbf (h.alloc Zfx)
 have hk:=h.hk
 have hcv:Zaq (l[k]'h.hk)=.agg #[.int .u8 40,.string (l[k]'h.hk).2,.int .i64 (((l[k]'h.hk).1.at_:Nat):Int)]:=by rw[←hct]
 clear hct
 generalize (l[k]'h.hk).2=ts at *
 generalize (l[k]'h.hk).1.at_=p at *
 generalize Zaq (l[k]'h.hk)=tv at *
 subst hcv
 go_enter func97,ntmps97
 go_wp2_with (first
  |(go_at_call 56;refine cn.mono ?_;rintro r w1 ⟨rfl,hb1⟩;have z1:=((h.alloc Zfx).below hb1).alloc (Zc3 40 ts p);have b1:=((Bx.new w).below hb1).below (Zab w1 (Zc3 40 ts p));have g1:=Za9 w1 40 ts p;obtain⟨c0,c1,c2,c3,c4,_⟩:=z1.cells;obtain⟨v0,v1,v2,v3,v4,v5⟩:=b1.facts;obtain⟨q0,q1,q2⟩:=g1.facts;have f1:=z1.free 1;have f2:=z1.free 2;have z0:=hb1.size;simp at z0;have ne3:rb≠w1.heap.size:=(by omega);have ne4:w.heap.size≠w1.heap.size:=(by omega))
  |(go_at_call 147;refine (Ze2 z1 he _ _).mono ?_;rintro r w2 ⟨rfl,rfl⟩))
 all_goals refine bodyPost_ret (v:=.agg #[.int .u8 40,.string ts,.int .i64 ((p:Nat):Int)]) (by simp[results,results97,go_sem,v0,v1,v2]) rfl ⟨rfl,?_⟩
 all_goals exact Zo6 hlt.1 hlt.2 (Nat.le_refl _) (Zaa.of_below (((Zab w _).trans (hb1.mono (by simp))).alloc (by omega) _)) z1 _ _ _
theorem Z08 (h:Rz w rb tb cap l fv pv k d e a)(he:e≠0)(kc c:Int)(u:ByteArray)(hct:Zba (l[k]'h.hk).1.k=c)(m1:(c != kc)=true)(m3:¬ c=kc)(m2:(c==40)=false):
  Calls prog 97 #[.pointer (some ⟨rb,0,none⟩),.int .u8 kc,.string u] w fun r w'=>r=.returned (Zaq (l[k]'h.hk))∧Zaa (·=rb) w w'∧Rz w' rb tb cap l fv pv k d e a:=by
 have hlt:=h.lt
 have hl:=h.hl
 have hd:=h.hd
 have hne1:=Nat.ne_of_lt hlt.1
 have hne2:=Nat.ne_of_lt hlt.2
 have cn:=Zbf (h.alloc Zfx)
 have hk:=h.hk
 have hcv:Zaq (l[k]'h.hk)=.agg #[.int .u8 c,.string (l[k]'h.hk).2,.int .i64 (((l[k]'h.hk).1.at_:Nat):Int)]:=by rw[←hct]
 clear hct
 generalize (l[k]'h.hk).2=ts at *
 generalize (l[k]'h.hk).1.at_=p at *
 generalize Zaq (l[k]'h.hk)=tv at *
 subst hcv
 go_enter func97,ntmps97
 go_wp2_with (first
  |(go_at_call 56;refine cn.mono ?_;rintro r w1 ⟨rfl,hb1⟩;have z1:=((h.alloc Zfx).below hb1).alloc (Zc3 c ts p);have b1:=((Bx.new w).below hb1).below (Zab w1 (Zc3 c ts p));have g1:=Za9 w1 c ts p;obtain⟨c0,c1,c2,c3,c4,_⟩:=z1.cells;obtain⟨v0,v1,v2,v3,v4,v5⟩:=b1.facts;obtain⟨q0,q1,q2⟩:=g1.facts;have f1:=z1.free 1;have f2:=z1.free 2;have z0:=hb1.size;simp at z0;have ne3:rb≠w1.heap.size:=(by omega);have ne4:w.heap.size≠w1.heap.size:=(by omega))
  |(go_at_call 147;refine (Ze2 z1 he _ _).mono ?_;rintro r w2 ⟨rfl,rfl⟩))
 all_goals refine bodyPost_ret (v:=.agg #[.int .u8 c,.string ts,.int .i64 ((p:Nat):Int)]) (by simp[results,results97,go_sem,v0,v1,v2]) rfl ⟨rfl,?_⟩
 all_goals exact Zo6 hlt.1 hlt.2 (Nat.le_refl _) (Zaa.of_below (((Zab w _).trans (hb1.mono (by simp))).alloc (by omega) _)) z1 _ _ _
theorem Zb8 (h:Rz w rb tb cap l fv pv k d e a)(he:e≠0)(kc:Int)(u:ByteArray):
  Calls prog 97 #[.pointer (some ⟨rb,0,none⟩),.int .u8 kc,.string u] w fun r w'=>r=.returned (Zaq (l[k]'h.hk))∧Zaa (·=rb) w w'∧Rz w' rb tb cap l fv pv k d e a:=by
 by_cases h1:Zba (l[k]'h.hk).1.k=kc
 ·by_cases h2:kc=40
  ·subst h2;exact Z1b h he u h1
  ·exact Z1a h he kc u h1 (Zl2 h2)
 ·by_cases h2:Zba (l[k]'h.hk).1.k=40
  ·exact Z09 h he kc u h2 (Zlb (by rw[←h2];exact h1)) (by rw[←h2];exact h1)
  ·exact Z08 h he kc _ u rfl (Zlb h1) h1 (Zl2 h2)
theorem Zye (h:Rz w rb tb cap l fv pv k d 0 a)(kc:Int)(u:ByteArray)(hct:Zba (l[k]'h.hk).1.k=40)(m1:((40:Int) != kc)=true)(_m3:¬ (40:Int)=kc):
  Calls prog 97 #[.pointer (some ⟨rb,0,none⟩),.int .u8 kc,.string u] w fun r w'=>r=.returned (Zaq (l[k]'h.hk))∧Zaa (·=rb) w w'∧Rz w' rb tb cap l fv pv k d 2 (l[k]'h.hk).1.at_:=by
 have hlt:=h.lt
 have hl:=h.hl
 have hd:=h.hd
 have hne1:=Nat.ne_of_lt hlt.1
 have hne2:=Nat.ne_of_lt hlt.2
 have cn:=Zbf (h.alloc Zfx)
 have hk:=h.hk
 have hcv:Zaq (l[k]'h.hk)=.agg #[.int .u8 40,.string (l[k]'h.hk).2,.int .i64 (((l[k]'h.hk).1.at_:Nat):Int)]:=by rw[←hct]
 clear hct
 generalize (l[k]'h.hk).2=ts at *
 generalize (l[k]'h.hk).1.at_=p at *
 generalize Zaq (l[k]'h.hk)=tv at *
 subst hcv
 go_enter func97,ntmps97
 go_wp2_with (first
  |(go_at_call 56;refine cn.mono ?_;rintro r w1 ⟨rfl,hb1⟩;have z1:=((h.alloc Zfx).below hb1).alloc (Zc3 40 ts p);have b1:=((Bx.new w).below hb1).below (Zab w1 (Zc3 40 ts p));have g1:=Za9 w1 40 ts p;obtain⟨c0,c1,c2,c3,c4,_⟩:=z1.cells;obtain⟨v0,v1,v2,v3,v4,v5⟩:=b1.facts;obtain⟨q0,q1,q2⟩:=g1.facts;have f1:=z1.free 1;have f2:=z1.free 2;have z0:=hb1.size;simp at z0;have ne3:rb≠w1.heap.size:=(by omega);have ne4:w.heap.size≠w1.heap.size:=(by omega))
  |(go_at_call 147;refine (Ze2 z2 (by decide) 3 _).mono ?_;rintro r w3 ⟨rfl,rfl⟩)
  |(go_at_call 147;refine (Zfb z1 p).mono ?_;rintro r w2 ⟨rfl,ht2,z2⟩;have b2:=b1.touch ht2 (Ne.symm hne1);have g2:=g1.touch ht2 (Ne.symm ne3);obtain⟨e0,e1,e2,e3,e4,_⟩:=z2.cells;obtain⟨x0,x1,x2,x3,x4,x5⟩:=b2.facts;obtain⟨y0,y1,y2⟩:=g2.facts;clear c0 c1 c2 c3 c4 v0 v1 v2 v3 v4 v5 q0 q1 q2 f1 f2))
 all_goals refine bodyPost_ret (v:=.agg #[.int .u8 40,.string ts,.int .i64 ((p:Nat):Int)]) (by simp[results,results97,go_sem,x0,x1,x2]) rfl ⟨rfl,?_⟩
 all_goals exact Zo6 hlt.1 hlt.2 (Nat.le_refl _) ((Zaa.of_below (((Zab w _).trans (hb1.mono (by simp))).alloc (by omega) _)).trans ht2) z2 _ _ _
theorem Zyd (h:Rz w rb tb cap l fv pv k d 0 a)(kc c:Int)(u:ByteArray)(hct:Zba (l[k]'h.hk).1.k=c)(m1:(c != kc)=true)(_m3:¬ c=kc)(m2:(c==40)=false):
  Calls prog 97 #[.pointer (some ⟨rb,0,none⟩),.int .u8 kc,.string u] w fun r w'=>r=.returned (Zaq (l[k]'h.hk))∧Zaa (·=rb) w w'∧Rz w' rb tb cap l fv pv k d 2 (l[k]'h.hk).1.at_:=by
 have hlt:=h.lt
 have hl:=h.hl
 have hd:=h.hd
 have hne1:=Nat.ne_of_lt hlt.1
 have hne2:=Nat.ne_of_lt hlt.2
 have cn:=Zbf (h.alloc Zfx)
 have hk:=h.hk
 have hcv:Zaq (l[k]'h.hk)=.agg #[.int .u8 c,.string (l[k]'h.hk).2,.int .i64 (((l[k]'h.hk).1.at_:Nat):Int)]:=by rw[←hct]
 clear hct
 generalize (l[k]'h.hk).2=ts at *
 generalize (l[k]'h.hk).1.at_=p at *
 generalize Zaq (l[k]'h.hk)=tv at *
 subst hcv
 go_enter func97,ntmps97
 go_wp2_with (first
  |(go_at_call 56;refine cn.mono ?_;rintro r w1 ⟨rfl,hb1⟩;have z1:=((h.alloc Zfx).below hb1).alloc (Zc3 c ts p);have b1:=((Bx.new w).below hb1).below (Zab w1 (Zc3 c ts p));have g1:=Za9 w1 c ts p;obtain⟨c0,c1,c2,c3,c4,_⟩:=z1.cells;obtain⟨v0,v1,v2,v3,v4,v5⟩:=b1.facts;obtain⟨q0,q1,q2⟩:=g1.facts;have f1:=z1.free 1;have f2:=z1.free 2;have z0:=hb1.size;simp at z0;have ne3:rb≠w1.heap.size:=(by omega);have ne4:w.heap.size≠w1.heap.size:=(by omega))
  |(go_at_call 147;refine (Ze2 z2 (by decide) 3 _).mono ?_;rintro r w3 ⟨rfl,rfl⟩)
  |(go_at_call 147;refine (Zfb z1 p).mono ?_;rintro r w2 ⟨rfl,ht2,z2⟩;have b2:=b1.touch ht2 (Ne.symm hne1);have g2:=g1.touch ht2 (Ne.symm ne3);obtain⟨e0,e1,e2,e3,e4,_⟩:=z2.cells;obtain⟨x0,x1,x2,x3,x4,x5⟩:=b2.facts;obtain⟨y0,y1,y2⟩:=g2.facts;clear c0 c1 c2 c3 c4 v0 v1 v2 v3 v4 v5 q0 q1 q2 f1 f2))
 all_goals refine bodyPost_ret (v:=.agg #[.int .u8 c,.string ts,.int .i64 ((p:Nat):Int)]) (by simp[results,results97,go_sem,x0,x1,x2]) rfl ⟨rfl,?_⟩
 all_goals exact Zo6 hlt.1 hlt.2 (Nat.le_refl _) ((Zaa.of_below (((Zab w _).trans (hb1.mono (by simp))).alloc (by omega) _)).trans ht2) z2 _ _ _
theorem Zge (h:Rz w rb tb cap l fv pv k d 0 a)(kc:Int)(u:ByteArray)(hne:Zba (l[k]'h.hk).1.k≠kc):
  Calls prog 97 #[.pointer (some ⟨rb,0,none⟩),.int .u8 kc,.string u] w fun r w'=>r=.returned (Zaq (l[k]'h.hk))∧Zaa (·=rb) w w'∧Rz w' rb tb cap l fv pv k d 2 (l[k]'h.hk).1.at_:=by
 by_cases h2:Zba (l[k]'h.hk).1.k=40
 ·exact Zye h kc u h2 (Zlb (by rw[←h2];exact hne)) (by rw[←h2];exact hne)
 ·exact Zyd h kc _ u rfl (Zlb hne) hne (Zl2 h2)
theorem Z1c (h:Rz w rb tb cap l fv pv k 16 0 a)(hct:Zba (l[k]'h.hk).1.k=40):
  Calls prog 97 #[.pointer (some ⟨rb,0,none⟩),.int .u8 40,.string ⟨#[]⟩] w fun r w'=>r=.returned (Zaq (l[k]'h.hk))∧Zaa (·=rb) w w'∧Rz w' rb tb cap l fv pv k 16 3 (l[k]'h.hk).1.at_:=by
 have hlt:=h.lt
 have hl:=h.hl
 have hd:=h.hd
 have hne1:=Nat.ne_of_lt hlt.1
 have hne2:=Nat.ne_of_lt hlt.2
 have cn:=Zbf (h.alloc Zfx)
 have hk:=h.hk
 have hcv:Zaq (l[k]'h.hk)=.agg #[.int .u8 40,.string (l[k]'h.hk).2,.int .i64 (((l[k]'h.hk).1.at_:Nat):Int)]:=by rw[←hct]
 clear hct
 generalize (l[k]'h.hk).2=ts at *
 generalize (l[k]'h.hk).1.at_=p at *
 generalize Zaq (l[k]'h.hk)=tv at *
 subst hcv
 go_enter func97,ntmps97
 go_wp2_with (first
  |(go_at_call 56;refine cn.mono ?_;rintro r w1 ⟨rfl,hb1⟩;have z1:=((h.alloc Zfx).below hb1).alloc (Zc3 40 ts p);have b1:=((Bx.new w).below hb1).below (Zab w1 (Zc3 40 ts p));have g1:=Za9 w1 40 ts p;obtain⟨c0,c1,c2,c3,c4,_⟩:=z1.cells;obtain⟨v0,v1,v2,v3,v4,v5⟩:=b1.facts;obtain⟨q0,q1,q2⟩:=g1.facts;have f1:=z1.free 1;have f2:=z1.free 2;have z0:=hb1.size;simp at z0;have ne3:rb≠w1.heap.size:=(by omega);have ne4:w.heap.size≠w1.heap.size:=(by omega))
  |(go_at_call 147;refine (Zxg z1 p).mono ?_;rintro r w2 ⟨rfl,ht2,z2⟩;have b2:=b1.touch ht2 (Ne.symm hne1);have g2:=g1.touch ht2 (Ne.symm ne3);obtain⟨e0,e1,e2,e3,e4,_⟩:=z2.cells;obtain⟨x0,x1,x2,x3,x4,x5⟩:=b2.facts;obtain⟨y0,y1,y2⟩:=g2.facts;clear c0 c1 c2 c3 c4 v0 v1 v2 v3 v4 v5 q0 q1 q2 f1 f2))
 all_goals refine bodyPost_ret (v:=.agg #[.int .u8 40,.string ts,.int .i64 ((p:Nat):Int)]) (by simp[results,results97,go_sem,x0,x1,x2]) rfl ⟨rfl,?_⟩
 all_goals exact Zo6 hlt.1 hlt.2 (Nat.le_refl _) ((Zaa.of_below (((Zab w _).trans (hb1.mono (by simp))).alloc (by omega) _)).trans ht2) z2 _ _ _
theorem Zyc (h:Rz w rb tb cap l fv pv k d 0 a)(hct:Zba (l[k]'h.hk).1.k=97)(hb:((l[k]'h.hk).2.toList==[102,117,110])=false):
  Calls prog 97 #[.pointer (some ⟨rb,0,none⟩),.int .u8 97,.string funB] w fun r w'=>r=.returned (Zaq (l[k]'h.hk))∧Zaa (·=rb) w w'∧Rz w' rb tb cap l fv pv k d 2 (l[k]'h.hk).1.at_:=by
 have hlt:=h.lt
 have hl:=h.hl
 have hd:=h.hd
 have hne1:=Nat.ne_of_lt hlt.1
 have hne2:=Nat.ne_of_lt hlt.2
 have cn:=Zbf (h.alloc Zfx)
 have hk:=h.hk
 have hcv:Zaq (l[k]'h.hk)=.agg #[.int .u8 97,.string (l[k]'h.hk).2,.int .i64 (((l[k]'h.hk).1.at_:Nat):Int)]:=by rw[←hct]
 clear hct
 generalize (l[k]'h.hk).2=ts at *
 generalize (l[k]'h.hk).1.at_=p at *
 generalize Zaq (l[k]'h.hk)=tv at *
 subst hcv
 go_enter func97,ntmps97
 go_wp2_with (first
  |(go_at_call 56;refine cn.mono ?_;rintro r w1 ⟨rfl,hb1⟩;have z1:=((h.alloc Zfx).below hb1).alloc (Zc3 97 ts p);have b1:=((Bx.new w).below hb1).below (Zab w1 (Zc3 97 ts p));have g1:=Za9 w1 97 ts p;obtain⟨c0,c1,c2,c3,c4,_⟩:=z1.cells;obtain⟨v0,v1,v2,v3,v4,v5⟩:=b1.facts;obtain⟨q0,q1,q2⟩:=g1.facts;have f1:=z1.free 1;have f2:=z1.free 2;have z0:=hb1.size;simp at z0;have ne3:rb≠w1.heap.size:=(by omega);have ne4:w.heap.size≠w1.heap.size:=(by omega))
  |(go_at_call 147;refine (Zfb z1 p).mono ?_;rintro r w2 ⟨rfl,ht2,z2⟩;have b2:=b1.touch ht2 (Ne.symm hne1);have g2:=g1.touch ht2 (Ne.symm ne3);obtain⟨e0,e1,e2,e3,e4,_⟩:=z2.cells;obtain⟨x0,x1,x2,x3,x4,x5⟩:=b2.facts;obtain⟨y0,y1,y2⟩:=g2.facts;clear c0 c1 c2 c3 c4 v0 v1 v2 v3 v4 v5 q0 q1 q2 f1 f2))
 all_goals refine bodyPost_ret (v:=.agg #[.int .u8 97,.string ts,.int .i64 ((p:Nat):Int)]) (by simp[results,results97,go_sem,x0,x1,x2]) rfl ⟨rfl,?_⟩
 all_goals exact Zo6 hlt.1 hlt.2 (Nat.le_refl _) ((Zaa.of_below (((Zab w _).trans (hb1.mono (by simp))).alloc (by omega) _)).trans ht2) z2 _ _ _
theorem Zjy (h:Rz w rb tb cap l fv pv k d 0 a)(hct:Zba (l[k]'h.hk).1.k=40)(hd2:d<16)(hn:k+1<l.length):
  Calls prog 97 #[.pointer (some ⟨rb,0,none⟩),.int .u8 40,.string ⟨#[]⟩] w fun r w'=>r=.returned (Zaq (l[k]'h.hk))∧Zaa (·=rb) w w'∧Rz w' rb tb cap l fv pv (k+1) (d+1) 0 a:=by
 have hlt:=h.lt
 have hl:=h.hl
 have hd:=h.hd
 have hne1:=Nat.ne_of_lt hlt.1
 have hne2:=Nat.ne_of_lt hlt.2
 have cn:=Zbf (h.alloc Zfx)
 have hk:=h.hk
 have hcv:Zaq (l[k]'h.hk)=.agg #[.int .u8 40,.string (l[k]'h.hk).2,.int .i64 (((l[k]'h.hk).1.at_:Nat):Int)]:=by rw[←hct]
 clear hct
 generalize (l[k]'h.hk).2=ts at *
 generalize (l[k]'h.hk).1.at_=p at *
 generalize Zaq (l[k]'h.hk)=tv at *
 subst hcv
 go_enter func97,ntmps97
 go_wp2_with (first
  |(go_at_call 56;refine cn.mono ?_;rintro r w1 ⟨rfl,hb1⟩;have z1:=((h.alloc Zfx).below hb1).alloc (Zc3 40 ts p);have b1:=((Bx.new w).below hb1).below (Zab w1 (Zc3 40 ts p));have g1:=Za9 w1 40 ts p;obtain⟨c0,c1,c2,c3,c4,_⟩:=z1.cells;obtain⟨v0,v1,v2,v3,v4,v5⟩:=b1.facts;obtain⟨q0,q1,q2⟩:=g1.facts;have f1:=z1.free 1;have f2:=z1.free 2;have z0:=hb1.size;simp at z0;have ne3:rb≠w1.heap.size:=(by omega);have ne4:w.heap.size≠w1.heap.size:=(by omega)))
 have H:=z1.step (d':=d+1) (by omega) hn
 refine bodyPost_ret (v:=.agg #[.int .u8 40,.string ts,.int .i64 ((p:Nat):Int)]) (by simp[results,results97,go_sem,v0,v1,v2]) rfl ⟨rfl,?_⟩
 exact Zo6 hlt.1 hlt.2 (Nat.le_refl _) ((Zaa.of_below (((Zab w _).trans (hb1.mono (by simp))).alloc (by omega) _)).trans H.2) H.1 _ _ _
theorem Zh2 (h:Rz w rb tb cap l fv pv k (d+1) 0 a)(hct:Zba (l[k]'h.hk).1.k=41)(hn:k+1<l.length):
  Calls prog 97 #[.pointer (some ⟨rb,0,none⟩),.int .u8 41,.string ⟨#[]⟩] w fun r w'=>r=.returned (Zaq (l[k]'h.hk))∧Zaa (·=rb) w w'∧Rz w' rb tb cap l fv pv (k+1) d 0 a:=by
 have hlt:=h.lt
 have hl:=h.hl
 have hd:=h.hd
 have hne1:=Nat.ne_of_lt hlt.1
 have hne2:=Nat.ne_of_lt hlt.2
 have cn:=Zbf (h.alloc Zfx)
 have hk:=h.hk
 have hcv:Zaq (l[k]'h.hk)=.agg #[.int .u8 41,.string (l[k]'h.hk).2,.int .i64 (((l[k]'h.hk).1.at_:Nat):Int)]:=by rw[←hct]
 clear hct
 generalize (l[k]'h.hk).2=ts at *
 generalize (l[k]'h.hk).1.at_=p at *
 generalize Zaq (l[k]'h.hk)=tv at *
 subst hcv
 go_enter func97,ntmps97
 go_wp2_with (first
  |(go_at_call 56;refine cn.mono ?_;rintro r w1 ⟨rfl,hb1⟩;have z1:=((h.alloc Zfx).below hb1).alloc (Zc3 41 ts p);have b1:=((Bx.new w).below hb1).below (Zab w1 (Zc3 41 ts p));have g1:=Za9 w1 41 ts p;obtain⟨c0,c1,c2,c3,c4,_⟩:=z1.cells;obtain⟨v0,v1,v2,v3,v4,v5⟩:=b1.facts;obtain⟨q0,q1,q2⟩:=g1.facts;have f1:=z1.free 1;have f2:=z1.free 2;have z0:=hb1.size;simp at z0;have ne3:rb≠w1.heap.size:=(by omega);have ne4:w.heap.size≠w1.heap.size:=(by omega)))
 have H:=z1.step (d':=d) (by omega) hn
 refine bodyPost_ret (v:=.agg #[.int .u8 41,.string ts,.int .i64 ((p:Nat):Int)]) (by simp[results,results97,go_sem,v0,v1,v2]) rfl ⟨rfl,?_⟩
 exact Zo6 hlt.1 hlt.2 (Nat.le_refl _) ((Zaa.of_below (((Zab w _).trans (hb1.mono (by simp))).alloc (by omega) _)).trans H.2) H.1 _ _ _
theorem over_num (h:Rz w rb tb cap l fv pv k d 0 a)(hct:Zba (l[k]'h.hk).1.k=49)(hn:k+1<l.length):
  Calls prog 97 #[.pointer (some ⟨rb,0,none⟩),.int .u8 49,.string ⟨#[]⟩] w fun r w'=>r=.returned (Zaq (l[k]'h.hk))∧Zaa (·=rb) w w'∧Rz w' rb tb cap l fv pv (k+1) d 0 a:=by
 have hlt:=h.lt
 have hl:=h.hl
 have hd:=h.hd
 have hne1:=Nat.ne_of_lt hlt.1
 have hne2:=Nat.ne_of_lt hlt.2
 have cn:=Zbf (h.alloc Zfx)
 have hk:=h.hk
 have hcv:Zaq (l[k]'h.hk)=.agg #[.int .u8 49,.string (l[k]'h.hk).2,.int .i64 (((l[k]'h.hk).1.at_:Nat):Int)]:=by rw[←hct]
 clear hct
 generalize (l[k]'h.hk).2=ts at *
 generalize (l[k]'h.hk).1.at_=p at *
 generalize Zaq (l[k]'h.hk)=tv at *
 subst hcv
 go_enter func97,ntmps97
 go_wp2_with (first
  |(go_at_call 56;refine cn.mono ?_;rintro r w1 ⟨rfl,hb1⟩;have z1:=((h.alloc Zfx).below hb1).alloc (Zc3 49 ts p);have b1:=((Bx.new w).below hb1).below (Zab w1 (Zc3 49 ts p));have g1:=Za9 w1 49 ts p;obtain⟨c0,c1,c2,c3,c4,_⟩:=z1.cells;obtain⟨v0,v1,v2,v3,v4,v5⟩:=b1.facts;obtain⟨q0,q1,q2⟩:=g1.facts;have f1:=z1.free 1;have f2:=z1.free 2;have z0:=hb1.size;simp at z0;have ne3:rb≠w1.heap.size:=(by omega);have ne4:w.heap.size≠w1.heap.size:=(by omega)))
 have H:=z1.step0 hn
 refine bodyPost_ret (v:=.agg #[.int .u8 49,.string ts,.int .i64 ((p:Nat):Int)]) (by simp[results,results97,go_sem,v0,v1,v2]) rfl ⟨rfl,?_⟩
 exact Zo6 hlt.1 hlt.2 (Nat.le_refl _) ((Zaa.of_below (((Zab w _).trans (hb1.mono (by simp))).alloc (by omega) _)).trans H.2) H.1 _ _ _
theorem over_txt (h:Rz w rb tb cap l fv pv k d 0 a)(hct:Zba (l[k]'h.hk).1.k=39)(hn:k+1<l.length):
  Calls prog 97 #[.pointer (some ⟨rb,0,none⟩),.int .u8 39,.string ⟨#[]⟩] w fun r w'=>r=.returned (Zaq (l[k]'h.hk))∧Zaa (·=rb) w w'∧Rz w' rb tb cap l fv pv (k+1) d 0 a:=by
 have hlt:=h.lt
 have hl:=h.hl
 have hd:=h.hd
 have hne1:=Nat.ne_of_lt hlt.1
 have hne2:=Nat.ne_of_lt hlt.2
 have cn:=Zbf (h.alloc Zfx)
 have hk:=h.hk
 have hcv:Zaq (l[k]'h.hk)=.agg #[.int .u8 39,.string (l[k]'h.hk).2,.int .i64 (((l[k]'h.hk).1.at_:Nat):Int)]:=by rw[←hct]
 clear hct
 generalize (l[k]'h.hk).2=ts at *
 generalize (l[k]'h.hk).1.at_=p at *
 generalize Zaq (l[k]'h.hk)=tv at *
 subst hcv
 go_enter func97,ntmps97
 go_wp2_with (first
  |(go_at_call 56;refine cn.mono ?_;rintro r w1 ⟨rfl,hb1⟩;have z1:=((h.alloc Zfx).below hb1).alloc (Zc3 39 ts p);have b1:=((Bx.new w).below hb1).below (Zab w1 (Zc3 39 ts p));have g1:=Za9 w1 39 ts p;obtain⟨c0,c1,c2,c3,c4,_⟩:=z1.cells;obtain⟨v0,v1,v2,v3,v4,v5⟩:=b1.facts;obtain⟨q0,q1,q2⟩:=g1.facts;have f1:=z1.free 1;have f2:=z1.free 2;have z0:=hb1.size;simp at z0;have ne3:rb≠w1.heap.size:=(by omega);have ne4:w.heap.size≠w1.heap.size:=(by omega)))
 have H:=z1.step0 hn
 refine bodyPost_ret (v:=.agg #[.int .u8 39,.string ts,.int .i64 ((p:Nat):Int)]) (by simp[results,results97,go_sem,v0,v1,v2]) rfl ⟨rfl,?_⟩
 exact Zo6 hlt.1 hlt.2 (Nat.le_refl _) ((Zaa.of_below (((Zab w _).trans (hb1.mono (by simp))).alloc (by omega) _)).trans H.2) H.1 _ _ _
theorem Zjw (h:Rz w rb tb cap l fv pv k d 0 a)(hct:Zba (l[k]'h.hk).1.k=97)(hn:k+1<l.length):
  Calls prog 97 #[.pointer (some ⟨rb,0,none⟩),.int .u8 97,.string ⟨#[]⟩] w fun r w'=>r=.returned (Zaq (l[k]'h.hk))∧Zaa (·=rb) w w'∧Rz w' rb tb cap l fv pv (k+1) d 0 a:=by
 have hlt:=h.lt
 have hl:=h.hl
 have hd:=h.hd
 have hne1:=Nat.ne_of_lt hlt.1
 have hne2:=Nat.ne_of_lt hlt.2
 have cn:=Zbf (h.alloc Zfx)
 have hk:=h.hk
 have hcv:Zaq (l[k]'h.hk)=.agg #[.int .u8 97,.string (l[k]'h.hk).2,.int .i64 (((l[k]'h.hk).1.at_:Nat):Int)]:=by rw[←hct]
 clear hct
 generalize (l[k]'h.hk).2=ts at *
 generalize (l[k]'h.hk).1.at_=p at *
 generalize Zaq (l[k]'h.hk)=tv at *
 subst hcv
 go_enter func97,ntmps97
 go_wp2_with (first
  |(go_at_call 56;refine cn.mono ?_;rintro r w1 ⟨rfl,hb1⟩;have z1:=((h.alloc Zfx).below hb1).alloc (Zc3 97 ts p);have b1:=((Bx.new w).below hb1).below (Zab w1 (Zc3 97 ts p));have g1:=Za9 w1 97 ts p;obtain⟨c0,c1,c2,c3,c4,_⟩:=z1.cells;obtain⟨v0,v1,v2,v3,v4,v5⟩:=b1.facts;obtain⟨q0,q1,q2⟩:=g1.facts;have f1:=z1.free 1;have f2:=z1.free 2;have z0:=hb1.size;simp at z0;have ne3:rb≠w1.heap.size:=(by omega);have ne4:w.heap.size≠w1.heap.size:=(by omega)))
 have H:=z1.step0 hn
 refine bodyPost_ret (v:=.agg #[.int .u8 97,.string ts,.int .i64 ((p:Nat):Int)]) (by simp[results,results97,go_sem,v0,v1,v2]) rfl ⟨rfl,?_⟩
 exact Zo6 hlt.1 hlt.2 (Nat.le_refl _) ((Zaa.of_below (((Zab w _).trans (hb1.mono (by simp))).alloc (by omega) _)).trans H.2) H.1 _ _ _
theorem over_fun (h:Rz w rb tb cap l fv pv k d 0 a)(hct:Zba (l[k]'h.hk).1.k=97)(hb:((l[k]'h.hk).2.toList==[102,117,110])=true)(hn:k+1<l.length):
  Calls prog 97 #[.pointer (some ⟨rb,0,none⟩),.int .u8 97,.string funB] w fun r w'=>r=.returned (Zaq (l[k]'h.hk))∧Zaa (·=rb) w w'∧Rz w' rb tb cap l fv pv (k+1) d 0 a:=by
 have hlt:=h.lt
 have hl:=h.hl
 have hd:=h.hd
 have hne1:=Nat.ne_of_lt hlt.1
 have hne2:=Nat.ne_of_lt hlt.2
 have cn:=Zbf (h.alloc Zfx)
 have hk:=h.hk
 have hcv:Zaq (l[k]'h.hk)=.agg #[.int .u8 97,.string (l[k]'h.hk).2,.int .i64 (((l[k]'h.hk).1.at_:Nat):Int)]:=by rw[←hct]
 clear hct
 generalize (l[k]'h.hk).2=ts at *
 generalize (l[k]'h.hk).1.at_=p at *
 generalize Zaq (l[k]'h.hk)=tv at *
 subst hcv
 go_enter func97,ntmps97
 go_wp2_with (first
  |(go_at_call 56;refine cn.mono ?_;rintro r w1 ⟨rfl,hb1⟩;have z1:=((h.alloc Zfx).below hb1).alloc (Zc3 97 ts p);have b1:=((Bx.new w).below hb1).below (Zab w1 (Zc3 97 ts p));have g1:=Za9 w1 97 ts p;obtain⟨c0,c1,c2,c3,c4,_⟩:=z1.cells;obtain⟨v0,v1,v2,v3,v4,v5⟩:=b1.facts;obtain⟨q0,q1,q2⟩:=g1.facts;have f1:=z1.free 1;have f2:=z1.free 2;have z0:=hb1.size;simp at z0;have ne3:rb≠w1.heap.size:=(by omega);have ne4:w.heap.size≠w1.heap.size:=(by omega)))
 have H:=z1.step0 hn
 refine bodyPost_ret (v:=.agg #[.int .u8 97,.string ts,.int .i64 ((p:Nat):Int)]) (by simp[results,results97,go_sem,v0,v1,v2]) rfl ⟨rfl,?_⟩
 exact Zo6 hlt.1 hlt.2 (Nat.le_refl _) ((Zaa.of_below (((Zab w _).trans (hb1.mono (by simp))).alloc (by omega) _)).trans H.2) H.1 _ _ _
end
end Go.Proofs.YtliapghpeoaonaaGreatDoor
