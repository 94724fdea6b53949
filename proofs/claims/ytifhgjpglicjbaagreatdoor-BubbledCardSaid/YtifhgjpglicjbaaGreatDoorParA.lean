/-
  The small functions of the parser of package program: what each answers.
-/
import Derived.Test.YtifhgjpglicjbaaGreatDoorNext
import Derived.Test.YtifhgjpglicjbaaGreatDoorPure
import Derived.Deep.LoopGhost
import Derived.OwnWalk
import Derived.Maps.AppendAt
set_option maxHeartbeats 2000000
namespace Go.Proofs.YtifhgjpglicjbaaGreatDoor
open Go.Proofs.Tryz
open Go.RowKit
attribute [local go_sem ↓] Go.wp_at_zero Go.wp_at_succ
def shapeV:Option (Bool×Int)→Value
 | some (b,n)=>.tuple #[.agg #[.bool b,.int .i64 n],.bool true]
 | none=>.tuple #[.agg #[.bool false,.int .i64 0],.bool false]
theorem shapeOf_any (s:ByteArray)(w:World):
  Calls prog 197 #[.string s] w fun e w'=>e=.returned (shapeV (shapeL s.toList))∧Below w.heap.size w w':=by
 rcases shape_cases s.toList with h | h | h | h | h | h | h | h | h | h | h | h | h | h | ⟨h,g0,g1,g2,g3,g4,g5,g6,g7,g8,g9,g10,g11,g12,g13⟩
 ·go_enter func197,ntmps197
  go_wp2
  exact bodyPost_ret (v:=.tuple #[.agg #[.bool false,.int .i64 (-1)],.bool true]) (by simp[results,results197,go_sem]) rfl ⟨by first | rfl | (rw[h];rfl),(Below.refl _ _).alloc (Nat.le_refl _) _⟩
 ·go_enter func197,ntmps197
  go_wp2
  exact bodyPost_ret (v:=.tuple #[.agg #[.bool true,.int .i64 (-1)],.bool true]) (by simp[results,results197,go_sem]) rfl ⟨by first | rfl | (rw[h];rfl),(Below.refl _ _).alloc (Nat.le_refl _) _⟩
 ·go_enter func197,ntmps197
  go_wp2
  exact bodyPost_ret (v:=.tuple #[.agg #[.bool true,.int .i64 (1)],.bool true]) (by simp[results,results197,go_sem]) rfl ⟨by first | rfl | (rw[h];rfl),(Below.refl _ _).alloc (Nat.le_refl _) _⟩
 ·go_enter func197,ntmps197
  go_wp2
  exact bodyPost_ret (v:=.tuple #[.agg #[.bool true,.int .i64 (2)],.bool true]) (by simp[results,results197,go_sem]) rfl ⟨by first | rfl | (rw[h];rfl),(Below.refl _ _).alloc (Nat.le_refl _) _⟩
 ·go_enter func197,ntmps197
  go_wp2
  exact bodyPost_ret (v:=.tuple #[.agg #[.bool false,.int .i64 (3)],.bool true]) (by simp[results,results197,go_sem]) rfl ⟨by first | rfl | (rw[h];rfl),(Below.refl _ _).alloc (Nat.le_refl _) _⟩
 ·go_enter func197,ntmps197
  go_wp2
  exact bodyPost_ret (v:=.tuple #[.agg #[.bool false,.int .i64 (3)],.bool true]) (by simp[results,results197,go_sem]) rfl ⟨by first | rfl | (rw[h];rfl),(Below.refl _ _).alloc (Nat.le_refl _) _⟩
 ·go_enter func197,ntmps197
  go_wp2
  exact bodyPost_ret (v:=.tuple #[.agg #[.bool false,.int .i64 (1)],.bool true]) (by simp[results,results197,go_sem]) rfl ⟨by first | rfl | (rw[h];rfl),(Below.refl _ _).alloc (Nat.le_refl _) _⟩
 ·go_enter func197,ntmps197
  go_wp2
  exact bodyPost_ret (v:=.tuple #[.agg #[.bool false,.int .i64 (2)],.bool true]) (by simp[results,results197,go_sem]) rfl ⟨by first | rfl | (rw[h];rfl),(Below.refl _ _).alloc (Nat.le_refl _) _⟩
 ·go_enter func197,ntmps197
  go_wp2
  exact bodyPost_ret (v:=.tuple #[.agg #[.bool false,.int .i64 (2)],.bool true]) (by simp[results,results197,go_sem]) rfl ⟨by first | rfl | (rw[h];rfl),(Below.refl _ _).alloc (Nat.le_refl _) _⟩
 ·go_enter func197,ntmps197
  go_wp2
  exact bodyPost_ret (v:=.tuple #[.agg #[.bool false,.int .i64 (2)],.bool true]) (by simp[results,results197,go_sem]) rfl ⟨by first | rfl | (rw[h];rfl),(Below.refl _ _).alloc (Nat.le_refl _) _⟩
 ·go_enter func197,ntmps197
  go_wp2
  exact bodyPost_ret (v:=.tuple #[.agg #[.bool false,.int .i64 (2)],.bool true]) (by simp[results,results197,go_sem]) rfl ⟨by first | rfl | (rw[h];rfl),(Below.refl _ _).alloc (Nat.le_refl _) _⟩
 ·go_enter func197,ntmps197
  go_wp2
  exact bodyPost_ret (v:=.tuple #[.agg #[.bool false,.int .i64 (2)],.bool true]) (by simp[results,results197,go_sem]) rfl ⟨by first | rfl | (rw[h];rfl),(Below.refl _ _).alloc (Nat.le_refl _) _⟩
 ·go_enter func197,ntmps197
  go_wp2
  exact bodyPost_ret (v:=.tuple #[.agg #[.bool false,.int .i64 (2)],.bool true]) (by simp[results,results197,go_sem]) rfl ⟨by first | rfl | (rw[h];rfl),(Below.refl _ _).alloc (Nat.le_refl _) _⟩
 ·go_enter func197,ntmps197
  go_wp2
  exact bodyPost_ret (v:=.tuple #[.agg #[.bool false,.int .i64 (2)],.bool true]) (by simp[results,results197,go_sem]) rfl ⟨by first | rfl | (rw[h];rfl),(Below.refl _ _).alloc (Nat.le_refl _) _⟩
 ·go_enter func197,ntmps197
  go_wp2
  exact bodyPost_ret (v:=.tuple #[.agg #[.bool false,.int .i64 0],.bool false]) (by simp[results,results197,go_sem]) rfl ⟨by first | rfl | (rw[h];rfl),(Below.refl _ _).alloc (Nat.le_refl _) _⟩
abbrev wrongV (at_:Nat)(a:Addr):Value:=.iface 116 (.agg #[.int .i64 ((at_:Nat):Int),errVal a])
abbrev tokV (k:Int)(at_:Nat)(bd:ByteArray):Value:=.agg #[.int .i64 k,.int .i64 ((at_:Nat):Int),.string bd]
abbrev nameV (bd:ByteArray)(at_:Nat):Value:=.agg #[.string bd,.int .i64 ((at_:Nat):Int)]
theorem shapeOf_data (s:ByteArray)(w:World):
  Calls prog 197 #[.string s] w fun e w'=>e=.returned (shapeV (shapeL s.data.toList))∧Below w.heap.size w w':=by
 rw[←ByteArray.toList_eq]
 exact shapeOf_any s w
theorem isReserved_any (s:ByteArray)(w:World):
  Calls prog 171 #[.string s] w fun e w'=>e=.returned (.bool (reservedL s.data.toList))∧Below w.heap.size w w':=by
 have cs:=shapeOf_data s
 have hr:Hid (reservedL s.data.toList=((shapeL s.data.toList).isSome || s.data.toList==[102,117,110])):=show reservedL _=_ from rfl
 rw[←ByteArray.toList_eq] at hr
 cases h:shapeL s.data.toList with
 | some p =>
  obtain⟨bb,n⟩:=p
  rw[h] at cs
  have hr2:Hid (reservedL s.data.toList=true):=by
   have:=hr.out
   rw[ByteArray.toList_eq,h] at this
   exact this
  clear hr h
  go_enter func171,ntmps171
  go_wp2_with (go_at_call 197;refine (cs _).mono ?_;rintro e w' ⟨rfl,hb⟩;simp only[shapeV])
  go_ret
  exact⟨by rw[hr2.out];rfl,hb.alloc hb.size _⟩
 | none =>
  rw[h] at cs
  have hr2:Hid (reservedL s.data.toList=(s.toList==[102,117,110])):=by
   have:=hr.out
   rw[ByteArray.toList_eq,h] at this
   rw[ByteArray.toList_eq]
   exact this
  clear hr h
  go_enter func171,ntmps171
  go_wp2_with (go_at_call 197;refine (cs _).mono ?_;rintro e w' ⟨rfl,hb⟩;simp only[shapeV])
  go_ret
  exact⟨by rw[hr2.out];rfl,hb.alloc hb.size _⟩
theorem misplaced_any (k:Int)(at_:Nat)(bd:ByteArray)(w:World)(aT:Addr)(hc:w.cell? ⟨6,0,none⟩=some (errVal aT)):
  Calls prog 133 #[tokV k at_ bd] w fun e w'=>e=.returned (wrongV at_ aT)∧Below w.heap.size w w':=by
 have hlt:=cell_lt hc
 have hn:=World.new_ne w _ hc
 go_enter func133,ntmps133
 go_wp2
 go_ret
 exact⟨rfl,(Below.refl _ _).alloc (Nat.le_refl _) _⟩
def isName (k:Int)(l:List UInt8):Bool:=k==5 && !reservedL l
theorem below2i {w w':World}{o o':Obj}(hb:Below ((w.alloc o).alloc o').heap.size ((w.alloc o).alloc o') w'):Below w.heap.size w w' :=
 (((Below.refl _ _).alloc (Nat.le_refl _) o).alloc (by simp) o').trans (hb.mono (by simp;omega))
theorem nameOf_ok (k:Int)(at_:Nat)(bd:ByteArray)(w:World)(hk:isName k bd.data.toList=true):
  Calls prog 134 #[tokV k at_ bd] w fun e w'=>e=.returned (.tuple #[nameV bd at_,.nilIface])∧Below w.heap.size w w':=by
 have cr:=isReserved_any bd
 simp only[isName,Bool.and_eq_true,beq_iff_eq,Bool.not_eq_true'] at hk
 obtain⟨rfl,hr⟩:=hk
 rw[hr] at cr
 clear hr
 go_enter func134,ntmps134
 go_wp2_with (go_at_call 171;refine (cr _).mono ?_;rintro e w' ⟨rfl,hb⟩;obtain⟨hbc,hbf,hbz⟩:=bcell hb;simp at hbz)
 exact bodyPost_ret (v:=.tuple #[nameV bd at_,.nilIface]) (by simp[results,results134,go_sem,hbc]) rfl ⟨rfl,((below2i hb).setCell (p:=⟨w.heap.size+1,0,none⟩) (by simp) _).setCell (p:=⟨w.heap.size+1,1,none⟩) (by simp) _⟩
theorem nameOf_no (k:Int)(at_:Nat)(bd:ByteArray)(w:World)(aT:Addr)(hc:w.cell? ⟨6,0,none⟩=some (errVal aT))(hk:isName k bd.data.toList=false):
  Calls prog 134 #[tokV k at_ bd] w fun e w'=>e=.returned (.tuple #[nameV ⟨#[]⟩ 0,wrongV at_ aT])∧Below w.heap.size w w':=by
 have cr:=isReserved_any bd
 by_cases h5:k=5
 ·subst h5
  have hr:reservedL bd.data.toList=true:=by simpa[isName] using hk
  rw[hr] at cr
  clear hr hk
  go_enter func134,ntmps134
  go_wp2_with (go_at_call 171;refine (cr _).mono ?_;rintro e w' ⟨rfl,hb⟩;obtain⟨hbc,hbf,hbz⟩:=bcell hb;simp at hbz;have hc':=Below.cellv hb (alloc_cell (alloc_cell hc)))
  refine (misplaced_any 5 at_ bd _ aT hc').mono ?_
  rintro e w2 ⟨rfl,hb2⟩
  obtain⟨hbc2,hbf2,hbz2⟩:=bcell hb2
  have hz1:w.heap.size+1<w'.heap.size:=by omega
  go_wp2
  exact bodyPost_ret (v:=.tuple #[nameV ⟨#[]⟩ 0,wrongV at_ aT]) (by simp[results,results134,go_sem,hbc,hbc2,hz1]) rfl ⟨rfl,(((below2i hb).trans (hb2.mono (by omega))).setCell (p:=⟨w.heap.size+1,0,none⟩) (by simp) _).setCell (p:=⟨w.heap.size+1,1,none⟩) (by simp) _⟩
 ·clear hk
  go_enter func134,ntmps134
  go_wp2_with (go_at_call 133;refine (misplaced_any k at_ bd _ aT ?_).mono ?_;(exact alloc_cell (alloc_cell hc));rintro e w' ⟨rfl,hb⟩;obtain⟨hbc,hbf,hbz⟩:=bcell hb;simp at hbz)
  exact bodyPost_ret (v:=.tuple #[nameV ⟨#[]⟩ 0,wrongV at_ aT]) (by simp[results,results134,go_sem,hbc]) rfl ⟨rfl,((below2i hb).setCell (p:=⟨w.heap.size+1,0,none⟩) (by simp) _).setCell (p:=⟨w.heap.size+1,1,none⟩) (by simp) _⟩
end Go.Proofs.YtifhgjpglicjbaaGreatDoor
namespace Go.Proofs.YtifhgjpglicjbaaGreatDoor
open Go.Proofs.Tryz
inductive Res (α:Type) where
 | ok (a:α) (rest:List Tok)
 | err (c at_:Nat)
inductive Ex where
 | num (b:List UInt8)
 | txt (b:List UInt8)
 | var (n:List UInt8) (at_:Nat)
 | form (w n:List UInt8) (at_:Nat) (kids:List Ex)
def innerL (l:List UInt8):List UInt8:=(l.drop 1).take (l.length-2)
def isNameT (t:Tok):Bool:=decide (t.k=.word) && !reservedL t.body
def shapeT (t:Tok):Option (Bool×Int):=if t.k=.word then shapeL t.body else none
def formR (w n:List UInt8)(at_:Nat):Res (List Ex)→Res Ex
 | .ok ks r=>.ok (.form w n at_ ks) r
 | .err c a=>.err c a
def pF (L:Nat→Int→List Tok→Res (List Ex))(d:Nat):List Tok→Res Ex
 | []=>.err 0 0
 | t::ts=>match shapeT t with
  | none=>.err 2 t.at_
  | some (false,n)=>formR t.body [] t.at_ (L d n ts)
  | some (true,n)=>match ts with
   | []=>.err 0 0
   | u::us=>if isNameT u then formR t.body u.body u.at_ (L d n us) else .err 2 u.at_
def pE (L:Nat→Int→List Tok→Res (List Ex))(d:Nat):List Tok→Res Ex
 | []=>.err 0 0
 | t::ts=>match t.k with
  | .num=>.ok (.num t.body) ts
  | .txt=>.ok (.txt (innerL t.body)) ts
  | .word=>if reservedL t.body then .err 2 t.at_ else .ok (.var t.body t.at_) ts
  | .opn=>if d=16 then .err 3 t.at_ else pF L (d+1) ts
  | _=>.err 2 t.at_
def consR (e:Ex):Res (List Ex)→Res (List Ex)
 | .ok es r=>.ok (e::es) r
 | .err c a=>.err c a
def pL:Nat→Nat→Int→List Tok→Res (List Ex)
 | 0,_,_,_=>.err 0 0
 | _+1,_,_,[]=>.err 0 0
 | f+1,d,m,t::ts =>
  if m=0∨(m<0∧t.k=.cls) then (if t.k=.cls then .ok [] ts else .err 2 t.at_)
  else match pE (pL f) d (t::ts) with
   | .err c a=>.err c a
   | .ok e r=>consR e (pL f d (if m<0 then m else m-1) r)
theorem pF_len {L:Nat→Int→List Tok→Res (List Ex)}(hL:∀d m ts es r,L d m ts=.ok es r→r.length<ts.length){d:Nat}{ts:List Tok}{e:Ex}{r:List Tok}(h:pF L d ts=.ok e r):r.length<ts.length:=by
 cases ts with
 | nil=>cases h
 | cons t ts =>
  simp only[pF] at h
  split at h
  ·cases h
  ·rename_i n _
   cases g:L d n ts with
   | err c a=>rw[g] at h;cases h
   | ok ks r' =>
    rw[g] at h
    cases h
    have:=hL _ _ _ _ _ g
    simp;omega
  ·rename_i n _
   cases ts with
   | nil=>cases h
   | cons u us =>
    simp only at h
    split at h
    ·cases g:L d n us with
     | err c a=>rw[g] at h;cases h
     | ok ks r' =>
      rw[g] at h
      cases h
      have:=hL _ _ _ _ _ g
      simp;omega
    ·cases h
theorem pE_len {L:Nat→Int→List Tok→Res (List Ex)}(hL:∀d m ts es r,L d m ts=.ok es r→r.length<ts.length){d:Nat}{ts:List Tok}{e:Ex}{r:List Tok}(h:pE L d ts=.ok e r):r.length<ts.length:=by
 cases ts with
 | nil=>cases h
 | cons t ts =>
  simp only[pE] at h
  split at h
  ·cases h;simp
  ·cases h;simp
  ·split at h
   ·cases h
   ·cases h;simp
  ·split at h
   ·cases h
   ·have:=pF_len hL h
    simp;omega
  ·cases h
theorem pL_len:∀(f d:Nat) (m:Int) (ts:List Tok) (es:List Ex) (r:List Tok),pL f d m ts=.ok es r→r.length<ts.length
 | 0,_,_,_,_,_,h=>by cases h
 | f+1,_,_,[],_,_,h=>by cases h
 | f+1,d,m,t::ts,es,r,h=>by
  simp only[pL] at h
  split at h
  ·split at h
   ·cases h;simp
   ·cases h
  ·cases g:pE (pL f) d (t::ts) with
   | err c a=>rw[g] at h;cases h
   | ok e r' =>
    rw[g] at h
    have h1:=pE_len (fun d m ts es r=>pL_len f d m ts es r) g
    cases g2:pL f d (if m<0 then m else m-1) r' with
    | err c a=>simp only[g2,consR] at h;cases h
    | ok es' r'' =>
     simp only[g2,consR] at h
     cases h
     have:=pL_len f _ _ _ _ _ g2
     omega
def consN (n:List UInt8×Nat):Res (List (List UInt8×Nat))→Res (List (List UInt8×Nat))
 | .ok ns r=>.ok (n::ns) r
 | .err c a=>.err c a
def pP:List Tok→Res (List (List UInt8×Nat))
 | []=>.err 0 0
 | t::ts=>if t.k=.cls then .ok [] ts else if isNameT t then consN (t.body,t.at_) (pP ts) else .err 2 t.at_
theorem pP_len:∀(ts:List Tok) (ns:List (List UInt8×Nat)) (r:List Tok),pP ts=.ok ns r→r.length<ts.length
 | [],_,_,h=>by cases h
 | t::ts,ns,r,h=>by
  simp only[pP] at h
  split at h
  ·cases h;simp
  ·split at h
   ·cases g:pP ts with
    | err c a=>simp only[g,consN] at h;cases h
    | ok ns' r' =>
     simp only[g,consN] at h
     cases h
     have:=pP_len ts _ _ g
     simp;omega
   ·cases h
def addE (pre:List Ex):Res (List Ex)→Res (List Ex)
 | .ok es r=>.ok (pre++es) r
 | .err c a=>.err c a
theorem addE_cons (pre:List Ex)(e:Ex)(r:Res (List Ex)):addE pre (consR e r)=addE (pre++[e]) r:=by cases r<;>simp[addE,consR]
theorem pL_bad {f d:Nat}{m:Int}{t:Tok}{ts:List Tok}(hk:t.k=.bad):pL (f+1) d m (t::ts)=.err 2 t.at_:=by
 by_cases h:m=0<;>simp[pL,h,hk,pE]
def stepR (f d:Nat)(m:Int):Res Ex→Res (List Ex)
 | .err c a=>.err c a
 | .ok e r=>consR e (pL f d (if m<0 then m else m-1) r)
theorem pL_step {f d:Nat}{m:Int}{t:Tok}{ts:List Tok}(h0:¬ m=0)(hc:m<0→t.k≠.cls):pL (f+1) d m (t::ts)=stepR f d m (pE (pL f) d (t::ts)):=by
 have:¬ (m=0∨(m<0∧t.k=.cls)):=by
  rintro (g | ⟨g1,g2⟩)
  ·exact h0 g
  ·exact hc g1 g2
 simp only[pL,this,if_false]
 cases pE (pL f) d (t::ts)<;>rfl
theorem pL_close {f d:Nat}{m:Int}{t:Tok}{ts:List Tok}(h:m=0∨(m<0∧t.k=.cls)):pL (f+1) d m (t::ts)=if t.k=.cls then .ok [] ts else .err 2 t.at_:=by
 simp only[pL,h,if_true]
end Go.Proofs.YtifhgjpglicjbaaGreatDoor
namespace Go.Proofs.YtifhgjpglicjbaaGreatDoor
open Go.Proofs.Tryz
open Go.RowKit
attribute [local go_sem ↓] Go.wp_at_zero Go.wp_at_succ
structure Pz (w:World)(pb rb:Nat)(s:ByteArray)(aT aD:Addr)(p d:Nat):Prop where
 rdr:w.cell? ⟨pb,0,none⟩=some (.pointer (some ⟨rb,0,none⟩))
 opn:w.cell? ⟨pb,1,none⟩=some (.int .i64 ((d:Nat):Int))
 free:w.frozen? ⟨pb,1,none⟩=false
 rd:RdAt w rb s p
 eT:w.cell? ⟨6,0,none⟩=some (errVal aT)
 eD:w.cell? ⟨1,0,none⟩=some (errVal aD)
 hs:s.size≤2000
 hne:rb≠pb
 h1:15≤rb
 h2:15≤pb
 hp:p≤s.size
 hd:d≤16
def PT (pb rb:Nat)(w w':World):Prop:=Touch (fun k=>k=rb∨k=pb) w w'
theorem PT.of_below {pb rb:Nat}{w w':World}(h:Below w.heap.size w w'):PT pb rb w w':=Touch.of_below h
theorem PT.trans {pb rb:Nat}{a b c:World}(h:PT pb rb a b)(k:PT pb rb b c):PT pb rb a c:=Touch.trans h k
theorem PT.refl {pb rb:Nat}(w:World):PT pb rb w w:=Touch.refl _ w
theorem Pz.keep {w w':World}{pb rb:Nat}{s:ByteArray}{aT aD:Addr}{p d:Nat}(h:Pz w pb rb s aT aD p d)(hb:Below w.heap.size w w'):Pz w' pb rb s aT aD p d :=
 { h with
  rdr:=Below.cellv hb h.rdr
  opn:=Below.cellv hb h.opn
  free:=by rw[hb.frozen (p:=⟨pb,1,none⟩) (cell_lt h.opn)];exact h.free
  rd:=⟨Below.cellv hb h.rd.text,Below.cellv hb h.rd.place,by rw[hb.frozen (p:=⟨rb,1,none⟩) (cell_lt h.rd.place)];exact h.rd.free⟩
  eT:=Below.cellv hb h.eT
  eD:=Below.cellv hb h.eD }
theorem Pz.step {w w':World}{pb rb:Nat}{s:ByteArray}{aT aD:Addr}{p d q:Nat}(h:Pz w pb rb s aT aD p d)(ht:Touch (·=rb) w w')(hr:RdAt w' rb s q)(hq:q≤s.size):Pz w' pb rb s aT aD q d :=
 { h with
  rdr:=ht.cell h.rdr (Ne.symm h.hne)
  opn:=ht.cell h.opn (Ne.symm h.hne)
  free:=by rw[ht.frozen (p:=⟨pb,1,none⟩) (cell_lt h.opn) (Ne.symm h.hne)];exact h.free
  rd:=hr
  eT:=ht.cell h.eT (by have:=h.h1;show ¬ (6=rb);omega)
  eD:=ht.cell h.eD (by have:=h.h1;show ¬ (1=rb);omega)
  hp:=hq }
theorem bodyL_other {k:K}(hk:k≠.txt)(l:List UInt8):bodyL k l=l:=by cases k<;>first | rfl | exact absurd rfl hk
theorem next_bad {w:World}{pb rb:Nat}{s:ByteArray}{aT aD:Addr}{p d:Nat}(h:Pz w pb rb s aT aD p d){t:Tok}{ts:List Tok}(hts:IsToks s.data.toList p (t::ts))(hk:t.k=.bad):
  Calls prog 71 #[.pointer (some ⟨rb,0,none⟩)] w fun e w'=>e=.returned (.tuple #[tokV 0 0 ⟨#[]⟩,wrongV t.at_ aT])∧PT pb rb w w':=by
 have e:nextTok s.data.toList p=t:=by cases hts<;>rfl
 refine (next_any rb s p w aT h.rd h.hp h.hs h.eT (by have:=h.h1;show ¬ rb=6;omega)).mono ?_
 rintro e' w' ⟨ht,hn⟩
 rw[e] at hn
 unfold nextPost at hn
 rw[hk] at hn
 exact⟨hn,ht.mono fun k hk=>Or.inl hk⟩
theorem next_good {w : World} {pb rb : Nat} {s : ByteArray} {aT aD : Addr} {p d : Nat} (h : Pz w pb rb s aT aD p d) {t : Tok} {ts : List Tok} (hts : IsToks s.data.toList p (t :: ts)) (hk : t.k ≠ .bad) :
    Calls Tryz.prog 71 #[.pointer (some ⟨rb, 0, none⟩)] w fun e w' => ∃ bd : ByteArray, e = .returned (.tuple #[tokV (kcode t.k) t.at_ bd, .nilIface]) ∧ bd.data.toList = bodyL t.k t.body ∧ bd.size ≤ 2000 ∧ PT pb rb w w'
      ∧ ∃ q, Pz w' pb rb s aT aD q d ∧ (t.k ≠ .eof → IsToks s.data.toList q ts) := by
  have e : nextTok s.data.toList p = t := by cases hts <;> rfl
  have hp := h.hp
  have hl := len_data s
  refine (next_any rb s p w aT h.rd h.hp h.hs h.eT (by have := h.h1; show ¬ rb = 6; omega)).mono ?_
  rintro e' w' ⟨ht, hn⟩
  rw [e] at hn
  have key : ∃ body : ByteArray, body.data.toList = bodyL t.k t.body ∧ body.size ≤ 2000 ∧ e' = .returned (.tuple #[tokV (kcode t.k) t.at_ body, .nilIface]) ∧ RdAt w' rb s (t.at_ + t.body.length) := by
    unfold nextPost at hn
    cases hk2 : t.k <;> rw [hk2] at hn <;> first | exact absurd hk2 hk | exact hn
  obtain ⟨bd, b1, b2, b3, b4⟩ := key
  refine ⟨bd, b3, b1, b2, ht.mono fun k hk => Or.inl hk, _, h.step ht b4 ?_, ?_⟩
  · by_cases he : t.k = .eof
    · have h1 := nextTok_at s.data.toList p (by omega)
      have h2 : t.body = [] := by
        rw [← e] at he ⊢
        simp only [nextTok] at he ⊢
        rw [(measureL_eof _ he).2]
        rfl
      rw [e] at h1
      rw [h2]
      simp
      omega
    · have h1 := nextTok_len s.data.toList p (by omega) (by rw [e]; exact he) (by rw [e]; exact hk)
      rw [e] at h1
      omega
  · intro he
    cases hts with
    | last h => rcases h with g | g
                · exact absurd g he
                · exact absurd g hk
    | more _ _ h3 => exact h3
theorem Pz.bump {w:World}{pb rb:Nat}{s:ByteArray}{aT aD:Addr}{p d d':Nat}{v:Value}{o:Obj}(h:Pz w pb rb s aT aD p d)(hd:d'≤16)(hv:v=.int .i64 ((d':Nat):Int)):
  Pz ((w.setCell ⟨pb,1,none⟩ v).alloc o) pb rb s aT aD p d'∧PT pb rb w ((w.setCell ⟨pb,1,none⟩ v).alloc o):=by
 subst hv
 have hne:=h.hne
 have g1:=h.h1
 have g2:=h.h2
 have far:∀{a:Addr} {x:Value},w.cell? a=some x→a≠⟨pb,1,none⟩→((w.setCell ⟨pb,1,none⟩ (.int .i64 ((d':Nat):Int))).alloc o).cell? a=some x:=fun {a x} ha hn =>
  alloc_cell (by rw[World.cell?_setCell_other _ _ _ _ (Ne.symm hn)];exact ha)
 have hsz:(w.setCell ⟨pb,1,none⟩ (.int .i64 ((d':Nat):Int))).heap.size=w.heap.size:=by simp[World.setCell]
 have fr:∀(a:Addr),a.block<w.heap.size→w.frozen? a=false→((w.setCell ⟨pb,1,none⟩ (.int .i64 ((d':Nat):Int))).alloc o).frozen? a=false:=fun a hlt hf=>by
  rw[World.frozen?_alloc_old _ _ _ (by rw[hsz];exact Nat.ne_of_lt hlt),World.frozen?_setCell];exact hf
 refine⟨{ h with
  rdr:=far h.rdr (by simp)
  opn:=alloc_cell (World.cell?_setCell_same _ _ _ h.opn)
  free:=fr _ (cell_lt h.opn) h.free
  rd:=⟨far h.rd.text (by simp),far h.rd.place (by simp),fr _ (cell_lt h.rd.place) h.rd.free⟩
  eT:=far h.eT (by simp)
  eD:=far h.eD (by simp)
  hd:=hd },((Touch.refl _ w).setCell (Or.inl (Or.inr rfl)) _).alloc o⟩
theorem enter_ok {w:World}{pb rb:Nat}{s:ByteArray}{aT aD:Addr}{p d:Nat}(h:Pz w pb rb s aT aD p d)(at_:Nat)(bd:ByteArray)(hd:d≠16):
  Calls prog 97 #[.pointer (some ⟨pb,0,none⟩),tokV 1 at_ bd] w fun e w'=>e=.returned .nilIface∧PT pb rb w w'∧Pz w' pb rb s aT aD p (d+1):=by
 have hz:=h
 obtain⟨r1,r2,r3,r4,e1,e2,s1,s2,s3,s4,s5,s6⟩:=h
 have hlt:=cell_lt r2
 have hn:=World.new_ne w _ r2
 have hd2:((d:Int)==16)=false:=by simp;omega
 have hd3:(d:Int)≤16:=by omega
 have hf:∀o,(w.alloc o).frozen? ⟨pb,1,none⟩=false:=fun o=>by
  rw[World.frozen?_alloc_old _ _ _ (Nat.ne_of_lt hlt)];exact r3
 go_enter func97,ntmps97
 go_wp2
 go_ret
 have hb:=hz.bump (d':=d+1) (v:=.int .i64 ((d:Int)+1)) (o:=Obj.cells #[.int .i64 1,.int .i64 ((at_:Nat):Int),.string bd] 173) (by omega) (by go_num)
 exact⟨rfl,hb.2,hb.1⟩
theorem enter_deep {w:World}{pb rb:Nat}{s:ByteArray}{aT aD:Addr}{p:Nat}(h:Pz w pb rb s aT aD p 16)(at_:Nat)(bd:ByteArray):
  Calls prog 97 #[.pointer (some ⟨pb,0,none⟩),tokV 1 at_ bd] w fun e w'=>e=.returned (wrongV at_ aD)∧Below w.heap.size w w':=by
 obtain⟨r1,r2,r3,r4,e1,e2,s1,s2,s3,s4,s5,s6⟩:=h
 have hlt:=cell_lt r2
 have hn:=World.new_ne w _ r2
 have hlt2:=cell_lt e2
 have hn2:=World.new_ne w _ e2
 go_enter func97,ntmps97
 go_wp2
 go_ret
 exact⟨rfl,(Below.refl _ _).alloc (Nat.le_refl _) _⟩
theorem enter_no {w:World}{pb rb:Nat}{s:ByteArray}{aT aD:Addr}{p d:Nat}(h:Pz w pb rb s aT aD p d)(k:Int)(at_:Nat)(bd:ByteArray)(hk:¬ k=1):
  Calls prog 97 #[.pointer (some ⟨pb,0,none⟩),tokV k at_ bd] w fun e w'=>e=.returned (wrongV at_ aT)∧Below w.heap.size w w':=by
 have e1:=h.eT
 clear h
 go_enter func97,ntmps97
 go_wp2_with (go_at_call 133;refine (misplaced_any k at_ bd _ aT ?_).mono ?_;(exact alloc_cell e1);rintro e w' ⟨rfl,hb⟩)
 go_ret
 exact⟨rfl,((Below.refl _ _).alloc (Nat.le_refl _) _).trans (hb.mono (by simp))⟩
theorem leave_ok {w:World}{pb rb:Nat}{s:ByteArray}{aT aD:Addr}{p d:Nat}(h:Pz w pb rb s aT aD p (d+1))(at_:Nat)(bd:ByteArray):
  Calls prog 135 #[.pointer (some ⟨pb,0,none⟩),tokV 2 at_ bd] w fun e w'=>e=.returned .nilIface∧PT pb rb w w'∧Pz w' pb rb s aT aD p d:=by
 have hz:=h
 obtain⟨r1,r2,r3,r4,e1,e2,s1,s2,s3,s4,s5,s6⟩:=h
 have hlt:=cell_lt r2
 have hn:=World.new_ne w _ r2
 have hd3:(d:Int)≤15:=by omega
 have r2':w.cell? ⟨pb,1,none⟩=some (.int .i64 ((d:Int)+1)):=by rw[r2];rfl
 clear r2
 have hf:∀o,(w.alloc o).frozen? ⟨pb,1,none⟩=false:=fun o=>by
  rw[World.frozen?_alloc_old _ _ _ (Nat.ne_of_lt hlt)];exact r3
 go_enter func135,ntmps135
 go_wp2
 go_ret
 have hb:=hz.bump (d':=d) (v:=.int .i64 ((d:Nat):Int)) (o:=Obj.cells #[.int .i64 2,.int .i64 ((at_:Nat):Int),.string bd] 173) (by omega) rfl
 exact⟨rfl,hb.2,hb.1⟩
theorem leave_no {w:World}{pb rb:Nat}{s:ByteArray}{aT aD:Addr}{p d:Nat}(h:Pz w pb rb s aT aD p d)(k:Int)(at_:Nat)(bd:ByteArray)(hk:¬ k=2):
  Calls prog 135 #[.pointer (some ⟨pb,0,none⟩),tokV k at_ bd] w fun e w'=>e=.returned (wrongV at_ aT)∧Below w.heap.size w w':=by
 have e1:=h.eT
 clear h
 go_enter func135,ntmps135
 go_wp2_with (go_at_call 133;refine (misplaced_any k at_ bd _ aT ?_).mono ?_;(exact alloc_cell e1);rintro e w' ⟨rfl,hb⟩)
 go_ret
 exact⟨rfl,((Below.refl _ _).alloc (Nat.le_refl _) _).trans (hb.mono (by simp))⟩
theorem isName_tok {t:Tok}{bd:ByteArray}(h:bd.data.toList=bodyL t.k t.body):isName (kcode t.k) bd.data.toList=isNameT t:=by
 rw[h]
 unfold isName isNameT
 cases t.k<;>simp[kcode,bodyL]
theorem isNameT_word {t:Tok}(h:isNameT t=true):t.k=.word:=by
 unfold isNameT at h
 simp at h
 exact h.1
theorem PT.alloc {pb rb:Nat}{a w:World}(h:PT pb rb a w)(o:Obj):PT pb rb a (w.alloc o):=Touch.alloc h o
theorem PT.below {pb rb:Nat}{a w w':World}(h:PT pb rb a w)(hb:Below w.heap.size w w'):PT pb rb a w':=Touch.trans h (Touch.of_below hb)
theorem PT.size {pb rb:Nat}{a w:World}(h:PT pb rb a w):a.heap.size≤w.heap.size:=Touch.size h
theorem PT.set {pb rb:Nat}{a w:World}(h:PT pb rb a w){b o:Nat}(hb:a.heap.size≤b)(u:Value):PT pb rb a (w.setCell ⟨b,o,none⟩ u):=Touch.setCell h (Or.inr hb) u
theorem Pz.alloc {w:World}{pb rb:Nat}{s:ByteArray}{aT aD:Addr}{p d:Nat}(h:Pz w pb rb s aT aD p d)(o:Obj):Pz (w.alloc o) pb rb s aT aD p d:=h.keep ((Below.refl _ _).alloc (Nat.le_refl _) o)
theorem Pz.set {w:World}{pb rb:Nat}{s:ByteArray}{aT aD:Addr}{p d:Nat}(h:Pz w pb rb s aT aD p d){b o:Nat}(hb1:b≠pb)(hb2:b≠rb)(hb3:15≤b)(u:Value):Pz (w.setCell ⟨b,o,none⟩ u) pb rb s aT aD p d:=by
 have far:∀{a:Addr} {x:Value},w.cell? a=some x→a.block≠b→(w.setCell ⟨b,o,none⟩ u).cell? a=some x:=fun {a x} ha hn=>by
  rw[World.cell?_setCell_other _ _ _ _ (by rintro rfl;exact hn rfl)];exact ha
 exact { h with
  rdr:=far h.rdr (Ne.symm hb1)
  opn:=far h.opn (Ne.symm hb1)
  free:=by rw[World.frozen?_setCell];exact h.free
  rd:=⟨far h.rd.text (Ne.symm hb2),far h.rd.place (Ne.symm hb2),by rw[World.frozen?_setCell];exact h.rd.free⟩
  eT:=far h.eT (by show 6≠b;omega)
  eD:=far h.eD (by show 1≠b;omega) }
theorem Pz.lt {w:World}{pb rb:Nat}{s:ByteArray}{aT aD:Addr}{p d:Nat}(h:Pz w pb rb s aT aD p d):pb<w.heap.size∧rb<w.heap.size:=⟨cell_lt h.opn,cell_lt h.rd.place⟩
theorem fun_ok {w:World}{pb rb:Nat}{s:ByteArray}{aT aD:Addr}{p d:Nat}(h:Pz w pb rb s aT aD p d){t:Tok}{ts:List Tok}(hts:IsToks s.data.toList p (t::ts))(hk:t.k=.word)(hb:t.body=[102,117,110]):
  Calls prog 98 #[.pointer (some ⟨pb,0,none⟩)] w fun e w'=>e=.returned .nilIface∧PT pb rb w w'∧∃q,Pz w' pb rb s aT aD q d∧IsToks s.data.toList q ts:=by
 have cn:=next_good h hts (by rw[hk];decide)
 have r1:=h.rdr
 rw[hk] at cn
 clear h
 go_enter func98,ntmps98
 go_wp2_with (go_at_call 71;refine cn.mono ?_;rintro e w' ⟨bd,rfl,hbd,hbz,hpt,q,hz,hq⟩;have hbl:bd.toList=[102,117,110]:=(by rw[ByteArray.toList_eq,hbd,hb];rfl);clear hbd)
 go_ret
 exact⟨rfl,hpt.alloc _,q,hz.alloc _,hq (by decide)⟩
theorem fun_no {w:World}{pb rb:Nat}{s:ByteArray}{aT aD:Addr}{p d:Nat}(h:Pz w pb rb s aT aD p d){t:Tok}{ts:List Tok}(hts:IsToks s.data.toList p (t::ts))(hn:¬ (t.k=.word∧t.body=[102,117,110])):
  Calls prog 98 #[.pointer (some ⟨pb,0,none⟩)] w fun e w'=>e=.returned (wrongV t.at_ aT)∧PT pb rb w w':=by
 have r1:=h.rdr
 by_cases hbad:t.k=.bad
 ·have cn:=next_bad h hts hbad
  clear h hn
  go_enter func98,ntmps98
  go_wp2_with (go_at_call 71;refine cn.mono ?_;rintro e w' ⟨rfl,hpt⟩)
  go_ret
  exact⟨rfl,hpt.alloc _⟩
 ·have cn:=next_good h hts hbad
  by_cases hw:t.k=.word
  ·have hb:t.body≠[102,117,110]:=fun e=>hn ⟨hw,e⟩
   rw[hw] at cn
   clear h hn hbad
   go_enter func98,ntmps98
   go_wp2_with (first
    |(go_at_call 71;refine cn.mono ?_;rintro e w' ⟨bd,rfl,hbd,hbz,hpt,q,hz,hq⟩;have hbl:(bd.toList==[102,117,110])=false:=(by rw[ByteArray.toList_eq,hbd];simpa[bodyL] using hb);clear hbd)
    |(go_at_call 133;refine (misplaced_any 5 t.at_ bd _ aT ?_).mono ?_;(exact (hz.alloc _).eT);rintro e w2 ⟨rfl,hb2⟩))
   go_ret
   exact⟨rfl,(hpt.alloc _).below hb2⟩
  ·have hk5:¬ kcode t.k=5:=by
    revert hw
    cases t.k<;>simp[kcode]
   clear h hn hbad
   go_enter func98,ntmps98
   go_wp2_with (first
    |(go_at_call 71;refine cn.mono ?_;rintro e w' ⟨bd,rfl,hbd,hbz,hpt,q,hz,hq⟩;clear hbd)
    |(go_at_call 133;refine (misplaced_any (kcode t.k) t.at_ bd _ aT ?_).mono ?_;(exact (hz.alloc _).eT);rintro e w2 ⟨rfl,hb2⟩))
   go_ret
   exact⟨rfl,(hpt.alloc _).below hb2⟩
theorem PT.grown {pb rb:Nat}{a w w':World}{row:Option Nat}(h:PT pb rb a w)(hg:w.grownBy w' row)(hr:∀k,row=some k→a.heap.size≤k):PT pb rb a w' :=
 ⟨hg.os.trans h.os,hg.tape.trans h.tape,hg.output.trans h.output,Nat.le_trans h.size hg.size,fun k hk hS=>(hg.block k (Nat.lt_of_lt_of_le hk h.size) (fun e=>by have:=hr k e.symm;omega)).trans (h.block k hk hS)⟩
theorem cell_grown {w w':World}{row:Option Nat}(hg:w.grownBy w' row){p:Addr}{v:Value}(hc:w.cell? p=some v)(hne:some p.block≠row):w'.cell? p=some v:=by
 rw[World.cell?_of_block (w:=w) (hg.block p.block (cell_lt hc) hne)]
 exact hc
theorem Pz.grown {w w':World}{pb rb:Nat}{s:ByteArray}{aT aD:Addr}{p d:Nat}{row:Option Nat}(h:Pz w pb rb s aT aD p d)(hg:w.grownBy w' row)(hr:∀k,row=some k→pb<k∧rb<k):Pz w' pb rb s aT aD p d:=by
 have g1:=h.h1
 have g2:=h.h2
 have ne:∀k,(k=pb∨k=rb∨k<15)→some k≠row:=fun k hk e=>by have:=hr k e.symm;omega
 exact { h with
  rdr:=cell_grown hg h.rdr (ne _ (Or.inl rfl))
  opn:=cell_grown hg h.opn (ne _ (Or.inl rfl))
  free:=by rw[World.frozen?_of_block (w:=w) (a:=⟨pb,1,none⟩) (hg.block pb (cell_lt h.opn) (ne _ (Or.inl rfl)))];exact h.free
  rd:=⟨cell_grown hg h.rd.text (ne _ (Or.inr (Or.inl rfl))),cell_grown hg h.rd.place (ne _ (Or.inr (Or.inl rfl))),by rw[World.frozen?_of_block (w:=w) (a:=⟨rb,1,none⟩) (hg.block rb (cell_lt h.rd.place) (ne _ (Or.inr (Or.inl rfl))))];exact h.rd.free⟩
  eT:=cell_grown hg h.eT (ne _ (Or.inr (Or.inr (by show 6<15;decide))))
  eD:=cell_grown hg h.eD (ne _ (Or.inr (Or.inr (by show 1<15;decide)))) }
theorem owns_touch {w w':World}{base:Nat}{e:TypeId}{size:Nat}{v:Value}{n:Nat}{xs:List Value}(h:w.ownsRow base e size v n xs){S:Nat→Prop}(ht:Touch S w w')(hS:∀k,base≤k→¬ S k):w'.ownsRow base e size v n xs:=by
 obtain⟨h1,h2⟩:=h
 refine⟨h1,?_⟩
 rcases h2 with g | ⟨g,cap,cur,hv,hg,hh,hn,hcap,hsz,htake⟩
 ·exact Or.inl g
 ·refine Or.inr ⟨g,cap,cur,hv,hg,?_,hn,hcap,hsz,htake⟩
  have hlt:g<w.heap.size:=by
   rcases Nat.lt_or_ge g w.heap.size with h | h
   ·exact h
   ·rw[Array.getElem?_eq_none h] at hh;cases hh
  rw[ht.block g hlt (hS g hg)]
  exact hh
theorem new_name (w:World):let X:=w.alloc (.cells #[.string ⟨#[]⟩,.int .i64 0] 61)
  X.cell? ⟨w.heap.size,0,none⟩=some (.string ⟨#[]⟩)∧X.cell? ⟨w.heap.size,1,none⟩=some (.int .i64 0)∧X.frozen? ⟨w.heap.size,0,none⟩=false∧X.frozen? ⟨w.heap.size,1,none⟩=false∧w.heap.size<X.heap.size:=by
 have h:(w.alloc (Obj.cells #[.string ⟨#[]⟩,.int .i64 0] 61)).heap[w.heap.size]?=some (.cells #[.string ⟨#[]⟩,.int .i64 0] 61):=heap_alloc_new _ _
 refine⟨?_,?_,?_,?_,by simp⟩
 ·unfold World.cell?;rw[h];rfl
 ·unfold World.cell?;rw[h];rfl
 ·unfold World.frozen?;rw[h];rfl
 ·unfold World.frozen?;rw[h];rfl
theorem PT.cell {pb rb:Nat}{w w':World}(h:PT pb rb w w'){p:Addr}{v:Value}(hc:w.cell? p=some v)(h1:p.block≠pb)(h2:p.block≠rb):w'.cell? p=some v:=Touch.cell h hc (by rintro (g | g);exact h2 g;exact h1 g)
theorem PT.frz {pb rb:Nat}{w w':World}(h:PT pb rb w w'){p:Addr}(hlt:p.block<w.heap.size)(h1:p.block≠pb)(h2:p.block≠rb):w'.frozen? p=w.frozen? p:=Touch.frozen h hlt (by rintro (g | g);exact h2 g;exact h1 g)
theorem name_ok {w:World}{pb rb:Nat}{s:ByteArray}{aT aD:Addr}{p d:Nat}(h:Pz w pb rb s aT aD p d){t:Tok}{ts:List Tok}(hts:IsToks s.data.toList p (t::ts))(hn:isNameT t=true):
  Calls prog 99 #[.pointer (some ⟨pb,0,none⟩)] w fun e w'=>∃bd:ByteArray,e=.returned (.tuple #[nameV bd t.at_,.nilIface])∧bd.data.toList=t.body∧bd.size≤2000∧PT pb rb w w'∧∃q,Pz w' pb rb s aT aD q d∧IsToks s.data.toList q ts:=by
 have hw:=isNameT_word hn
 have ha:=(h.alloc (Obj.cells #[.string ⟨#[]⟩,.int .i64 0] 61))
 have cn:=next_good ha hts (by rw[hw];decide)
 have r1:=ha.rdr
 have hlt:=h.lt
 obtain⟨n0,n1,n2,n3,n4⟩:=new_name w
 have hx:w.heap.size≠pb:=by omega
 have hy:w.heap.size≠rb:=by omega
 have h15:=h.h1
 go_enter func99,ntmps99
 go_wp2_with (go_at_call 71;refine cn.mono ?_;rintro e w' ⟨bd,rfl,hbd,hbz,hpt,q,hz,hq⟩)
 refine (nameOf_ok (kcode K.word) t.at_ bd _ (by rw[←hw,isName_tok hbd];exact hn)).mono ?_
 rintro e w2 ⟨rfl,hb2⟩
 have m0:w2.cell? ⟨w.heap.size,0,none⟩=some (.string ⟨#[]⟩):=Below.cellv hb2 (alloc_cell (hpt.cell n0 hx hy))
 have m1:w2.cell? ⟨w.heap.size,1,none⟩=some (.int .i64 0):=Below.cellv hb2 (alloc_cell (hpt.cell n1 hx hy))
 have k1:w.heap.size<w'.heap.size:=Nat.lt_of_lt_of_le n4 hpt.size
 have m2:w2.frozen? ⟨w.heap.size,0,none⟩=false:=by
  rw[hb2.frozen (p:=⟨w.heap.size,0,none⟩) (by simp;omega),World.frozen?_alloc_old _ _ _ (by simp;omega),hpt.frz (p:=⟨w.heap.size,0,none⟩) n4 hx hy];exact n2
 have m3:w2.frozen? ⟨w.heap.size,1,none⟩=false:=by
  rw[hb2.frozen (p:=⟨w.heap.size,1,none⟩) (by simp;omega),World.frozen?_alloc_old _ _ _ (by simp;omega),hpt.frz (p:=⟨w.heap.size,1,none⟩) n4 hx hy];exact n3
 have hpt2:PT pb rb w w2:=(((PT.refl w).alloc _).trans hpt |>.alloc _).below hb2
 have hz2:Pz w2 pb rb s aT aD q d:=(hz.alloc _).keep hb2
 clear cn r1 ha hpt hz hb2 n0 n1 n2 n3 n4
 go_wp2
 refine bodyPost_ret (v:=.tuple #[nameV bd t.at_,.nilIface]) (by simp[results,results99,go_sem,m0,m1]) rfl ⟨bd,rfl,by rw[hbd,hw];rfl,hbz,(hpt2.set (Nat.le_refl _) _).set (Nat.le_refl _) _,q,(hz2.set hx hy (by omega) _).set hx hy (by omega) _,hq (by rw[hw];decide)⟩
theorem name_no {w:World}{pb rb:Nat}{s:ByteArray}{aT aD:Addr}{p d:Nat}(h:Pz w pb rb s aT aD p d){t:Tok}{ts:List Tok}(hts:IsToks s.data.toList p (t::ts))(hn:isNameT t=false):
  Calls prog 99 #[.pointer (some ⟨pb,0,none⟩)] w fun e w'=>e=.returned (.tuple #[nameV ⟨#[]⟩ 0,wrongV t.at_ aT])∧PT pb rb w w':=by
 have ha:=(h.alloc (Obj.cells #[.string ⟨#[]⟩,.int .i64 0] 61))
 have r1:=ha.rdr
 have hlt:=h.lt
 obtain⟨n0,n1,n2,n3,n4⟩:=new_name w
 have hx:w.heap.size≠pb:=by omega
 have hy:w.heap.size≠rb:=by omega
 by_cases hbad:t.k=.bad
 ·have cn:=next_bad ha hts hbad
  go_enter func99,ntmps99
  go_wp2_with fail
  refine cn.mono ?_
  rintro e w' ⟨rfl,hpt⟩
  have m0:w'.cell? ⟨w.heap.size,0,none⟩=some (.string ⟨#[]⟩):=(hpt.cell n0 hx hy)
  have m1:w'.cell? ⟨w.heap.size,1,none⟩=some (.int .i64 0):=(hpt.cell n1 hx hy)
  have k1:w.heap.size<w'.heap.size:=Nat.lt_of_lt_of_le n4 hpt.size
  have m2:w'.frozen? ⟨w.heap.size,0,none⟩=false:=by
   rw[hpt.frz (p:=⟨w.heap.size,0,none⟩) n4 hx hy];exact n2
  have m3:w'.frozen? ⟨w.heap.size,1,none⟩=false:=by
   rw[hpt.frz (p:=⟨w.heap.size,1,none⟩) n4 hx hy];exact n3
  have hpt2:PT pb rb w w':=(((PT.refl w).alloc _).trans hpt)
  clear cn r1 ha hpt n0 n1 n2 n3 n4
  go_wp2
  refine bodyPost_ret (v:=.tuple #[nameV ⟨#[]⟩ 0,wrongV t.at_ aT]) (by simp[results,results99,go_sem,m0,m1,k1]) rfl ⟨rfl,((hpt2.set (Nat.le_refl _) _).set (Nat.le_refl _) _).alloc _⟩
 ·have cn:=next_good ha hts hbad
  go_enter func99,ntmps99
  go_wp2_with (go_at_call 71;refine cn.mono ?_;rintro e w' ⟨bd,rfl,hbd,hbz,hpt,q,hz,hq⟩)
  refine (nameOf_no (kcode t.k) t.at_ bd _ aT (hz.alloc _).eT (by rw[isName_tok hbd];exact hn)).mono ?_
  rintro e w2 ⟨rfl,hb2⟩
  have m0:w2.cell? ⟨w.heap.size,0,none⟩=some (.string ⟨#[]⟩):=Below.cellv hb2 (alloc_cell (hpt.cell n0 hx hy))
  have m1:w2.cell? ⟨w.heap.size,1,none⟩=some (.int .i64 0):=Below.cellv hb2 (alloc_cell (hpt.cell n1 hx hy))
  have k1:w.heap.size<w'.heap.size:=Nat.lt_of_lt_of_le n4 hpt.size
  have m2:w2.frozen? ⟨w.heap.size,0,none⟩=false:=by
   rw[hb2.frozen (p:=⟨w.heap.size,0,none⟩) (by simp;omega),World.frozen?_alloc_old _ _ _ (by simp;omega),hpt.frz (p:=⟨w.heap.size,0,none⟩) n4 hx hy];exact n2
  have m3:w2.frozen? ⟨w.heap.size,1,none⟩=false:=by
   rw[hb2.frozen (p:=⟨w.heap.size,1,none⟩) (by simp;omega),World.frozen?_alloc_old _ _ _ (by simp;omega),hpt.frz (p:=⟨w.heap.size,1,none⟩) n4 hx hy];exact n3
  have hpt2:PT pb rb w w2:=(((PT.refl w).alloc _).trans hpt |>.alloc _).below hb2
  clear cn r1 ha hpt hz hb2 n0 n1 n2 n3 n4
  go_wp2
  refine bodyPost_ret (v:=.tuple #[nameV ⟨#[]⟩ 0,wrongV t.at_ aT]) (by simp[results,results99,go_sem,m0,m1]) rfl ⟨rfl,(hpt2.set (Nat.le_refl _) _).set (Nat.le_refl _) _⟩
def nameCells:List (ByteArray×Nat)→List Value
 | []=>[]
 | x::r=>.string x.1::.int .i64 ((x.2:Nat):Int)::nameCells r
theorem nameCells_snoc (l:List (ByteArray×Nat))(x:ByteArray×Nat):nameCells (l++[x])=nameCells l++[.string x.1,.int .i64 ((x.2:Nat):Int)]:=by
 induction l with
 | nil=>rfl
 | cons y l ih=>simp[nameCells,ih]
def plainNames (l:List (ByteArray×Nat)):List (List UInt8×Nat):=l.map fun x=>(x.1.data.toList,x.2)
def addN (pre:List (List UInt8×Nat)):Res (List (List UInt8×Nat))→Res (List (List UInt8×Nat))
 | .ok ns r=>.ok (pre++ns) r
 | .err c a=>.err c a
def NamesAt (w:World)(base:Nat)(v:Value)(ns:List (List UInt8×Nat)):Prop :=
 ∃bs:List (ByteArray×Nat),plainNames bs=ns∧w.ownsRow base 61 2 v bs.length (nameCells bs)
def errOf (c:Nat)(aT aD:Addr):Addr:=if c=3 then aD else aT
def paramsPost (r:Res (List (List UInt8×Nat)))(w:World)(pb rb:Nat)(s:ByteArray)(aT aD:Addr)(d:Nat)(e:Ending)(w':World):Prop :=
 PT pb rb w w'∧match r with
 | .err c a=>e=.returned (.tuple #[.slice none 0 0,wrongV a (errOf c aT aD)])
 | .ok ns rest=>∃v q,e=.returned (.tuple #[v,.nilIface])∧NamesAt w' w.heap.size v ns∧Pz w' pb rb s aT aD q d∧IsToks s.data.toList q rest
theorem Tryz.infoName:(prog.info? 61).map (fun i=>(i.zero,i.size,i.bytes))=some (some (.agg #[.string ⟨#[]⟩,.int .i64 0]),2,24):=by kernel_rfl
theorem cell_two_new (w:World)(x y:Value)(t:TypeId):∀j u,[x,y][j]?=some u→(w.alloc (.cells #[x,y] t)).cell? ((⟨w.heap.size,0,none⟩:Addr).add j)=some u:=by
 intro j u hj
 match j,hj with
 | 0,hj=>simp at hj;subst hj;simp[Addr.add]
 | 1,hj=>simp at hj;subst hj;simp[Addr.add]
 | j+2,hj=>simp at hj
theorem parameters_open {w : World} {pb rb : Nat} {s : ByteArray} {aT aD : Addr} {p d : Nat} (h : Pz w pb rb s aT aD p d) {t : Tok} {ts : List Tok} (hts : IsToks s.data.toList p (t :: ts)) (hd : d ≠ 16) (hk : t.k = .opn) :
    Calls Tryz.prog 100 #[.pointer (some ⟨pb, 0, none⟩)] w (paramsPost (pP ts) w pb rb s aT aD d) := by
  have cn := next_good h hts (by rw [hk]; decide)
  have r1 := h.rdr
  have hlen := hts.len (by rw [len_data]; exact h.hp)
  rw [len_data] at hlen
  have hs2 := h.hs
  have hlt := h.lt
  have h15 := h.h1
  simp only [List.length_cons] at hlen
  rw [hk] at cn
  clear hts
  go_enter Tryz.func100, Tryz.ntmps100
  go_wp2_with (first
    | (go_at_call 71; refine cn.mono ?_; rintro e w1 ⟨bd, rfl, hbd, hbz, hpt, q, hz, hq⟩)
    | (go_at_call 97; refine (enter_ok (hz.alloc _) t.at_ bd hd).mono ?_; rintro e w2 ⟨rfl, hpt2, hz2'⟩))
  have hq2 := hq (by decide)
  have hpt3 : PT pb rb w w2 := (hpt.alloc _).trans hpt2
  clear cn hpt hz hpt2 hbd hbz hq r1
  go_loopg [7] ts.length (fun k v wr => ∃ bs ts2 q2, k = ts2.length ∧ bs.length + ts2.length = ts.length ∧ wr.ownsRow w.heap.size 61 2 v bs.length (nameCells bs) ∧ PT pb rb w wr ∧ Pz wr pb rb s aT aD q2 (d + 1) ∧ IsToks s.data.toList q2 ts2 ∧ pP ts = addN (plainNames bs) (pP ts2))
  case atStart =>
    refine ⟨[], ts, q, rfl, by simp, World.ownsRow_nil _ _ _ _, hpt3, hz2', hq2, ?_⟩
    cases pP ts <;> rfl
  case round =>
    obtain ⟨bs, ts2, q2, rfl, hcount, hown, hptr, hzr, hq3, heq⟩ := hrel
    obtain ⟨t2, ts3, rfl⟩ := hq3.ne
    have r1 := hzr.rdr
    have HE : Aside (pP ts = addN (plainNames bs) (pP (t2 :: ts3))) := heq
    clear heq
    have hltr := hzr.lt
    have hszr := hptr.size
    simp only [List.length_cons] at hcount
    by_cases hbad : t2.k = .bad
    · have cn := next_bad hzr hq3 hbad
      have hP : pP ts = .err 2 t2.at_ := by rw [HE.out]; simp [pP, hbad, isNameT, addN]
      rw [hP]
      go_wp2_with (go_at_call 71; refine cn.mono ?_; rintro e w3 ⟨rfl, hpt5⟩)
      go_ret2
      exact ⟨(hptr.trans hpt5).alloc _, rfl⟩
    have cn := next_good hzr hq3 hbad
    by_cases hcls : t2.k = .cls
    · have hP : pP ts = .ok (plainNames bs) ts3 := by rw [HE.out]; simp [pP, hcls, addN]
      rw [hP]
      rw [hcls] at cn
      clear HE
      go_wp2_with (first
        | (go_at_call 71; refine cn.mono ?_; rintro e w3 ⟨bd3, rfl, hbd, hbz, hpt5, q5, hz5, hq5⟩)
        | (go_at_call 135; refine (leave_ok (hz5.alloc _) t2.at_ bd3).mono ?_; rintro e w4 ⟨rfl, hpt6, hz6⟩))
      go_ret2
      have own4 : w4.ownsRow w.heap.size 61 2 _ bs.length (nameCells bs) := owns_touch hown ((hpt5.alloc _).trans hpt6) (fun k hk => by rintro (g | g) <;> omega)
      exact ⟨(hptr.trans hpt5).alloc _ |>.trans hpt6, _, q5, rfl, ⟨bs, rfl, own4⟩, hz6, hq5 (by decide)⟩
    have hk2 : ¬ kcode t2.k = 2 := by revert hcls; cases t2.k <;> simp [kcode]
    cases hnm : isNameT t2
    · have hP : pP ts = .err 2 t2.at_ := by rw [HE.out]; simp [pP, hcls, hnm, addN]
      rw [hP]
      clear HE
      go_wp2_with (first
        | (go_at_call 71; refine cn.mono ?_; rintro e w3 ⟨bd3, rfl, hbd, hbz, hpt5, q5, hz5, hq5⟩)
        | (go_at_call 134; refine (nameOf_no (kcode t2.k) t2.at_ bd3 _ aT (hz5.alloc _).eT (by rw [isName_tok hbd]; exact hnm)).mono ?_; rintro e w4 ⟨rfl, hb6⟩))
      go_ret2
      exact ⟨(((hptr.trans hpt5).alloc _).below hb6).alloc _, rfl⟩
    · have hw := isNameT_word hnm
      have hP : pP ts = addN (plainNames bs) (consN (t2.body, t2.at_) (pP ts3)) := by rw [HE.out]; simp [pP, hcls, hnm]
      have HP : Aside (pP ts = addN (plainNames bs) (consN (t2.body, t2.at_) (pP ts3))) := hP
      clear hP HE
      go_wp2_with (first
        | (go_at_call 71; refine cn.mono ?_; rintro e w3 ⟨bd3, rfl, hbd, hbz, hpt5, q5, hz5, hq5⟩)
        | (go_at_call 134; refine (nameOf_ok (kcode K.word) t2.at_ bd3 _ (by rw [← hw, isName_tok hbd]; exact hnm)).mono ?_; rintro e w4 ⟨rfl, hb6⟩
           have own4 : w4.ownsRow w.heap.size 61 2 _ bs.length (nameCells bs) := owns_touch hown ((hpt5.alloc _).trans (PT.of_below (pb := pb) (rb := rb) hb6)) (fun k hk => by rintro (g | g) <;> omega)
           have pt4 : PT pb rb w w4 := ((hptr.trans hpt5).alloc _).below hb6
           have z4 : Pz w4 pb rb s aT aD q5 (d + 1) := (hz5.alloc _).keep hb6)
        | (at_builtin; obtain ⟨i0, hi, hz0, hz1, hz2⟩ := info_parts Tryz.infoName; refine wpList_append_own _ rfl _ _ 62 rfl w.heap.size 61 i0 (.agg #[.string ⟨#[]⟩, .int .i64 0]) 2 24 Tryz.underlying62 hi hz0 hz1 hz2 rfl (by decide) _ _ _ rfl ((own4.alloc _).alloc _) ⟨w4.heap.size + 1, 0, none⟩ 1 1 [.string bd3, .int .i64 ((t2.at_ : Nat) : Int)] rfl rfl ?_ (fun x hx => by simp at hx; rcases hx with rfl | rfl <;> rfl) (by unfold maxLen; omega) (by omega) (by simp; have := pt4.size; omega) ?_; (have := cell_two_new (w4.alloc (Obj.cells #[.string bd3, .int .i64 ((t2.at_ : Nat) : Int)] 61)) (.string bd3) (.int .i64 ((t2.at_ : Nat) : Int)) 61; simpa using this); intro v' w6 hown' hgrow hnil; clear hi hz0 hz1 hz2))
      go_roundg ts3.length
      case measure => simp
      case rel =>
        have hrow : ∀ k, Value.ownBlock _ = some k → w.heap.size ≤ k := fun k hk => (own4.lt k hk).1
        refine ⟨bs ++ [(bd3, t2.at_)], ts3, q5, rfl, by simp; omega, ?_, ((pt4.alloc _).alloc _).grown hgrow hrow, ((z4.alloc _).alloc _).grown hgrow (fun k hk => by have := hrow k hk; omega), hq5 (by rw [hw]; decide), ?_⟩
        · rw [nameCells_snoc, List.length_append]
          exact hown'
        · rw [HP.out]
          have e1 : bd3.data.toList = t2.body := by rw [hbd, hw]; rfl
          have e2 : plainNames (bs ++ [(bd3, t2.at_)]) = plainNames bs ++ [(t2.body, t2.at_)] := by simp [plainNames, e1]
          rw [e2]
          cases pP ts3 <;> simp [addN, consN]
theorem parameters_other {w:World}{pb rb:Nat}{s:ByteArray}{aT aD:Addr}{p d:Nat}(h:Pz w pb rb s aT aD p d){t:Tok}{ts:List Tok}(hts:IsToks s.data.toList p (t::ts))(hk:t.k≠.opn):
  Calls prog 100 #[.pointer (some ⟨pb,0,none⟩)] w (paramsPost (.err 2 t.at_) w pb rb s aT aD d):=by
 have r1:=h.rdr
 by_cases hbad:t.k=.bad
 ·have cn:=next_bad h hts hbad
  go_enter func100,ntmps100
  go_wp2_with (go_at_call 71;refine cn.mono ?_;rintro e w3 ⟨rfl,hpt5⟩)
  go_ret2
  exact⟨hpt5.alloc _,rfl⟩
 ·have cn:=next_good h hts hbad
  have hk1:¬ kcode t.k=1:=by revert hk;cases t.k<;>simp[kcode]
  go_enter func100,ntmps100
  go_wp2_with (first
   |(go_at_call 71;refine cn.mono ?_;rintro e w1 ⟨bd,rfl,hbd,hbz,hpt,q,hz,hq⟩)
   |(go_at_call 97;refine (enter_no (hz.alloc _) (kcode t.k) t.at_ bd hk1).mono ?_;rintro e w2 ⟨rfl,hb2⟩))
  go_ret2
  exact⟨(hpt.alloc _).below hb2,rfl⟩
end Go.Proofs.YtifhgjpglicjbaaGreatDoor
