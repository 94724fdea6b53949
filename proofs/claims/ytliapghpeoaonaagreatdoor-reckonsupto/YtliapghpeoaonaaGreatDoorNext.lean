/-
  (*token.Reader).Next: the next token, for every text and every place.
-/
import Derived.Test.YtliapghpeoaonaaGreatDoorTokA
import Derived.Test.YtliapghpeoaonaaGreatDoorTouch
import Derived.Deep.RegionHeld3
import Derived.Deep.DrawnRows
import Derived.Deep.DeepCutAuto
import Derived.Test.YtliapghpeoaonaaGreatDoorPure
import Derived.Deep.LoopGhost
import Derived.OwnWalk
import Derived.Maps.AppendAt
set_option maxHeartbeats 2000000
namespace Go.Proofs.YtliapghpeoaonaaGreatDoor
open Go.Proofs.Tryz
open Go.RowKit
attribute [local go_sem ↓] Go.wp_at_zero Go.wp_at_succ
structure RdAt (w:World)(b:Nat)(s:ByteArray)(p:Nat):Prop where
 text:w.cell? ⟨b,0,none⟩=some (.string s)
 place:w.cell? ⟨b,1,none⟩=some (.int .i64 ((p:Nat):Int))
 free:w.frozen? ⟨b,1,none⟩=false
abbrev Za8 (a:Addr):Value:=.iface 503 (.pointer (some a))
def Zre (t:Tok)(aT:Addr)(b:Nat)(s:ByteArray)(e:Ending)(w':World):Prop :=
 match t.k with
 | .bad=>e=.returned (.tuple #[.agg #[.int .i64 0,.int .i64 0,.string ⟨#[]⟩],.iface 163 (.agg #[.int .i64 ((t.at_:Nat):Int),Za8 aT])])
 | k=>∃body:ByteArray,body.data.toList=Zmf k t.body∧body.size≤2000∧e=.returned (.tuple #[.agg #[.int .i64 (Zbq k),.int .i64 ((t.at_:Nat):Int),.string body],.nilIface])∧RdAt w' b s (t.at_+t.body.length)
theorem next_mid (w:World)(b:Nat)(s:ByteArray)(p q:Nat)(v:Value)(r1:w.cell? ⟨b,0,none⟩=some (.string s))(r2:w.cell? ⟨b,1,none⟩=some (.int .i64 ((p:Nat):Int)))(r3:w.frozen? ⟨b,1,none⟩=false)
  (hv:v=.int .i64 ((q:Nat):Int)) :
  RdAt ((w.setCell ⟨b,1,none⟩ v).alloc (.cells #[.int .i64 0,.int .i64 0,.string ⟨#[]⟩] 310)).drew b s q∧Zaa (·=b) w ((w.setCell ⟨b,1,none⟩ v).alloc (.cells #[.int .i64 0,.int .i64 0,.string ⟨#[]⟩] 310)).drew
   ∧ ((w.setCell ⟨b,1,none⟩ v).alloc (.cells #[.int .i64 0,.int .i64 0,.string ⟨#[]⟩] 310)).drew.heap.size=w.heap.size+1
   ∧ ((w.setCell ⟨b,1,none⟩ v).alloc (.cells #[.int .i64 0,.int .i64 0,.string ⟨#[]⟩] 310)).drew.heap[w.heap.size]?=some (.cells #[.int .i64 0,.int .i64 0,.string ⟨#[]⟩] 310):=by
 subst hv
 have hlt:=Zae r1
 have hsz:(w.setCell ⟨b,1,none⟩ (.int .i64 ((q:Nat):Int))).heap.size=w.heap.size:=by simp[World.setCell]
 refine⟨⟨?_,?_,?_⟩,(((Zaa.refl (·=b) w).setCell (p:=⟨b,1,none⟩) (Or.inl rfl) _).alloc _).drew,?_,?_⟩
 ·show ((w.setCell ⟨b,1,none⟩ _).alloc _).cell? ⟨b,0,none⟩=_
  rw[World.cell?_alloc_lt _ _ _ (by rw[hsz];exact hlt),World.cell?_setCell_other _ _ _ _ (by simp)]
  exact r1
 ·show ((w.setCell ⟨b,1,none⟩ _).alloc _).cell? ⟨b,1,none⟩=_
  rw[World.cell?_alloc_lt _ _ _ (by rw[hsz];exact hlt),World.cell?_setCell_same _ _ _ r2]
 ·show ((w.setCell ⟨b,1,none⟩ _).alloc _).frozen? ⟨b,1,none⟩=_
  rw[World.frozen?_alloc_old _ _ _ (by rw[hsz];exact Nat.ne_of_lt hlt),World.frozen?_setCell]
  exact r3
 ·show ((w.setCell ⟨b,1,none⟩ _).alloc _).heap.size=_
  rw[←hsz]
  simp
 ·show ((w.setCell ⟨b,1,none⟩ _).alloc _).heap[w.heap.size]?=_
  rw[←hsz]
  exact heap_alloc_new _ _
theorem next_end (w:World)(b r0:Nat)(s:ByteArray)(v:Value)(q:Nat)(x0 x1 x2:Value)(o:Obj)(r1:w.cell? ⟨b,0,none⟩=some (.string s)){u:Value}(r2:w.cell? ⟨b,1,none⟩=some u)(r3:w.frozen? ⟨b,1,none⟩=false)
  (hne:b≠r0) (hv:v=.int .i64 ((q:Nat):Int)) :
  RdAt (((((w.setCell ⟨b,1,none⟩ v).setCell ⟨r0,0,none⟩ x0).setCell ⟨r0,1,none⟩ x1).setCell ⟨r0,2,none⟩ x2).alloc o) b s q:=by
 subst hv
 have hlt:=Zae r1
 have hsz:((((w.setCell ⟨b,1,none⟩ (.int .i64 ((q:Nat):Int))).setCell ⟨r0,0,none⟩ x0).setCell ⟨r0,1,none⟩ x1).setCell ⟨r0,2,none⟩ x2).heap.size=w.heap.size:=by simp[World.setCell]
 refine⟨?_,?_,?_⟩
 ·rw[World.cell?_alloc_lt _ _ _ (by rw[hsz];exact hlt),World.cell?_setCell_other _ _ _ _ (by simp<;>omega),World.cell?_setCell_other _ _ _ _ (by simp<;>omega),World.cell?_setCell_other _ _ _ _ (by simp<;>omega),World.cell?_setCell_other _ _ _ _ (by simp)]
  exact r1
 ·rw[World.cell?_alloc_lt _ _ _ (by rw[hsz];exact hlt),World.cell?_setCell_other _ _ _ _ (by simp<;>omega),World.cell?_setCell_other _ _ _ _ (by simp<;>omega),World.cell?_setCell_other _ _ _ _ (by simp<;>omega),World.cell?_setCell_same _ _ _ r2]
 ·rw[World.frozen?_alloc_old _ _ _ (by rw[hsz];exact Nat.ne_of_lt hlt),World.frozen?_setCell,World.frozen?_setCell,World.frozen?_setCell,World.frozen?_setCell]
  exact r3
theorem Zwv      (b : Nat) (s : ByteArray) (p : Nat) (w : World) (aT : Addr) (hR : RdAt w b s p) (hp : p ≤ s.size) (hs : s.size ≤ 2000) (hc : w.cell? ⟨3, 0, none⟩ = some (Za8    aT)) (hne : b ≠ 3) :
    Calls Tryz.prog 144 #[.pointer (some ⟨b, 0, none⟩)] w fun e w' => Zaa   (· = b) w w' ∧ Zre      (Zah     s.data.toList p) aT b s e w' := by
  obtain ⟨r1, r2, r3⟩ := hR
  have hlt := Zae     r1
  have hn := World.new_ne w _ r1
  have i1 : (0 : Int) ≤ (p : Int) := by omega
  have i2 : (p : Int) ≤ (s.size : Int) := by omega
  have er : (s.extract p s.size).data.toList = s.data.toList.drop p := Lib.extract_to_end s p
  have cr := fun w => Zuz         (s.extract p s.size) w (by simp [maxLen]; omega)
  rw [er] at cr
  have hl := Zdb     blank (s.data.toList.drop p)
  rw [List.length_drop, Zax     ] at hl
  have hj : Hid ((Zah     s.data.toList p).at_ = p + Zbd  blank (s.data.toList.drop p)) := show (Zah     s.data.toList p).at_ = _ from rfl
  clear er
  have r3' : ∀ o, (w.alloc o).frozen? ⟨b, 1, none⟩ = false := fun o => by
    rw [((Zaa.refl   (fun _ => False) w).alloc o).frozen (p := ⟨b, 1, none⟩) hlt id]
    exact r3
  go_enter Tryz.func144, Tryz.ntmps144
  go_upto_region 1 with fail
  go_cut [] (fun wx => RdAt wx b s (p + Zbd  blank (s.data.toList.drop p)) ∧ Zaa   (· = b) w wx ∧ wx.heap.size = w.heap.size + 1 ∧ wx.heap[w.heap.size]? = some (.cells #[.int .i64 0, .int .i64 0, .string ⟨#[]⟩] 310))
  case first =>
    go_region_with ((go_at_call 134; refine (cr _).mono ?_; rintro e w' ⟨rfl, rfl⟩))
    all_goals go_wp2_with fail
    all_goals go_meet
    all_goals exact next_mid w b s p _ _ r1 r2 r3 (by rw [show IntKind.i64.wrap ((p : Int) + (Zbd  blank (List.drop p s.data.toList) : Int)) = ((p + Zbd  blank (s.data.toList.drop p) : Nat) : Int) from by rw [wrap_small _ (by omega) (by omega)]; omega])
  case rest =>
    obtain ⟨hR, hT, hZ, hB⟩ := hcut
    obtain ⟨q1, q2, q3⟩ := hR
    have hcW : wc.cell? ⟨3, 0, none⟩ = some (Za8    aT) := hT.cell hc (Ne.symm hne)
    have hTok : Hid (Zah     s.data.toList p = ⟨(Zal      (s.data.toList.drop (p + Zbd  blank (s.data.toList.drop p)))).1, p + Zbd  blank (s.data.toList.drop p), (s.data.toList.drop (p + Zbd  blank (s.data.toList.drop p))).take (Zal      (s.data.toList.drop (p + Zbd  blank (s.data.toList.drop p)))).2⟩) := show Zah     _ _ = _ from rfl
    clear hj r3' cr r1 r2 r3 hc
    generalize hJ : p + Zbd  blank (s.data.toList.drop p) = j at *
    have hj1 : j ≤ s.size := by omega
    clear hJ hl i1 i2
    have er : (s.extract j s.size).data.toList = s.data.toList.drop j := Lib.extract_to_end s j
    have cm := fun w hc => Zvj         (s.extract j s.size) w (Za8    aT) (by simp [maxLen]; omega) hc
    rw [er] at cm
    clear er
    have i1 : (0 : Int) ≤ (j : Int) := by omega
    have i2 : (j : Int) ≤ (s.size : Int) := by omega
    have hmp := Zhp          (s.data.toList.drop j)
    rw [List.length_drop, Zax     ] at hmp
    have c0 : wc.cell? ⟨w.heap.size, 0, none⟩ = some (.int .i64 0) := by unfold World.cell?; rw [hB]; rfl
    have c1 : wc.cell? ⟨w.heap.size, 1, none⟩ = some (.int .i64 0) := by unfold World.cell?; rw [hB]; rfl
    have c2 : wc.cell? ⟨w.heap.size, 2, none⟩ = some (.string ⟨#[]⟩) := by unfold World.cell?; rw [hB]; rfl
    have f0 : wc.frozen? ⟨w.heap.size, 0, none⟩ = false := by unfold World.frozen?; rw [hB]; rfl
    have f1 : wc.frozen? ⟨w.heap.size, 1, none⟩ = false := by unfold World.frozen?; rw [hB]; rfl
    have f2 : wc.frozen? ⟨w.heap.size, 2, none⟩ = false := by unfold World.frozen?; rw [hB]; rfl
    clear hB
    generalize hr0 : w.heap.size = r0 at *
    generalize hm0 : Zal      (s.data.toList.drop j) = m at *
    obtain ⟨k, n⟩ := m
    by_cases hbad : k = .bad
    · subst hbad
      clear hmp
      go_wp2
      go_quiet (fail)
      go_wp2_with (go_at_call 182; refine (cm _ ?_).mono ?_; (exact hcW); rintro e w' ⟨⟨x, y, rfl⟩, n', rfl⟩)
      have hbr : b ≠ r0 := by omega
      go_region_held3 (fun w' => w'.cell? ⟨b, 1, none⟩ = some (.int .i64 ((j : Nat) : Int))) (go_keep) (fail)
      all_goals go_wp2
      refine bodyPost_ret (v := .tuple #[.agg #[.int .i64 0, .int .i64 0, .string ⟨#[]⟩], .iface 163 (.agg #[.int .i64 ((j : Nat) : Int), Za8    aT])]) (by simp [results, Tryz.results144, go_sem, c0, c1, c2]) rfl ⟨?_, ?_⟩
      · exact (((hT.drewN _).setCell (p := ⟨r0, 0, none⟩) (Or.inr (Nat.le_of_eq hr0)) _).setCell (p := ⟨r0, 1, none⟩) (Or.inr (Nat.le_of_eq hr0)) _).setCell (p := ⟨r0, 2, none⟩) (Or.inr (Nat.le_of_eq hr0)) _
      · rw [hTok.out]
        exact rfl
    · have hn : n ≤ s.size - j := by
        by_cases hk0 : k = .eof
        · have := (Zlw          (s.data.toList.drop j) (by rw [hm0]; exact hk0)).2
          rw [hm0] at this
          have h0 : n = 0 := this
          omega
        · exact (hmp hk0 hbad).2
      have cm' : ∀ w : World, w.cell? ⟨3, 0, none⟩ = some (Za8    aT) → Calls Tryz.prog 182 #[.string (s.extract j s.size)] w fun e w' => e = .returned (.tuple #[.int .i64 (Zbq   k), .int .i64 ((n : Nat) : Int), .nilIface]) ∧ ∃ n, w' = w.drewN n := fun w hw =>
        (cm w hw).mono fun e w' ⟨h1, h2⟩ => ⟨by cases k <;> first | exact h1 | exact absurd rfl hbad, h2⟩
      clear hmp cm
      have i3 : (0 : Int) ≤ (n : Int) := by omega
      have i4 : (n : Int) ≤ ((s.size - j : Nat) : Int) := by omega
      go_wp2
      go_quiet (fail)
      go_wp2_with (go_at_call 182; refine (cm' _ ?_).mono ?_; (exact hcW); rintro e w' ⟨rfl, n', rfl⟩)
      have hz : ((s.extract j s.size).extract 0 n).size = n := by simp; omega
      have ed : ((s.extract j s.size).extract 0 n).data.toList = (s.data.toList.drop j).take n := by rw [Lib.extract_data, Lib.extract_to_end]; rfl
      have cb : ∀ w : World, Calls Tryz.prog 183 #[.int .i64 (Zbq   k), .string ((s.extract j s.size).extract 0 n)] w fun e w' => (∃ bd : ByteArray, e = .returned (.string bd) ∧ bd.data.toList = Zmf   k ((s.data.toList.drop j).take n) ∧ bd.size ≤ 2000) ∧ w' = w := fun w => by
        by_cases hk : k = .txt
        · have h2 := Zlv          (s.data.toList.drop j) (by rw [hm0]; exact hk)
          rw [hm0] at h2
          subst hk
          refine (body_txt _ w (by rw [hz]; unfold maxLen; omega) (by rw [hz]; exact h2)).mono ?_
          rintro e w' ⟨⟨bd, rfl, h3, h4⟩, rfl⟩
          exact ⟨⟨bd, rfl, by rw [h3, ed], by omega⟩, rfl⟩
        · refine (Zzn        k hk _ w).mono ?_
          rintro e w' ⟨⟨bd, rfl, h3, h4⟩, rfl⟩
          exact ⟨⟨bd, rfl, by rw [h3, ed], by omega⟩, rfl⟩
      have hbr : b ≠ r0 := by omega
      clear hz ed
      go_region_held3 (fun w' => w'.cell? ⟨b, 1, none⟩ = some (.int .i64 ((j : Nat) : Int))) (go_keep) ((go_at_call 183; refine (cb _).mono ?_; rintro e w' ⟨⟨bd, rfl, hb1, hb2⟩, rfl⟩))
      all_goals go_wp2
      all_goals
        refine bodyPost_ret (v := .tuple #[.agg #[.int .i64 (Zbq   k), .int .i64 ((j : Nat) : Int), .string bd], .nilIface]) (by simp [results, Tryz.results144, go_sem, c0, c1, c2, hZ]) rfl ⟨?_, ?_⟩
      all_goals first
        | exact ((((((hT.drewN _).setCell (p := ⟨b, 1, none⟩) (Or.inl rfl) _).setCell (p := ⟨r0, 0, none⟩) (Or.inr (Nat.le_of_eq hr0)) _).setCell (p := ⟨r0, 1, none⟩) (Or.inr (Nat.le_of_eq hr0)) _).setCell (p := ⟨r0, 2, none⟩) (Or.inr (Nat.le_of_eq hr0)) _).alloc _)
        | (rw [hTok.out]
           have hlen : ((s.data.toList.drop j).take n).length = n := by rw [List.length_take, List.length_drop, Zax     ]; omega
           have key : RdAt _ b s (j + n) := next_end (wc.drewN (nq + n' + 1)) b r0 s (.int .i64 ((j : Int) + (n : Int))) (j + n) (.int .i64 (Zbq   k)) (.int .i64 ((j : Nat) : Int)) (.string bd) (.cells #[.int .i64 (Zbq   k), .int .i64 ((j : Nat) : Int), .string bd] 310) q1 q2 q3 hbr (by go_num)
           cases k <;> first | exact absurd rfl hbad | exact ⟨bd, hb1, hb2, rfl, by rw [hlen]; exact key⟩)
def Zll:Option (Bool×Int)→Value
 | some (b,n)=>.tuple #[.agg #[.bool b,.int .i64 n],.bool true]
 | none=>.tuple #[.agg #[.bool false,.int .i64 0],.bool false]
theorem Zuy (s:ByteArray)(w:World):
  Calls prog 275 #[.string s] w fun e w'=>e=.returned (Zll (Za3 s.toList))∧Below w.heap.size w w':=by
 rcases Zdx s.toList with h | h | h | h | h | h | h | h | h | h | h | h | h | h | ⟨h,g0,g1,g2,g3,g4,g5,g6,g7,g8,g9,g10,g11,g12,g13⟩
 ·go_enter func275,ntmps275
  go_wp2
  exact bodyPost_ret (v:=.tuple #[.agg #[.bool false,.int .i64 (-1)],.bool true]) (by simp[results,results275,go_sem]) rfl ⟨by first | rfl | (rw[h];rfl),(Below.refl _ _).alloc (Nat.le_refl _) _⟩
 ·go_enter func275,ntmps275
  go_wp2
  exact bodyPost_ret (v:=.tuple #[.agg #[.bool true,.int .i64 (-1)],.bool true]) (by simp[results,results275,go_sem]) rfl ⟨by first | rfl | (rw[h];rfl),(Below.refl _ _).alloc (Nat.le_refl _) _⟩
 ·go_enter func275,ntmps275
  go_wp2
  exact bodyPost_ret (v:=.tuple #[.agg #[.bool true,.int .i64 (1)],.bool true]) (by simp[results,results275,go_sem]) rfl ⟨by first | rfl | (rw[h];rfl),(Below.refl _ _).alloc (Nat.le_refl _) _⟩
 ·go_enter func275,ntmps275
  go_wp2
  exact bodyPost_ret (v:=.tuple #[.agg #[.bool true,.int .i64 (2)],.bool true]) (by simp[results,results275,go_sem]) rfl ⟨by first | rfl | (rw[h];rfl),(Below.refl _ _).alloc (Nat.le_refl _) _⟩
 ·go_enter func275,ntmps275
  go_wp2
  exact bodyPost_ret (v:=.tuple #[.agg #[.bool false,.int .i64 (3)],.bool true]) (by simp[results,results275,go_sem]) rfl ⟨by first | rfl | (rw[h];rfl),(Below.refl _ _).alloc (Nat.le_refl _) _⟩
 ·go_enter func275,ntmps275
  go_wp2
  exact bodyPost_ret (v:=.tuple #[.agg #[.bool false,.int .i64 (3)],.bool true]) (by simp[results,results275,go_sem]) rfl ⟨by first | rfl | (rw[h];rfl),(Below.refl _ _).alloc (Nat.le_refl _) _⟩
 ·go_enter func275,ntmps275
  go_wp2
  exact bodyPost_ret (v:=.tuple #[.agg #[.bool false,.int .i64 (1)],.bool true]) (by simp[results,results275,go_sem]) rfl ⟨by first | rfl | (rw[h];rfl),(Below.refl _ _).alloc (Nat.le_refl _) _⟩
 ·go_enter func275,ntmps275
  go_wp2
  exact bodyPost_ret (v:=.tuple #[.agg #[.bool false,.int .i64 (2)],.bool true]) (by simp[results,results275,go_sem]) rfl ⟨by first | rfl | (rw[h];rfl),(Below.refl _ _).alloc (Nat.le_refl _) _⟩
 ·go_enter func275,ntmps275
  go_wp2
  exact bodyPost_ret (v:=.tuple #[.agg #[.bool false,.int .i64 (2)],.bool true]) (by simp[results,results275,go_sem]) rfl ⟨by first | rfl | (rw[h];rfl),(Below.refl _ _).alloc (Nat.le_refl _) _⟩
 ·go_enter func275,ntmps275
  go_wp2
  exact bodyPost_ret (v:=.tuple #[.agg #[.bool false,.int .i64 (2)],.bool true]) (by simp[results,results275,go_sem]) rfl ⟨by first | rfl | (rw[h];rfl),(Below.refl _ _).alloc (Nat.le_refl _) _⟩
 ·go_enter func275,ntmps275
  go_wp2
  exact bodyPost_ret (v:=.tuple #[.agg #[.bool false,.int .i64 (2)],.bool true]) (by simp[results,results275,go_sem]) rfl ⟨by first | rfl | (rw[h];rfl),(Below.refl _ _).alloc (Nat.le_refl _) _⟩
 ·go_enter func275,ntmps275
  go_wp2
  exact bodyPost_ret (v:=.tuple #[.agg #[.bool false,.int .i64 (2)],.bool true]) (by simp[results,results275,go_sem]) rfl ⟨by first | rfl | (rw[h];rfl),(Below.refl _ _).alloc (Nat.le_refl _) _⟩
 ·go_enter func275,ntmps275
  go_wp2
  exact bodyPost_ret (v:=.tuple #[.agg #[.bool false,.int .i64 (2)],.bool true]) (by simp[results,results275,go_sem]) rfl ⟨by first | rfl | (rw[h];rfl),(Below.refl _ _).alloc (Nat.le_refl _) _⟩
 ·go_enter func275,ntmps275
  go_wp2
  exact bodyPost_ret (v:=.tuple #[.agg #[.bool false,.int .i64 (2)],.bool true]) (by simp[results,results275,go_sem]) rfl ⟨by first | rfl | (rw[h];rfl),(Below.refl _ _).alloc (Nat.le_refl _) _⟩
 ·go_enter func275,ntmps275
  go_wp2
  exact bodyPost_ret (v:=.tuple #[.agg #[.bool false,.int .i64 0],.bool false]) (by simp[results,results275,go_sem]) rfl ⟨by first | rfl | (rw[h];rfl),(Below.refl _ _).alloc (Nat.le_refl _) _⟩
abbrev Za2 (at_:Nat)(a:Addr):Value:=.iface 163 (.agg #[.int .i64 ((at_:Nat):Int),Za8 a])
abbrev Zui (k:Int)(at_:Nat)(bd:ByteArray):Value:=.agg #[.int .i64 k,.int .i64 ((at_:Nat):Int),.string bd]
abbrev Zd7 (bd:ByteArray)(at_:Nat):Value:=.agg #[.string bd,.int .i64 ((at_:Nat):Int)]
theorem Zen (s:ByteArray)(w:World):
  Calls prog 275 #[.string s] w fun e w'=>e=.returned (Zll (Za3 s.data.toList))∧Below w.heap.size w w':=by
 rw[←ByteArray.toList_eq]
 exact Zuy s w
theorem Ziq (s:ByteArray)(w:World):
  Calls prog 254 #[.string s] w fun e w'=>e=.returned (.bool (Zci s.data.toList))∧Below w.heap.size w w':=by
 have cs:=Zen s
 have hr:Hid (Zci s.data.toList=((Za3 s.data.toList).isSome || s.data.toList==[102,117,110])):=show Zci _=_ from rfl
 rw[←ByteArray.toList_eq] at hr
 cases h:Za3 s.data.toList with
 | some p =>
  obtain⟨bb,n⟩:=p
  rw[h] at cs
  have hr2:Hid (Zci s.data.toList=true):=by
   have:=hr.out
   rw[ByteArray.toList_eq,h] at this
   exact this
  clear hr h
  go_enter func254,ntmps254
  go_wp2_with (go_at_call 275;refine (cs _).mono ?_;rintro e w' ⟨rfl,hb⟩;simp only[Zll])
  go_ret
  exact⟨by rw[hr2.out];rfl,hb.alloc hb.size _⟩
 | none =>
  rw[h] at cs
  have hr2:Hid (Zci s.data.toList=(s.toList==[102,117,110])):=by
   have:=hr.out
   rw[ByteArray.toList_eq,h] at this
   rw[ByteArray.toList_eq]
   exact this
  clear hr h
  go_enter func254,ntmps254
  go_wp2_with (go_at_call 275;refine (cs _).mono ?_;rintro e w' ⟨rfl,hb⟩;simp only[Zll])
  go_ret
  exact⟨by rw[hr2.out];rfl,hb.alloc hb.size _⟩
theorem Zcp (k:Int)(at_:Nat)(bd:ByteArray)(w:World)(aT:Addr)(hc:w.cell? ⟨3,0,none⟩=some (Za8 aT)):
  Calls prog 221 #[Zui k at_ bd] w fun e w'=>e=.returned (Za2 at_ aT)∧Below w.heap.size w w':=by
 have hlt:=Zae hc
 have hn:=World.new_ne w _ hc
 go_enter func221,ntmps221
 go_wp2
 go_ret
 exact⟨rfl,(Below.refl _ _).alloc (Nat.le_refl _) _⟩
def Zly (k:Int)(l:List UInt8):Bool:=k==5 && !Zci l
theorem Zv2 {w w':World}{o o':Obj}(hb:Below ((w.alloc o).alloc o').heap.size ((w.alloc o).alloc o') w'):Below w.heap.size w w' :=
 (((Below.refl _ _).alloc (Nat.le_refl _) o).alloc (by simp) o').trans (hb.mono (by simp;omega))
theorem Zn1 (k:Int)(at_:Nat)(bd:ByteArray)(w:World)(hk:Zly k bd.data.toList=true):
  Calls prog 222 #[Zui k at_ bd] w fun e w'=>e=.returned (.tuple #[Zd7 bd at_,.nilIface])∧Below w.heap.size w w':=by
 have cr:=Ziq bd
 simp only[Zly,Bool.and_eq_true,beq_iff_eq,Bool.not_eq_true'] at hk
 obtain⟨rfl,hr⟩:=hk
 rw[hr] at cr
 clear hr
 go_enter func222,ntmps222
 go_wp2_with (go_at_call 254;refine (cr _).mono ?_;rintro e w' ⟨rfl,hb⟩;obtain⟨hbc,hbf,hbz⟩:=bcell hb;simp at hbz)
 exact bodyPost_ret (v:=.tuple #[Zd7 bd at_,.nilIface]) (by simp[results,results222,go_sem,hbc]) rfl ⟨rfl,((Zv2 hb).setCell (p:=⟨w.heap.size+1,0,none⟩) (by simp) _).setCell (p:=⟨w.heap.size+1,1,none⟩) (by simp) _⟩
theorem Zn2 (k:Int)(at_:Nat)(bd:ByteArray)(w:World)(aT:Addr)(hc:w.cell? ⟨3,0,none⟩=some (Za8 aT))(hk:Zly k bd.data.toList=false):
  Calls prog 222 #[Zui k at_ bd] w fun e w'=>e=.returned (.tuple #[Zd7 ⟨#[]⟩ 0,Za2 at_ aT])∧Below w.heap.size w w':=by
 have cr:=Ziq bd
 by_cases h5:k=5
 ·subst h5
  have hr:Zci bd.data.toList=true:=by simpa[Zly] using hk
  rw[hr] at cr
  clear hr hk
  go_enter func222,ntmps222
  go_wp2_with (go_at_call 254;refine (cr _).mono ?_;rintro e w' ⟨rfl,hb⟩;obtain⟨hbc,hbf,hbz⟩:=bcell hb;simp at hbz;have hc':=Below.cellv hb (Zac (Zac hc)))
  refine (Zcp 5 at_ bd _ aT hc').mono ?_
  rintro e w2 ⟨rfl,hb2⟩
  obtain⟨hbc2,hbf2,hbz2⟩:=bcell hb2
  have hz1:w.heap.size+1<w'.heap.size:=by omega
  go_wp2
  exact bodyPost_ret (v:=.tuple #[Zd7 ⟨#[]⟩ 0,Za2 at_ aT]) (by simp[results,results222,go_sem,hbc,hbc2,hz1]) rfl ⟨rfl,(((Zv2 hb).trans (hb2.mono (by omega))).setCell (p:=⟨w.heap.size+1,0,none⟩) (by simp) _).setCell (p:=⟨w.heap.size+1,1,none⟩) (by simp) _⟩
 ·clear hk
  go_enter func222,ntmps222
  go_wp2_with (go_at_call 221;refine (Zcp k at_ bd _ aT ?_).mono ?_;(exact Zac (Zac hc));rintro e w' ⟨rfl,hb⟩;obtain⟨hbc,hbf,hbz⟩:=bcell hb;simp at hbz)
  exact bodyPost_ret (v:=.tuple #[Zd7 ⟨#[]⟩ 0,Za2 at_ aT]) (by simp[results,results222,go_sem,hbc]) rfl ⟨rfl,((Zv2 hb).setCell (p:=⟨w.heap.size+1,0,none⟩) (by simp) _).setCell (p:=⟨w.heap.size+1,1,none⟩) (by simp) _⟩
structure Pz (w:World)(pb rb:Nat)(s:ByteArray)(aT aD:Addr)(p d:Nat):Prop where
 rdr:w.cell? ⟨pb,0,none⟩=some (.pointer (some ⟨rb,0,none⟩))
 opn:w.cell? ⟨pb,1,none⟩=some (.int .i64 ((d:Nat):Int))
 free:w.frozen? ⟨pb,1,none⟩=false
 rd:RdAt w rb s p
 eT:w.cell? ⟨3,0,none⟩=some (Za8 aT)
 eD:w.cell? ⟨4,0,none⟩=some (Za8 aD)
 hs:s.size≤2000
 hne:rb≠pb
 h1:15≤rb
 h2:15≤pb
 hp:p≤s.size
 hd:d≤16
def PT (pb rb:Nat)(w w':World):Prop:=Zaa (fun k=>k=rb∨k=pb) w w'
theorem PT.of_below {pb rb:Nat}{w w':World}(h:Below w.heap.size w w'):PT pb rb w w':=Zaa.of_below h
theorem PT.trans {pb rb:Nat}{a b c:World}(h:PT pb rb a b)(k:PT pb rb b c):PT pb rb a c:=Zaa.trans h k
theorem PT.refl {pb rb:Nat}(w:World):PT pb rb w w:=Zaa.refl _ w
theorem Pz.keep {w w':World}{pb rb:Nat}{s:ByteArray}{aT aD:Addr}{p d:Nat}(h:Pz w pb rb s aT aD p d)(hb:Below w.heap.size w w'):Pz w' pb rb s aT aD p d :=
 { h with
  rdr:=Below.cellv hb h.rdr
  opn:=Below.cellv hb h.opn
  free:=by rw[hb.frozen (p:=⟨pb,1,none⟩) (Zae h.opn)];exact h.free
  rd:=⟨Below.cellv hb h.rd.text,Below.cellv hb h.rd.place,by rw[hb.frozen (p:=⟨rb,1,none⟩) (Zae h.rd.place)];exact h.rd.free⟩
  eT:=Below.cellv hb h.eT
  eD:=Below.cellv hb h.eD }
theorem Pz.step {w w':World}{pb rb:Nat}{s:ByteArray}{aT aD:Addr}{p d q:Nat}(h:Pz w pb rb s aT aD p d)(ht:Zaa (·=rb) w w')(hr:RdAt w' rb s q)(hq:q≤s.size):Pz w' pb rb s aT aD q d :=
 { h with
  rdr:=ht.cell h.rdr (Ne.symm h.hne)
  opn:=ht.cell h.opn (Ne.symm h.hne)
  free:=by rw[ht.frozen (p:=⟨pb,1,none⟩) (Zae h.opn) (Ne.symm h.hne)];exact h.free
  rd:=hr
  eT:=ht.cell h.eT (by have:=h.h1;show ¬ (3=rb);omega)
  eD:=ht.cell h.eD (by have:=h.h1;show ¬ (4=rb);omega)
  hp:=hq }
theorem bodyL_other {k:K}(hk:k≠.txt)(l:List UInt8):Zmf k l=l:=by cases k<;>first | rfl | exact absurd rfl hk
theorem Zgy {w:World}{pb rb:Nat}{s:ByteArray}{aT aD:Addr}{p d:Nat}(h:Pz w pb rb s aT aD p d){t:Tok}{ts:List Tok}(hts:Za4 s.data.toList p (t::ts))(hk:t.k=.bad):
  Calls prog 144 #[.pointer (some ⟨rb,0,none⟩)] w fun e w'=>e=.returned (.tuple #[Zui 0 0 ⟨#[]⟩,Za2 t.at_ aT])∧PT pb rb w w':=by
 have e:Zah s.data.toList p=t:=by cases hts<;>rfl
 refine (Zwv rb s p w aT h.rd h.hp h.hs h.eT (by have:=h.h1;show ¬ rb=3;omega)).mono ?_
 rintro e' w' ⟨ht,hn⟩
 rw[e] at hn
 unfold Zre at hn
 rw[hk] at hn
 exact⟨hn,ht.mono fun k hk=>Or.inl hk⟩
theorem Zc1       {w : World} {pb rb : Nat} {s : ByteArray} {aT aD : Addr} {p d : Nat} (h : Pz w pb rb s aT aD p d) {t : Tok} {ts : List Tok} (hts : Za4    s.data.toList p (t :: ts)) (hk : t.k ≠ .bad) :
    Calls Tryz.prog 144 #[.pointer (some ⟨rb, 0, none⟩)] w fun e w' => ∃ bd : ByteArray, e = .returned (.tuple #[Zui  (Zbq   t.k) t.at_ bd, .nilIface]) ∧ bd.data.toList = Zmf   t.k t.body ∧ bd.size ≤ 2000 ∧ PT pb rb w w'
      ∧ ∃ q, Pz w' pb rb s aT aD q d ∧ (t.k ≠ .eof → Za4    s.data.toList q ts) := by
  have e : Zah     s.data.toList p = t := by cases hts <;> rfl
  have hp := h.hp
  have hl := Zax      s
  refine (Zwv      rb s p w aT h.rd h.hp h.hs h.eT (by have := h.h1; show ¬ rb = 3; omega)).mono ?_
  rintro e' w' ⟨ht, hn⟩
  rw [e] at hn
  have key : ∃ body : ByteArray, body.data.toList = Zmf   t.k t.body ∧ body.size ≤ 2000 ∧ e' = .returned (.tuple #[Zui  (Zbq   t.k) t.at_ body, .nilIface]) ∧ RdAt w' rb s (t.at_ + t.body.length) := by
    unfold Zre      at hn
    cases hk2 : t.k <;> rw [hk2] at hn <;> first | exact absurd hk2 hk | exact hn
  obtain ⟨bd, b1, b2, b3, b4⟩ := key
  refine ⟨bd, b3, b1, b2, ht.mono fun k hk => Or.inl hk, _, h.step ht b4 ?_, ?_⟩
  · by_cases he : t.k = .eof
    · have h1 := Zyk        s.data.toList p (by omega)
      have h2 : t.body = [] := by
        rw [← e] at he ⊢
        simp only [Zah    ] at he ⊢
        rw [(Zlw          _ he).2]
        rfl
      rw [e] at h1
      rw [h2]
      simp
      omega
    · have h1 := Zgz         s.data.toList p (by omega) (by rw [e]; exact he) (by rw [e]; exact hk)
      rw [e] at h1
      omega
  · intro he
    cases hts with
    | last h => rcases h with g | g
                · exact absurd g he
                · exact absurd g hk
    | more _ _ h3 => exact h3
theorem Pz.bump {w:World}{pb rb:Nat}{s:ByteArray}{aT aD:Addr}{p d d':Nat}{v:Value}{o:Obj}(h:Pz w pb rb s aT aD p d)(hd:d'≤16)(hv:v=.int .i64 ((d':Nat):Int)):
  Pz ((w.setCell ⟨pb,1,none⟩ v).alloc o) pb rb s aT aD p d'∧PT pb rb w ((w.setCell ⟨pb,1,none⟩ v).alloc o):=by
 subst hv
 have hne:=h.hne
 have g1:=h.h1
 have g2:=h.h2
 have far:∀{a:Addr} {x:Value},w.cell? a=some x→a≠⟨pb,1,none⟩→((w.setCell ⟨pb,1,none⟩ (.int .i64 ((d':Nat):Int))).alloc o).cell? a=some x:=fun {a x} ha hn =>
  Zac (by rw[World.cell?_setCell_other _ _ _ _ (Ne.symm hn)];exact ha)
 have hsz:(w.setCell ⟨pb,1,none⟩ (.int .i64 ((d':Nat):Int))).heap.size=w.heap.size:=by simp[World.setCell]
 have fr:∀(a:Addr),a.block<w.heap.size→w.frozen? a=false→((w.setCell ⟨pb,1,none⟩ (.int .i64 ((d':Nat):Int))).alloc o).frozen? a=false:=fun a hlt hf=>by
  rw[World.frozen?_alloc_old _ _ _ (by rw[hsz];exact Nat.ne_of_lt hlt),World.frozen?_setCell];exact hf
 refine⟨{ h with
  rdr:=far h.rdr (by simp)
  opn:=Zac (World.cell?_setCell_same _ _ _ h.opn)
  free:=fr _ (Zae h.opn) h.free
  rd:=⟨far h.rd.text (by simp),far h.rd.place (by simp),fr _ (Zae h.rd.place) h.rd.free⟩
  eT:=far h.eT (by simp)
  eD:=far h.eD (by simp)
  hd:=hd },((Zaa.refl _ w).setCell (Or.inl (Or.inr rfl)) _).alloc o⟩
theorem Zrx {w:World}{pb rb:Nat}{s:ByteArray}{aT aD:Addr}{p d:Nat}(h:Pz w pb rb s aT aD p d)(at_:Nat)(bd:ByteArray)(hd:d≠16):
  Calls prog 184 #[.pointer (some ⟨pb,0,none⟩),Zui 1 at_ bd] w fun e w'=>e=.returned .nilIface∧PT pb rb w w'∧Pz w' pb rb s aT aD p (d+1):=by
 have hz:=h
 obtain⟨r1,r2,r3,r4,e1,e2,s1,s2,s3,s4,s5,s6⟩:=h
 have hlt:=Zae r2
 have hn:=World.new_ne w _ r2
 have hd2:((d:Int)==16)=false:=by simp;omega
 have hd3:(d:Int)≤16:=by omega
 have hf:∀o,(w.alloc o).frozen? ⟨pb,1,none⟩=false:=fun o=>by
  rw[World.frozen?_alloc_old _ _ _ (Nat.ne_of_lt hlt)];exact r3
 go_enter func184,ntmps184
 go_wp2
 go_ret
 have hb:=hz.bump (d':=d+1) (v:=.int .i64 ((d:Int)+1)) (o:=Obj.cells #[.int .i64 1,.int .i64 ((at_:Nat):Int),.string bd] 310) (by omega) (by go_num)
 exact⟨rfl,hb.2,hb.1⟩
theorem Zzb {w:World}{pb rb:Nat}{s:ByteArray}{aT aD:Addr}{p:Nat}(h:Pz w pb rb s aT aD p 16)(at_:Nat)(bd:ByteArray):
  Calls prog 184 #[.pointer (some ⟨pb,0,none⟩),Zui 1 at_ bd] w fun e w'=>e=.returned (Za2 at_ aD)∧Below w.heap.size w w':=by
 obtain⟨r1,r2,r3,r4,e1,e2,s1,s2,s3,s4,s5,s6⟩:=h
 have hlt:=Zae r2
 have hn:=World.new_ne w _ r2
 have hlt2:=Zae e2
 have hn2:=World.new_ne w _ e2
 go_enter func184,ntmps184
 go_wp2
 go_ret
 exact⟨rfl,(Below.refl _ _).alloc (Nat.le_refl _) _⟩
theorem Zmq {w:World}{pb rb:Nat}{s:ByteArray}{aT aD:Addr}{p d:Nat}(h:Pz w pb rb s aT aD p d)(k:Int)(at_:Nat)(bd:ByteArray)(hk:¬ k=1):
  Calls prog 184 #[.pointer (some ⟨pb,0,none⟩),Zui k at_ bd] w fun e w'=>e=.returned (Za2 at_ aT)∧Below w.heap.size w w':=by
 have e1:=h.eT
 clear h
 go_enter func184,ntmps184
 go_wp2_with (go_at_call 221;refine (Zcp k at_ bd _ aT ?_).mono ?_;(exact Zac e1);rintro e w' ⟨rfl,hb⟩)
 go_ret
 exact⟨rfl,((Below.refl _ _).alloc (Nat.le_refl _) _).trans (hb.mono (by simp))⟩
theorem Zrj {w:World}{pb rb:Nat}{s:ByteArray}{aT aD:Addr}{p d:Nat}(h:Pz w pb rb s aT aD p (d+1))(at_:Nat)(bd:ByteArray):
  Calls prog 223 #[.pointer (some ⟨pb,0,none⟩),Zui 2 at_ bd] w fun e w'=>e=.returned .nilIface∧PT pb rb w w'∧Pz w' pb rb s aT aD p d:=by
 have hz:=h
 obtain⟨r1,r2,r3,r4,e1,e2,s1,s2,s3,s4,s5,s6⟩:=h
 have hlt:=Zae r2
 have hn:=World.new_ne w _ r2
 have hd3:(d:Int)≤15:=by omega
 have r2':w.cell? ⟨pb,1,none⟩=some (.int .i64 ((d:Int)+1)):=by rw[r2];rfl
 clear r2
 have hf:∀o,(w.alloc o).frozen? ⟨pb,1,none⟩=false:=fun o=>by
  rw[World.frozen?_alloc_old _ _ _ (Nat.ne_of_lt hlt)];exact r3
 go_enter func223,ntmps223
 go_wp2
 go_ret
 have hb:=hz.bump (d':=d) (v:=.int .i64 ((d:Nat):Int)) (o:=Obj.cells #[.int .i64 2,.int .i64 ((at_:Nat):Int),.string bd] 310) (by omega) rfl
 exact⟨rfl,hb.2,hb.1⟩
theorem leave_no {w:World}{pb rb:Nat}{s:ByteArray}{aT aD:Addr}{p d:Nat}(h:Pz w pb rb s aT aD p d)(k:Int)(at_:Nat)(bd:ByteArray)(hk:¬ k=2):
  Calls prog 223 #[.pointer (some ⟨pb,0,none⟩),Zui k at_ bd] w fun e w'=>e=.returned (Za2 at_ aT)∧Below w.heap.size w w':=by
 have e1:=h.eT
 clear h
 go_enter func223,ntmps223
 go_wp2_with (go_at_call 221;refine (Zcp k at_ bd _ aT ?_).mono ?_;(exact Zac e1);rintro e w' ⟨rfl,hb⟩)
 go_ret
 exact⟨rfl,((Below.refl _ _).alloc (Nat.le_refl _) _).trans (hb.mono (by simp))⟩
theorem Zh7 {t:Tok}{bd:ByteArray}(h:bd.data.toList=Zmf t.k t.body):Zly (Zbq t.k) bd.data.toList=Zbg t:=by
 rw[h]
 unfold Zly Zbg
 cases t.k<;>simp[Zbq,Zmf]
theorem Zlx {t:Tok}(h:Zbg t=true):t.k=.word:=by
 unfold Zbg at h
 simp at h
 exact h.1
theorem PT.alloc {pb rb:Nat}{a w:World}(h:PT pb rb a w)(o:Obj):PT pb rb a (w.alloc o):=Zaa.alloc h o
theorem PT.below {pb rb:Nat}{a w w':World}(h:PT pb rb a w)(hb:Below w.heap.size w w'):PT pb rb a w':=Zaa.trans h (Zaa.of_below hb)
theorem PT.size {pb rb:Nat}{a w:World}(h:PT pb rb a w):a.heap.size≤w.heap.size:=Zaa.size h
theorem PT.set {pb rb:Nat}{a w:World}(h:PT pb rb a w){b o:Nat}(hb:a.heap.size≤b)(u:Value):PT pb rb a (w.setCell ⟨b,o,none⟩ u):=Zaa.setCell h (Or.inr hb) u
theorem Pz.alloc {w:World}{pb rb:Nat}{s:ByteArray}{aT aD:Addr}{p d:Nat}(h:Pz w pb rb s aT aD p d)(o:Obj):Pz (w.alloc o) pb rb s aT aD p d:=h.keep ((Below.refl _ _).alloc (Nat.le_refl _) o)
theorem Pz.set {w:World}{pb rb:Nat}{s:ByteArray}{aT aD:Addr}{p d:Nat}(h:Pz w pb rb s aT aD p d){b o:Nat}(hb1:b≠pb)(hb2:b≠rb)(hb3:15≤b)(u:Value):Pz (w.setCell ⟨b,o,none⟩ u) pb rb s aT aD p d:=by
 have far:∀{a:Addr} {x:Value},w.cell? a=some x→a.block≠b→(w.setCell ⟨b,o,none⟩ u).cell? a=some x:=fun {a x} ha hn=>by
  rw[World.cell?_setCell_other _ _ _ _ (by rintro rfl;exact hn rfl)];exact ha
 exact { h with
  rdr:=far h.rdr (Ne.symm hb1)
  opn:=far h.opn (Ne.symm hb1)
  free:=by rw[World.frozen?_setCell];exact h.free
  rd:=⟨far h.rd.text (Ne.symm hb2),far h.rd.place (Ne.symm hb2),by rw[World.frozen?_setCell];exact h.rd.free⟩
  eT:=far h.eT (by show 3≠b;omega)
  eD:=far h.eD (by show 4≠b;omega) }
theorem Pz.lt {w:World}{pb rb:Nat}{s:ByteArray}{aT aD:Addr}{p d:Nat}(h:Pz w pb rb s aT aD p d):pb<w.heap.size∧rb<w.heap.size:=⟨Zae h.opn,Zae h.rd.place⟩
theorem fun_ok {w:World}{pb rb:Nat}{s:ByteArray}{aT aD:Addr}{p d:Nat}(h:Pz w pb rb s aT aD p d){t:Tok}{ts:List Tok}(hts:Za4 s.data.toList p (t::ts))(hk:t.k=.word)(hb:t.body=[102,117,110]):
  Calls prog 185 #[.pointer (some ⟨pb,0,none⟩)] w fun e w'=>e=.returned .nilIface∧PT pb rb w w'∧∃q,Pz w' pb rb s aT aD q d∧Za4 s.data.toList q ts:=by
 have cn:=Zc1 h hts (by rw[hk];decide)
 have r1:=h.rdr
 rw[hk] at cn
 clear h
 go_enter func185,ntmps185
 go_wp2_with (go_at_call 144;refine cn.mono ?_;rintro e w' ⟨bd,rfl,hbd,hbz,hpt,q,hz,hq⟩;have hbl:bd.toList=[102,117,110]:=(by rw[ByteArray.toList_eq,hbd,hb];rfl);clear hbd)
 go_ret
 exact⟨rfl,hpt.alloc _,q,hz.alloc _,hq (by decide)⟩
theorem fun_no {w:World}{pb rb:Nat}{s:ByteArray}{aT aD:Addr}{p d:Nat}(h:Pz w pb rb s aT aD p d){t:Tok}{ts:List Tok}(hts:Za4 s.data.toList p (t::ts))(hn:¬ (t.k=.word∧t.body=[102,117,110])):
  Calls prog 185 #[.pointer (some ⟨pb,0,none⟩)] w fun e w'=>e=.returned (Za2 t.at_ aT)∧PT pb rb w w':=by
 have r1:=h.rdr
 by_cases hbad:t.k=.bad
 ·have cn:=Zgy h hts hbad
  clear h hn
  go_enter func185,ntmps185
  go_wp2_with (go_at_call 144;refine cn.mono ?_;rintro e w' ⟨rfl,hpt⟩)
  go_ret
  exact⟨rfl,hpt.alloc _⟩
 ·have cn:=Zc1 h hts hbad
  by_cases hw:t.k=.word
  ·have hb:t.body≠[102,117,110]:=fun e=>hn ⟨hw,e⟩
   rw[hw] at cn
   clear h hn hbad
   go_enter func185,ntmps185
   go_wp2_with (first
    |(go_at_call 144;refine cn.mono ?_;rintro e w' ⟨bd,rfl,hbd,hbz,hpt,q,hz,hq⟩;have hbl:(bd.toList==[102,117,110])=false:=(by rw[ByteArray.toList_eq,hbd];simpa[Zmf] using hb);clear hbd)
    |(go_at_call 221;refine (Zcp 5 t.at_ bd _ aT ?_).mono ?_;(exact (hz.alloc _).eT);rintro e w2 ⟨rfl,hb2⟩))
   go_ret
   exact⟨rfl,(hpt.alloc _).below hb2⟩
  ·have hk5:¬ Zbq t.k=5:=by
    revert hw
    cases t.k<;>simp[Zbq]
   clear h hn hbad
   go_enter func185,ntmps185
   go_wp2_with (first
    |(go_at_call 144;refine cn.mono ?_;rintro e w' ⟨bd,rfl,hbd,hbz,hpt,q,hz,hq⟩;clear hbd)
    |(go_at_call 221;refine (Zcp (Zbq t.k) t.at_ bd _ aT ?_).mono ?_;(exact (hz.alloc _).eT);rintro e w2 ⟨rfl,hb2⟩))
   go_ret
   exact⟨rfl,(hpt.alloc _).below hb2⟩
theorem PT.grown {pb rb:Nat}{a w w':World}{row:Option Nat}(h:PT pb rb a w)(hg:w.grownBy w' row)(hr:∀k,row=some k→a.heap.size≤k):PT pb rb a w' :=
 ⟨hg.os.trans h.os,hg.tape.trans h.tape,hg.output.trans h.output,Nat.le_trans h.size hg.size,fun k hk hS=>(hg.block k (Nat.lt_of_lt_of_le hk h.size) (fun e=>by have:=hr k e.symm;omega)).trans (h.block k hk hS)⟩
theorem Zd0 {w w':World}{row:Option Nat}(hg:w.grownBy w' row){p:Addr}{v:Value}(hc:w.cell? p=some v)(hne:some p.block≠row):w'.cell? p=some v:=by
 rw[World.cell?_of_block (w:=w) (hg.block p.block (Zae hc) hne)]
 exact hc
theorem Pz.grown {w w':World}{pb rb:Nat}{s:ByteArray}{aT aD:Addr}{p d:Nat}{row:Option Nat}(h:Pz w pb rb s aT aD p d)(hg:w.grownBy w' row)(hr:∀k,row=some k→pb<k∧rb<k):Pz w' pb rb s aT aD p d:=by
 have g1:=h.h1
 have g2:=h.h2
 have ne:∀k,(k=pb∨k=rb∨k<15)→some k≠row:=fun k hk e=>by have:=hr k e.symm;omega
 exact { h with
  rdr:=Zd0 hg h.rdr (ne _ (Or.inl rfl))
  opn:=Zd0 hg h.opn (ne _ (Or.inl rfl))
  free:=by rw[World.frozen?_of_block (w:=w) (a:=⟨pb,1,none⟩) (hg.block pb (Zae h.opn) (ne _ (Or.inl rfl)))];exact h.free
  rd:=⟨Zd0 hg h.rd.text (ne _ (Or.inr (Or.inl rfl))),Zd0 hg h.rd.place (ne _ (Or.inr (Or.inl rfl))),by rw[World.frozen?_of_block (w:=w) (a:=⟨rb,1,none⟩) (hg.block rb (Zae h.rd.place) (ne _ (Or.inr (Or.inl rfl))))];exact h.rd.free⟩
  eT:=Zd0 hg h.eT (ne _ (Or.inr (Or.inr (by show 3<15;decide))))
  eD:=Zd0 hg h.eD (ne _ (Or.inr (Or.inr (by show 4<15;decide)))) }
theorem Zc5 {w w':World}{base:Nat}{e:TypeId}{size:Nat}{v:Value}{n:Nat}{xs:List Value}(h:w.ownsRow base e size v n xs){S:Nat→Prop}(ht:Zaa S w w')(hS:∀k,base≤k→¬ S k):w'.ownsRow base e size v n xs:=by
 obtain⟨h1,h2⟩:=h
 refine⟨h1,?_⟩
 rcases h2 with g | ⟨g,cap,cur,hv,hg,hh,hn,hcap,hsz,htake⟩
 ·exact Or.inl g
 ·refine Or.inr ⟨g,cap,cur,hv,hg,?_,hn,hcap,hsz,htake⟩
  have hlt:g<w.heap.size:=by
   rcases Nat.lt_or_ge g w.heap.size with h | h
   ·exact h
   ·rw[Array.getElem?_eq_none h] at hh;cases hh
  rw[ht.block g hlt (hS g hg)]
  exact hh
theorem Zrf (w:World):let X:=w.alloc (.cells #[.string ⟨#[]⟩,.int .i64 0] 138)
  X.cell? ⟨w.heap.size,0,none⟩=some (.string ⟨#[]⟩)∧X.cell? ⟨w.heap.size,1,none⟩=some (.int .i64 0)∧X.frozen? ⟨w.heap.size,0,none⟩=false∧X.frozen? ⟨w.heap.size,1,none⟩=false∧w.heap.size<X.heap.size:=by
 have h:(w.alloc (Obj.cells #[.string ⟨#[]⟩,.int .i64 0] 138)).heap[w.heap.size]?=some (.cells #[.string ⟨#[]⟩,.int .i64 0] 138):=heap_alloc_new _ _
 refine⟨?_,?_,?_,?_,by simp⟩
 ·unfold World.cell?;rw[h];rfl
 ·unfold World.cell?;rw[h];rfl
 ·unfold World.frozen?;rw[h];rfl
 ·unfold World.frozen?;rw[h];rfl
theorem PT.cell {pb rb:Nat}{w w':World}(h:PT pb rb w w'){p:Addr}{v:Value}(hc:w.cell? p=some v)(h1:p.block≠pb)(h2:p.block≠rb):w'.cell? p=some v:=Zaa.cell h hc (by rintro (g | g);exact h2 g;exact h1 g)
theorem PT.frz {pb rb:Nat}{w w':World}(h:PT pb rb w w'){p:Addr}(hlt:p.block<w.heap.size)(h1:p.block≠pb)(h2:p.block≠rb):w'.frozen? p=w.frozen? p:=Zaa.frozen h hlt (by rintro (g | g);exact h2 g;exact h1 g)
theorem Z1w {w:World}{pb rb:Nat}{s:ByteArray}{aT aD:Addr}{p d:Nat}(h:Pz w pb rb s aT aD p d){t:Tok}{ts:List Tok}(hts:Za4 s.data.toList p (t::ts))(hn:Zbg t=true):
  Calls prog 186 #[.pointer (some ⟨pb,0,none⟩)] w fun e w'=>∃bd:ByteArray,e=.returned (.tuple #[Zd7 bd t.at_,.nilIface])∧bd.data.toList=t.body∧bd.size≤2000∧PT pb rb w w'∧∃q,Pz w' pb rb s aT aD q d∧Za4 s.data.toList q ts:=by
 have hw:=Zlx hn
 have ha:=(h.alloc (Obj.cells #[.string ⟨#[]⟩,.int .i64 0] 138))
 have cn:=Zc1 ha hts (by rw[hw];decide)
 have r1:=ha.rdr
 have hlt:=h.lt
 obtain⟨n0,n1,n2,n3,n4⟩:=Zrf w
 have hx:w.heap.size≠pb:=by omega
 have hy:w.heap.size≠rb:=by omega
 have h15:=h.h1
 go_enter func186,ntmps186
 go_wp2_with (go_at_call 144;refine cn.mono ?_;rintro e w' ⟨bd,rfl,hbd,hbz,hpt,q,hz,hq⟩)
 refine (Zn1 (Zbq K.word) t.at_ bd _ (by rw[←hw,Zh7 hbd];exact hn)).mono ?_
 rintro e w2 ⟨rfl,hb2⟩
 have m0:w2.cell? ⟨w.heap.size,0,none⟩=some (.string ⟨#[]⟩):=Below.cellv hb2 (Zac (hpt.cell n0 hx hy))
 have m1:w2.cell? ⟨w.heap.size,1,none⟩=some (.int .i64 0):=Below.cellv hb2 (Zac (hpt.cell n1 hx hy))
 have k1:w.heap.size<w'.heap.size:=Nat.lt_of_lt_of_le n4 hpt.size
 have m2:w2.frozen? ⟨w.heap.size,0,none⟩=false:=by
  rw[hb2.frozen (p:=⟨w.heap.size,0,none⟩) (by simp;omega),World.frozen?_alloc_old _ _ _ (by simp;omega),hpt.frz (p:=⟨w.heap.size,0,none⟩) n4 hx hy];exact n2
 have m3:w2.frozen? ⟨w.heap.size,1,none⟩=false:=by
  rw[hb2.frozen (p:=⟨w.heap.size,1,none⟩) (by simp;omega),World.frozen?_alloc_old _ _ _ (by simp;omega),hpt.frz (p:=⟨w.heap.size,1,none⟩) n4 hx hy];exact n3
 have hpt2:PT pb rb w w2:=(((PT.refl w).alloc _).trans hpt |>.alloc _).below hb2
 have hz2:Pz w2 pb rb s aT aD q d:=(hz.alloc _).keep hb2
 clear cn r1 ha hpt hz hb2 n0 n1 n2 n3 n4
 go_wp2
 refine bodyPost_ret (v:=.tuple #[Zd7 bd t.at_,.nilIface]) (by simp[results,results186,go_sem,m0,m1]) rfl ⟨bd,rfl,by rw[hbd,hw];rfl,hbz,(hpt2.set (Nat.le_refl _) _).set (Nat.le_refl _) _,q,(hz2.set hx hy (by omega) _).set hx hy (by omega) _,hq (by rw[hw];decide)⟩
theorem Z1x {w:World}{pb rb:Nat}{s:ByteArray}{aT aD:Addr}{p d:Nat}(h:Pz w pb rb s aT aD p d){t:Tok}{ts:List Tok}(hts:Za4 s.data.toList p (t::ts))(hn:Zbg t=false):
  Calls prog 186 #[.pointer (some ⟨pb,0,none⟩)] w fun e w'=>e=.returned (.tuple #[Zd7 ⟨#[]⟩ 0,Za2 t.at_ aT])∧PT pb rb w w':=by
 have ha:=(h.alloc (Obj.cells #[.string ⟨#[]⟩,.int .i64 0] 138))
 have r1:=ha.rdr
 have hlt:=h.lt
 obtain⟨n0,n1,n2,n3,n4⟩:=Zrf w
 have hx:w.heap.size≠pb:=by omega
 have hy:w.heap.size≠rb:=by omega
 by_cases hbad:t.k=.bad
 ·have cn:=Zgy ha hts hbad
  go_enter func186,ntmps186
  go_wp2_with fail
  refine cn.mono ?_
  rintro e w' ⟨rfl,hpt⟩
  have m0:w'.cell? ⟨w.heap.size,0,none⟩=some (.string ⟨#[]⟩):=(hpt.cell n0 hx hy)
  have m1:w'.cell? ⟨w.heap.size,1,none⟩=some (.int .i64 0):=(hpt.cell n1 hx hy)
  have k1:w.heap.size<w'.heap.size:=Nat.lt_of_lt_of_le n4 hpt.size
  have m2:w'.frozen? ⟨w.heap.size,0,none⟩=false:=by
   rw[hpt.frz (p:=⟨w.heap.size,0,none⟩) n4 hx hy];exact n2
  have m3:w'.frozen? ⟨w.heap.size,1,none⟩=false:=by
   rw[hpt.frz (p:=⟨w.heap.size,1,none⟩) n4 hx hy];exact n3
  have hpt2:PT pb rb w w':=(((PT.refl w).alloc _).trans hpt)
  clear cn r1 ha hpt n0 n1 n2 n3 n4
  go_wp2
  refine bodyPost_ret (v:=.tuple #[Zd7 ⟨#[]⟩ 0,Za2 t.at_ aT]) (by simp[results,results186,go_sem,m0,m1,k1]) rfl ⟨rfl,((hpt2.set (Nat.le_refl _) _).set (Nat.le_refl _) _).alloc _⟩
 ·have cn:=Zc1 ha hts hbad
  go_enter func186,ntmps186
  go_wp2_with (go_at_call 144;refine cn.mono ?_;rintro e w' ⟨bd,rfl,hbd,hbz,hpt,q,hz,hq⟩)
  refine (Zn2 (Zbq t.k) t.at_ bd _ aT (hz.alloc _).eT (by rw[Zh7 hbd];exact hn)).mono ?_
  rintro e w2 ⟨rfl,hb2⟩
  have m0:w2.cell? ⟨w.heap.size,0,none⟩=some (.string ⟨#[]⟩):=Below.cellv hb2 (Zac (hpt.cell n0 hx hy))
  have m1:w2.cell? ⟨w.heap.size,1,none⟩=some (.int .i64 0):=Below.cellv hb2 (Zac (hpt.cell n1 hx hy))
  have k1:w.heap.size<w'.heap.size:=Nat.lt_of_lt_of_le n4 hpt.size
  have m2:w2.frozen? ⟨w.heap.size,0,none⟩=false:=by
   rw[hb2.frozen (p:=⟨w.heap.size,0,none⟩) (by simp;omega),World.frozen?_alloc_old _ _ _ (by simp;omega),hpt.frz (p:=⟨w.heap.size,0,none⟩) n4 hx hy];exact n2
  have m3:w2.frozen? ⟨w.heap.size,1,none⟩=false:=by
   rw[hb2.frozen (p:=⟨w.heap.size,1,none⟩) (by simp;omega),World.frozen?_alloc_old _ _ _ (by simp;omega),hpt.frz (p:=⟨w.heap.size,1,none⟩) n4 hx hy];exact n3
  have hpt2:PT pb rb w w2:=(((PT.refl w).alloc _).trans hpt |>.alloc _).below hb2
  clear cn r1 ha hpt hz hb2 n0 n1 n2 n3 n4
  go_wp2
  refine bodyPost_ret (v:=.tuple #[Zd7 ⟨#[]⟩ 0,Za2 t.at_ aT]) (by simp[results,results186,go_sem,m0,m1]) rfl ⟨rfl,(hpt2.set (Nat.le_refl _) _).set (Nat.le_refl _) _⟩
def Zb2:List (ByteArray×Nat)→List Value
 | []=>[]
 | x::r=>.string x.1::.int .i64 ((x.2:Nat):Int)::Zb2 r
theorem Zo3 (l:List (ByteArray×Nat))(x:ByteArray×Nat):Zb2 (l++[x])=Zb2 l++[.string x.1,.int .i64 ((x.2:Nat):Int)]:=by
 induction l with
 | nil=>rfl
 | cons y l ih=>simp[Zb2,ih]
def Zas (l:List (ByteArray×Nat)):List (List UInt8×Nat):=l.map fun x=>(x.1.data.toList,x.2)
def addN (pre:List (List UInt8×Nat)):Res (List (List UInt8×Nat))→Res (List (List UInt8×Nat))
 | .ok ns r=>.ok (pre++ns) r
 | .err c a=>.err c a
def Z34 (w:World)(base:Nat)(v:Value)(ns:List (List UInt8×Nat)):Prop :=
 ∃bs:List (ByteArray×Nat),Zas bs=ns∧w.ownsRow base 138 2 v bs.length (Zb2 bs)
def Zi8 (c:Nat)(aT aD:Addr):Addr:=if c=3 then aD else aT
def Zpx (r:Res (List (List UInt8×Nat)))(w:World)(pb rb:Nat)(s:ByteArray)(aT aD:Addr)(d:Nat)(e:Ending)(w':World):Prop :=
 PT pb rb w w'∧match r with
 | .err c a=>e=.returned (.tuple #[.slice none 0 0,Za2 a (Zi8 c aT aD)])
 | .ok ns rest=>∃v q,e=.returned (.tuple #[v,.nilIface])∧Z34 w' w.heap.size v ns∧Pz w' pb rb s aT aD q d∧Za4 s.data.toList q rest
theorem Tryz.infoName:(prog.info? 138).map (fun i=>(i.zero,i.size,i.bytes))=some (some (.agg #[.string ⟨#[]⟩,.int .i64 0]),2,24):=by kernel_rfl
theorem Zt8 (w:World)(x y:Value)(t:TypeId):∀j u,[x,y][j]?=some u→(w.alloc (.cells #[x,y] t)).cell? ((⟨w.heap.size,0,none⟩:Addr).add j)=some u:=by
 intro j u hj
 match j,hj with
 | 0,hj=>simp at hj;subst hj;simp[Addr.add]
 | 1,hj=>simp at hj;subst hj;simp[Addr.add]
 | j+2,hj=>simp at hj
theorem Znu             {w : World} {pb rb : Nat} {s : ByteArray} {aT aD : Addr} {p d : Nat} (h : Pz w pb rb s aT aD p d) {t : Tok} {ts : List Tok} (hts : Za4    s.data.toList p (t :: ts)) (hd : d ≠ 16) (hk : t.k = .opn) :
    Calls Tryz.prog 187 #[.pointer (some ⟨pb, 0, none⟩)] w (Zpx        (pP ts) w pb rb s aT aD d) := by
  have cn := Zc1       h hts (by rw [hk]; decide)
  have r1 := h.rdr
  have hlen := hts.len (by rw [Zax     ]; exact h.hp)
  rw [Zax     ] at hlen
  have hs2 := h.hs
  have hlt := h.lt
  have h15 := h.h1
  simp only [List.length_cons] at hlen
  rw [hk] at cn
  clear hts
  go_enter Tryz.func187, Tryz.ntmps187
  go_wp2_with (first
    | (go_at_call 144; refine cn.mono ?_; rintro e w1 ⟨bd, rfl, hbd, hbz, hpt, q, hz, hq⟩)
    | (go_at_call 184; refine (Zrx      (hz.alloc _) t.at_ bd hd).mono ?_; rintro e w2 ⟨rfl, hpt2, hz2'⟩))
  have hq2 := hq (by decide)
  have hpt3 : PT pb rb w w2 := (hpt.alloc _).trans hpt2
  clear cn hpt hz hpt2 hbd hbz hq r1
  go_loopg [7] ts.length (fun k v wr => ∃ bs ts2 q2, k = ts2.length ∧ bs.length + ts2.length = ts.length ∧ wr.ownsRow w.heap.size 138 2 v bs.length (Zb2       bs) ∧ PT pb rb w wr ∧ Pz wr pb rb s aT aD q2 (d + 1) ∧ Za4    s.data.toList q2 ts2 ∧ pP ts = addN (Zas        bs) (pP ts2))
  case atStart =>
    refine ⟨[], ts, q, rfl, by simp, World.ownsRow_nil _ _ _ _, hpt3, hz2', hq2, ?_⟩
    cases pP ts <;> rfl
  case round =>
    obtain ⟨bs, ts2, q2, rfl, hcount, hown, hptr, hzr, hq3, heq⟩ := hrel
    obtain ⟨t2, ts3, rfl⟩ := hq3.ne
    have r1 := hzr.rdr
    have HE : Aside (pP ts = addN (Zas        bs) (pP (t2 :: ts3))) := heq
    clear heq
    have hltr := hzr.lt
    have hszr := hptr.size
    simp only [List.length_cons] at hcount
    by_cases hbad : t2.k = .bad
    · have cn := Zgy      hzr hq3 hbad
      have hP : pP ts = .err 2 t2.at_ := by rw [HE.out]; simp [pP, hbad, Zbg    , addN]
      rw [hP]
      go_wp2_with (go_at_call 144; refine cn.mono ?_; rintro e w3 ⟨rfl, hpt5⟩)
      go_ret2
      exact ⟨(hptr.trans hpt5).alloc _, rfl⟩
    have cn := Zc1       hzr hq3 hbad
    by_cases hcls : t2.k = .cls
    · have hP : pP ts = .ok (Zas        bs) ts3 := by rw [HE.out]; simp [pP, hcls, addN]
      rw [hP]
      rw [hcls] at cn
      clear HE
      go_wp2_with (first
        | (go_at_call 144; refine cn.mono ?_; rintro e w3 ⟨bd3, rfl, hbd, hbz, hpt5, q5, hz5, hq5⟩)
        | (go_at_call 223; refine (Zrj      (hz5.alloc _) t2.at_ bd3).mono ?_; rintro e w4 ⟨rfl, hpt6, hz6⟩))
      go_ret2
      have own4 : w4.ownsRow w.heap.size 138 2 _ bs.length (Zb2       bs) := Zc5        hown ((hpt5.alloc _).trans hpt6) (fun k hk => by rintro (g | g) <;> omega)
      exact ⟨(hptr.trans hpt5).alloc _ |>.trans hpt6, _, q5, rfl, ⟨bs, rfl, own4⟩, hz6, hq5 (by decide)⟩
    have hk2 : ¬ Zbq   t2.k = 2 := by revert hcls; cases t2.k <;> simp [Zbq  ]
    cases hnm : Zbg     t2
    · have hP : pP ts = .err 2 t2.at_ := by rw [HE.out]; simp [pP, hcls, hnm, addN]
      rw [hP]
      clear HE
      go_wp2_with (first
        | (go_at_call 144; refine cn.mono ?_; rintro e w3 ⟨bd3, rfl, hbd, hbz, hpt5, q5, hz5, hq5⟩)
        | (go_at_call 222; refine (Zn2       (Zbq   t2.k) t2.at_ bd3 _ aT (hz5.alloc _).eT (by rw [Zh7        hbd]; exact hnm)).mono ?_; rintro e w4 ⟨rfl, hb6⟩))
      go_ret2
      exact ⟨(((hptr.trans hpt5).alloc _).below hb6).alloc _, rfl⟩
    · have hw := Zlx          hnm
      have hP : pP ts = addN (Zas        bs) (Zig   (t2.body, t2.at_) (pP ts3)) := by rw [HE.out]; simp [pP, hcls, hnm]
      have HP : Aside (pP ts = addN (Zas        bs) (Zig   (t2.body, t2.at_) (pP ts3))) := hP
      clear hP HE
      go_wp2_with (first
        | (go_at_call 144; refine cn.mono ?_; rintro e w3 ⟨bd3, rfl, hbd, hbz, hpt5, q5, hz5, hq5⟩)
        | (go_at_call 222; refine (Zn1       (Zbq   K.word) t2.at_ bd3 _ (by rw [← hw, Zh7        hbd]; exact hnm)).mono ?_; rintro e w4 ⟨rfl, hb6⟩
           have own4 : w4.ownsRow w.heap.size 138 2 _ bs.length (Zb2       bs) := Zc5        hown ((hpt5.alloc _).trans (PT.of_below (pb := pb) (rb := rb) hb6)) (fun k hk => by rintro (g | g) <;> omega)
           have pt4 : PT pb rb w w4 := ((hptr.trans hpt5).alloc _).below hb6
           have z4 : Pz w4 pb rb s aT aD q5 (d + 1) := (hz5.alloc _).keep hb6)
        | (at_builtin; obtain ⟨i0, hi, hz0, hz1, hz2⟩ := info_parts Tryz.infoName; refine wpList_append_own _ rfl _ _ 139 rfl w.heap.size 138 i0 (.agg #[.string ⟨#[]⟩, .int .i64 0]) 2 24 Tryz.underlying139 hi hz0 hz1 hz2 rfl (by decide) _ _ _ rfl ((own4.alloc _).alloc _) ⟨w4.heap.size + 1, 0, none⟩ 1 1 [.string bd3, .int .i64 ((t2.at_ : Nat) : Int)] rfl rfl ?_ (fun x hx => by simp at hx; rcases hx with rfl | rfl <;> rfl) (by unfold maxLen; omega) (by omega) (by simp; have := pt4.size; omega) ?_; (have := Zt8          (w4.alloc (Obj.cells #[.string bd3, .int .i64 ((t2.at_ : Nat) : Int)] 138)) (.string bd3) (.int .i64 ((t2.at_ : Nat) : Int)) 138; simpa using this); intro v' w6 hown' hgrow hnil; clear hi hz0 hz1 hz2))
      go_roundg ts3.length
      case measure => simp
      case rel =>
        have hrow : ∀ k, Value.ownBlock _ = some k → w.heap.size ≤ k := fun k hk => (own4.lt k hk).1
        refine ⟨bs ++ [(bd3, t2.at_)], ts3, q5, rfl, by simp; omega, ?_, ((pt4.alloc _).alloc _).grown hgrow hrow, ((z4.alloc _).alloc _).grown hgrow (fun k hk => by have := hrow k hk; omega), hq5 (by rw [hw]; decide), ?_⟩
        · rw [Zo3           , List.length_append]
          exact hown'
        · rw [HP.out]
          have e1 : bd3.data.toList = t2.body := by rw [hbd, hw]; rfl
          have e2 : Zas        (bs ++ [(bd3, t2.at_)]) = Zas        bs ++ [(t2.body, t2.at_)] := by simp [Zas       , e1]
          rw [e2]
          cases pP ts3 <;> simp [addN, Zig  ]
theorem Zmb {w:World}{pb rb:Nat}{s:ByteArray}{aT aD:Addr}{p d:Nat}(h:Pz w pb rb s aT aD p d){t:Tok}{ts:List Tok}(hts:Za4 s.data.toList p (t::ts))(hk:t.k≠.opn):
  Calls prog 187 #[.pointer (some ⟨pb,0,none⟩)] w (Zpx (.err 2 t.at_) w pb rb s aT aD d):=by
 have r1:=h.rdr
 by_cases hbad:t.k=.bad
 ·have cn:=Zgy h hts hbad
  go_enter func187,ntmps187
  go_wp2_with (go_at_call 144;refine cn.mono ?_;rintro e w3 ⟨rfl,hpt5⟩)
  go_ret2
  exact⟨hpt5.alloc _,rfl⟩
 ·have cn:=Zc1 h hts hbad
  have hk1:¬ Zbq t.k=1:=by revert hk;cases t.k<;>simp[Zbq]
  go_enter func187,ntmps187
  go_wp2_with (first
   |(go_at_call 144;refine cn.mono ?_;rintro e w1 ⟨bd,rfl,hbd,hbz,hpt,q,hz,hq⟩)
   |(go_at_call 184;refine (Zmq (hz.alloc _) (Zbq t.k) t.at_ bd hk1).mono ?_;rintro e w2 ⟨rfl,hb2⟩))
  go_ret2
  exact⟨(hpt.alloc _).below hb2,rfl⟩
end Go.Proofs.YtliapghpeoaonaaGreatDoor
