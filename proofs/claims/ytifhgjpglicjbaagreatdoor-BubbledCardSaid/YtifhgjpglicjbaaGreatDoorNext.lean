/-
  (*token.Reader).Next: the next token, for every text and every place.
-/
import Derived.Test.YtifhgjpglicjbaaGreatDoorPure
import Derived.Deep.RegionHeld3
import Derived.Deep.DrawnRows
import Derived.Deep.DeepCutAuto
set_option maxHeartbeats 2000000
namespace Go.Proofs.YtifhgjpglicjbaaGreatDoor
open Go.RowKit
attribute [local go_sem ↓] Go.wp_at_zero Go.wp_at_succ
structure RdAt (w:World)(b:Nat)(s:ByteArray)(p:Nat):Prop where
 text:w.cell? ⟨b,0,none⟩=some (.string s)
 place:w.cell? ⟨b,1,none⟩=some (.int .i64 ((p:Nat):Int))
 free:w.frozen? ⟨b,1,none⟩=false
abbrev errVal (a:Addr):Value:=.iface 402 (.pointer (some a))
def nextPost (t:Tok)(aT:Addr)(b:Nat)(s:ByteArray)(e:Ending)(w':World):Prop :=
 match t.k with
 | .bad=>e=.returned (.tuple #[.agg #[.int .i64 0,.int .i64 0,.string ⟨#[]⟩],.iface 116 (.agg #[.int .i64 ((t.at_:Nat):Int),errVal aT])])
 | k=>∃body:ByteArray,body.data.toList=bodyL k t.body∧body.size≤2000∧e=.returned (.tuple #[.agg #[.int .i64 (kcode k),.int .i64 ((t.at_:Nat):Int),.string body],.nilIface])∧RdAt w' b s (t.at_+t.body.length)
theorem next_mid (w:World)(b:Nat)(s:ByteArray)(p q:Nat)(v:Value)(r1:w.cell? ⟨b,0,none⟩=some (.string s))(r2:w.cell? ⟨b,1,none⟩=some (.int .i64 ((p:Nat):Int)))(r3:w.frozen? ⟨b,1,none⟩=false)
  (hv:v=.int .i64 ((q:Nat):Int)) :
  RdAt ((w.setCell ⟨b,1,none⟩ v).alloc (.cells #[.int .i64 0,.int .i64 0,.string ⟨#[]⟩] 173)).drew b s q∧Touch (·=b) w ((w.setCell ⟨b,1,none⟩ v).alloc (.cells #[.int .i64 0,.int .i64 0,.string ⟨#[]⟩] 173)).drew
   ∧ ((w.setCell ⟨b,1,none⟩ v).alloc (.cells #[.int .i64 0,.int .i64 0,.string ⟨#[]⟩] 173)).drew.heap.size=w.heap.size+1
   ∧ ((w.setCell ⟨b,1,none⟩ v).alloc (.cells #[.int .i64 0,.int .i64 0,.string ⟨#[]⟩] 173)).drew.heap[w.heap.size]?=some (.cells #[.int .i64 0,.int .i64 0,.string ⟨#[]⟩] 173):=by
 subst hv
 have hlt:=cell_lt r1
 have hsz:(w.setCell ⟨b,1,none⟩ (.int .i64 ((q:Nat):Int))).heap.size=w.heap.size:=by simp[World.setCell]
 refine⟨⟨?_,?_,?_⟩,(((Touch.refl (·=b) w).setCell (p:=⟨b,1,none⟩) (Or.inl rfl) _).alloc _).drew,?_,?_⟩
 ·show ((w.setCell ⟨b,1,none⟩ _).alloc _).cell? ⟨b,0,none⟩=_
  rw[World.cell?_alloc_lt _ _ _ (by rw[hsz];exact hlt),World.cell?_setCell_other _ _ _ _ (by simp)]
  exact r1
 ·show ((w.setCell ⟨b,1,none⟩ _).alloc _).cell? ⟨b,1,none⟩=_
  rw[World.cell?_alloc_lt _ _ _ (by rw[hsz];exact hlt),World.cell?_setCell_same _ _ _ r2]
 ·show ((w.setCell ⟨b,1,none⟩ _).alloc _).frozen? ⟨b,1,none⟩=_
  rw[World.frozen?_alloc_old _ _ _ (by rw[hsz];exact Nat.ne_of_lt hlt),World.frozen?_setCell]
  exact r3
 ·show ((w.setCell ⟨b,1,none⟩ _).alloc _).heap.size=_
  rw[←hsz]
  simp
 ·show ((w.setCell ⟨b,1,none⟩ _).alloc _).heap[w.heap.size]?=_
  rw[←hsz]
  exact heap_alloc_new _ _
theorem next_end (w:World)(b r0:Nat)(s:ByteArray)(v:Value)(q:Nat)(x0 x1 x2:Value)(o:Obj)(r1:w.cell? ⟨b,0,none⟩=some (.string s)){u:Value}(r2:w.cell? ⟨b,1,none⟩=some u)(r3:w.frozen? ⟨b,1,none⟩=false)
  (hne:b≠r0) (hv:v=.int .i64 ((q:Nat):Int)) :
  RdAt (((((w.setCell ⟨b,1,none⟩ v).setCell ⟨r0,0,none⟩ x0).setCell ⟨r0,1,none⟩ x1).setCell ⟨r0,2,none⟩ x2).alloc o) b s q:=by
 subst hv
 have hlt:=cell_lt r1
 have hsz:((((w.setCell ⟨b,1,none⟩ (.int .i64 ((q:Nat):Int))).setCell ⟨r0,0,none⟩ x0).setCell ⟨r0,1,none⟩ x1).setCell ⟨r0,2,none⟩ x2).heap.size=w.heap.size:=by simp[World.setCell]
 refine⟨?_,?_,?_⟩
 ·rw[World.cell?_alloc_lt _ _ _ (by rw[hsz];exact hlt),World.cell?_setCell_other _ _ _ _ (by simp<;>omega),World.cell?_setCell_other _ _ _ _ (by simp<;>omega),World.cell?_setCell_other _ _ _ _ (by simp<;>omega),World.cell?_setCell_other _ _ _ _ (by simp)]
  exact r1
 ·rw[World.cell?_alloc_lt _ _ _ (by rw[hsz];exact hlt),World.cell?_setCell_other _ _ _ _ (by simp<;>omega),World.cell?_setCell_other _ _ _ _ (by simp<;>omega),World.cell?_setCell_other _ _ _ _ (by simp<;>omega),World.cell?_setCell_same _ _ _ r2]
 ·rw[World.frozen?_alloc_old _ _ _ (by rw[hsz];exact Nat.ne_of_lt hlt),World.frozen?_setCell,World.frozen?_setCell,World.frozen?_setCell,World.frozen?_setCell]
  exact r3
theorem next_any (b : Nat) (s : ByteArray) (p : Nat) (w : World) (aT : Addr) (hR : RdAt w b s p) (hp : p ≤ s.size) (hs : s.size ≤ 2000) (hc : w.cell? ⟨6, 0, none⟩ = some (errVal aT)) (hne : b ≠ 6) :
    Calls Tryz.prog 71 #[.pointer (some ⟨b, 0, none⟩)] w fun e w' => Touch (· = b) w w' ∧ nextPost (nextTok s.data.toList p) aT b s e w' := by
  obtain ⟨r1, r2, r3⟩ := hR
  have hlt := cell_lt r1
  have hn := World.new_ne w _ r1
  have i1 : (0 : Int) ≤ (p : Int) := by omega
  have i2 : (p : Int) ≤ (s.size : Int) := by omega
  have er : (s.extract p s.size).data.toList = s.data.toList.drop p := Lib.extract_to_end s p
  have cr := fun w => run_isBlank (s.extract p s.size) w (by simp [maxLen]; omega)
  rw [er] at cr
  have hl := runL_le blank (s.data.toList.drop p)
  rw [List.length_drop, len_data] at hl
  have hj : Hid ((nextTok s.data.toList p).at_ = p + runL blank (s.data.toList.drop p)) := show (nextTok s.data.toList p).at_ = _ from rfl
  clear er
  have r3' : ∀ o, (w.alloc o).frozen? ⟨b, 1, none⟩ = false := fun o => by
    rw [((Touch.refl (fun _ => False) w).alloc o).frozen (p := ⟨b, 1, none⟩) hlt id]
    exact r3
  go_enter Tryz.func71, Tryz.ntmps71
  go_upto_region 1 with fail
  go_cut [] (fun wx => RdAt wx b s (p + runL blank (s.data.toList.drop p)) ∧ Touch (· = b) w wx ∧ wx.heap.size = w.heap.size + 1 ∧ wx.heap[w.heap.size]? = some (.cells #[.int .i64 0, .int .i64 0, .string ⟨#[]⟩] 173))
  case first =>
    go_region_with ((go_at_call 62; refine (cr _).mono ?_; rintro e w' ⟨rfl, rfl⟩))
    all_goals go_wp2_with fail
    all_goals go_meet
    all_goals exact next_mid w b s p _ _ r1 r2 r3 (by rw [show IntKind.i64.wrap ((p : Int) + (runL blank (List.drop p s.data.toList) : Int)) = ((p + runL blank (s.data.toList.drop p) : Nat) : Int) from by rw [wrap_small _ (by omega) (by omega)]; omega])
  case rest =>
    obtain ⟨hR, hT, hZ, hB⟩ := hcut
    obtain ⟨q1, q2, q3⟩ := hR
    have hcW : wc.cell? ⟨6, 0, none⟩ = some (errVal aT) := hT.cell hc (Ne.symm hne)
    have hTok : Hid (nextTok s.data.toList p = ⟨(measureL (s.data.toList.drop (p + runL blank (s.data.toList.drop p)))).1, p + runL blank (s.data.toList.drop p), (s.data.toList.drop (p + runL blank (s.data.toList.drop p))).take (measureL (s.data.toList.drop (p + runL blank (s.data.toList.drop p)))).2⟩) := show nextTok _ _ = _ from rfl
    clear hj r3' cr r1 r2 r3 hc
    generalize hJ : p + runL blank (s.data.toList.drop p) = j at *
    have hj1 : j ≤ s.size := by omega
    clear hJ hl i1 i2
    have er : (s.extract j s.size).data.toList = s.data.toList.drop j := Lib.extract_to_end s j
    have cm := fun w hc => measure_any (s.extract j s.size) w (errVal aT) (by simp [maxLen]; omega) hc
    rw [er] at cm
    clear er
    have i1 : (0 : Int) ≤ (j : Int) := by omega
    have i2 : (j : Int) ≤ (s.size : Int) := by omega
    have hmp := measureL_pos (s.data.toList.drop j)
    rw [List.length_drop, len_data] at hmp
    have c0 : wc.cell? ⟨w.heap.size, 0, none⟩ = some (.int .i64 0) := by unfold World.cell?; rw [hB]; rfl
    have c1 : wc.cell? ⟨w.heap.size, 1, none⟩ = some (.int .i64 0) := by unfold World.cell?; rw [hB]; rfl
    have c2 : wc.cell? ⟨w.heap.size, 2, none⟩ = some (.string ⟨#[]⟩) := by unfold World.cell?; rw [hB]; rfl
    have f0 : wc.frozen? ⟨w.heap.size, 0, none⟩ = false := by unfold World.frozen?; rw [hB]; rfl
    have f1 : wc.frozen? ⟨w.heap.size, 1, none⟩ = false := by unfold World.frozen?; rw [hB]; rfl
    have f2 : wc.frozen? ⟨w.heap.size, 2, none⟩ = false := by unfold World.frozen?; rw [hB]; rfl
    clear hB
    generalize hr0 : w.heap.size = r0 at *
    generalize hm0 : measureL (s.data.toList.drop j) = m at *
    obtain ⟨k, n⟩ := m
    by_cases hbad : k = .bad
    · subst hbad
      clear hmp
      go_wp2
      go_quiet (fail)
      go_wp2_with (go_at_call 95; refine (cm _ ?_).mono ?_; (exact hcW); rintro e w' ⟨⟨x, y, rfl⟩, n', rfl⟩)
      have hbr : b ≠ r0 := by omega
      go_region_held3 (fun w' => w'.cell? ⟨b, 1, none⟩ = some (.int .i64 ((j : Nat) : Int))) (go_keep) (fail)
      all_goals go_wp2
      refine bodyPost_ret (v := .tuple #[.agg #[.int .i64 0, .int .i64 0, .string ⟨#[]⟩], .iface 116 (.agg #[.int .i64 ((j : Nat) : Int), errVal aT])]) (by simp [results, Tryz.results71, go_sem, c0, c1, c2]) rfl ⟨?_, ?_⟩
      · exact (((hT.drewN _).setCell (p := ⟨r0, 0, none⟩) (Or.inr (Nat.le_of_eq hr0)) _).setCell (p := ⟨r0, 1, none⟩) (Or.inr (Nat.le_of_eq hr0)) _).setCell (p := ⟨r0, 2, none⟩) (Or.inr (Nat.le_of_eq hr0)) _
      · rw [hTok.out]
        exact rfl
    · have hn : n ≤ s.size - j := by
        by_cases hk0 : k = .eof
        · have := (measureL_eof (s.data.toList.drop j) (by rw [hm0]; exact hk0)).2
          rw [hm0] at this
          have h0 : n = 0 := this
          omega
        · exact (hmp hk0 hbad).2
      have cm' : ∀ w : World, w.cell? ⟨6, 0, none⟩ = some (errVal aT) → Calls Tryz.prog 95 #[.string (s.extract j s.size)] w fun e w' => e = .returned (.tuple #[.int .i64 (kcode k), .int .i64 ((n : Nat) : Int), .nilIface]) ∧ ∃ n, w' = w.drewN n := fun w hw =>
        (cm w hw).mono fun e w' ⟨h1, h2⟩ => ⟨by cases k <;> first | exact h1 | exact absurd rfl hbad, h2⟩
      clear hmp cm
      have i3 : (0 : Int) ≤ (n : Int) := by omega
      have i4 : (n : Int) ≤ ((s.size - j : Nat) : Int) := by omega
      go_wp2
      go_quiet (fail)
      go_wp2_with (go_at_call 95; refine (cm' _ ?_).mono ?_; (exact hcW); rintro e w' ⟨rfl, n', rfl⟩)
      have hz : ((s.extract j s.size).extract 0 n).size = n := by simp; omega
      have ed : ((s.extract j s.size).extract 0 n).data.toList = (s.data.toList.drop j).take n := by rw [Lib.extract_data, Lib.extract_to_end]; rfl
      have cb : ∀ w : World, Calls Tryz.prog 96 #[.int .i64 (kcode k), .string ((s.extract j s.size).extract 0 n)] w fun e w' => (∃ bd : ByteArray, e = .returned (.string bd) ∧ bd.data.toList = bodyL k ((s.data.toList.drop j).take n) ∧ bd.size ≤ 2000) ∧ w' = w := fun w => by
        by_cases hk : k = .txt
        · have h2 := measureL_txt (s.data.toList.drop j) (by rw [hm0]; exact hk)
          rw [hm0] at h2
          subst hk
          refine (body_txt _ w (by rw [hz]; unfold maxLen; omega) (by rw [hz]; exact h2)).mono ?_
          rintro e w' ⟨⟨bd, rfl, h3, h4⟩, rfl⟩
          exact ⟨⟨bd, rfl, by rw [h3, ed], by omega⟩, rfl⟩
        · refine (body_other k hk _ w).mono ?_
          rintro e w' ⟨⟨bd, rfl, h3, h4⟩, rfl⟩
          exact ⟨⟨bd, rfl, by rw [h3, ed], by omega⟩, rfl⟩
      have hbr : b ≠ r0 := by omega
      clear hz ed
      go_region_held3 (fun w' => w'.cell? ⟨b, 1, none⟩ = some (.int .i64 ((j : Nat) : Int))) (go_keep) ((go_at_call 96; refine (cb _).mono ?_; rintro e w' ⟨⟨bd, rfl, hb1, hb2⟩, rfl⟩))
      all_goals go_wp2
      all_goals
        refine bodyPost_ret (v := .tuple #[.agg #[.int .i64 (kcode k), .int .i64 ((j : Nat) : Int), .string bd], .nilIface]) (by simp [results, Tryz.results71, go_sem, c0, c1, c2, hZ]) rfl ⟨?_, ?_⟩
      all_goals first
        | exact ((((((hT.drewN _).setCell (p := ⟨b, 1, none⟩) (Or.inl rfl) _).setCell (p := ⟨r0, 0, none⟩) (Or.inr (Nat.le_of_eq hr0)) _).setCell (p := ⟨r0, 1, none⟩) (Or.inr (Nat.le_of_eq hr0)) _).setCell (p := ⟨r0, 2, none⟩) (Or.inr (Nat.le_of_eq hr0)) _).alloc _)
        | (rw [hTok.out]
           have hlen : ((s.data.toList.drop j).take n).length = n := by rw [List.length_take, List.length_drop, len_data]; omega
           have key : RdAt _ b s (j + n) := next_end (wc.drewN (nq + n' + 1)) b r0 s (.int .i64 ((j : Int) + (n : Int))) (j + n) (.int .i64 (kcode k)) (.int .i64 ((j : Nat) : Int)) (.string bd) (.cells #[.int .i64 (kcode k), .int .i64 ((j : Nat) : Int), .string bd] 173) q1 q2 q3 hbr (by go_num)
           cases k <;> first | exact absurd rfl hbad | exact ⟨bd, hb1, hb2, rfl, by rw [hlen]; exact key⟩)
end Go.Proofs.YtifhgjpglicjbaaGreatDoor
