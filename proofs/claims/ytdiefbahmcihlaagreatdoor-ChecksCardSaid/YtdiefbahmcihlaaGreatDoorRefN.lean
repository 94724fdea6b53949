/-
  The reference: looks and has.
-/
import Derived.Test.YtdiefbahmcihlaaGreatDoorRefM
namespace Go.Proofs.YtdiefbahmcihlaaGreatDoor
open Go.RowKit
attribute [local go_sem ↓] Go.wp_at_zero Go.wp_at_succ

theorem RowAt.take1 {w : World} {D : Nat → Prop} {e : TypeId} {aad : Option Addr} {n cp : Nat} {xs : List Value} (h : RowAt w D e 1 (.slice aad n cp) n xs) (hn : 0 < n) (q : Nat) (hq : q ≤ n) : RowAt w D e 1 (.slice aad q cp) q (xs.take q) := by
  obtain ⟨h1, h2⟩ := h
  refine ⟨by simp; omega, ?_⟩
  rcases h2 with ⟨_, h0⟩ | ⟨g, c, cur, hv, hg, hh, hc, hm, hz, ht⟩
  · omega
  · cases hv
    refine Or.inr ⟨g, cp, cur, rfl, hg, hh, by omega, hm, hz, ?_⟩
    rw [← ht, List.take_take]
    congr 1
    omega
theorem dup_drop (qs : List ByteArray) (ls : List Nat) (_hl : qs.length = ls.length) (q : Nat) (hq : q < qs.length) (hq2 : q < ls.length) : dupP (namesR (qs.take q)) (plainN ((qs.drop q).zip (ls.drop q))) = if (namesR (qs.take q)).contains qs[q].data.toList then some ls[q] else dupP (namesR (qs.take (q + 1))) (plainN ((qs.drop (q + 1)).zip (ls.drop (q + 1)))) := by
  rw [List.drop_eq_getElem_cons hq, List.drop_eq_getElem_cons hq2, List.zip_cons_cons]
  have : namesR (qs.take (q + 1)) = namesR (qs.take q) ++ [qs[q].data.toList] := by
    rw [namesR, List.take_succ_eq_append_getElem hq, List.map_append]; rfl
  rw [this]
  simp [plainN, dupP]
theorem nm_none {r : Ending} (h : ((none : Option (Nat × Nat)) = none ∧ r = .returned (.tuple #[.int .i64 0, .int .i64 0])) ∨ ∃ c p : Nat, (none : Option (Nat × Nat)) = some (c, p) ∧ c ≠ 0 ∧ r = .returned (.tuple #[.int .i64 (c : Int), .int .i64 (p : Int)])) : r = .returned (.tuple #[.int .i64 0, .int .i64 0]) := by
  rcases h with ⟨_, h⟩ | ⟨c, p, h, _⟩
  · exact h
  · cases h
theorem nm_some {r : Ending} {c p : Nat} (h : (some (c, p) = (none : Option (Nat × Nat)) ∧ r = .returned (.tuple #[.int .i64 0, .int .i64 0])) ∨ ∃ c2 p2 : Nat, some (c, p) = some (c2, p2) ∧ c2 ≠ 0 ∧ r = .returned (.tuple #[.int .i64 (c2 : Int), .int .i64 (p2 : Int)])) : c ≠ 0 ∧ r = .returned (.tuple #[.int .i64 (c : Int), .int .i64 (p : Int)]) := by
  rcases h with ⟨h, _⟩ | ⟨c2, p2, h, h2, h3⟩
  · cases h
  · cases h; exact ⟨h2, h3⟩
section
variable {w : World} {rb : Nat} {fv pv : Value} {fs : List FunV} {ps : List PartV} {fns : List Fn}
set_option maxRecDepth 8000 in
set_option maxHeartbeats 4000000 in
theorem looks_twice (h : PM w rb fv pv fs ps fns) (i : Nat) (hi : i < fs.length) (aad lad : Option Addr) (an acp ln lcp : Nat) (hpv : (fs[i]'hi).pv = .slice aad an acp) (hlv : (fs[i]'hi).lv = .slice lad ln lcp) (j : Nat) (hfound : ∀ r, FindIs fs (fs[i]'hi).name.toList i r → r = (j : Int)) :
    Calls Tryz.prog 62 #[.pointer (some ⟨rb, 5, none⟩), .int .i64 ((i : Nat) : Int)] w (nmPost (some (5, (fs[i]'hi).at_)) w) := by
  have c5 := h.c5
  have hf := h.hf
  obtain ⟨fg, fc, hfv, hd1, hd2, b0, b1, b2, b3, b4⟩ := h.fun i hi
  unfold maxLen at hd2
  have hne1 := World.new_ne w _ b0
  have hne2 := World.new_ne w _ c5
  have cfi := find_any (h.below (below1 w (funO (fs[i]'hi).name (fs[i]'hi).at_ (fs[i]'hi).pv (fs[i]'hi).lv (fs[i]'hi).body))) (fs[i]'hi).name i (by omega)
  rw [hpv, hlv] at cfi
  rw [hpv] at b2
  rw [hlv] at b3
  clear hpv hlv
  generalize (fs[i]'hi).name = nm at *
  generalize (fs[i]'hi).at_ = pp at *
  generalize (fs[i]'hi).body = bd at *
  subst hfv
  go_enter Tryz.func62, Tryz.ntmps62
  go_wp2_with (go_at_call 103; refine cfi.mono ?_; rintro r w2 ⟨⟨fr, rfl, hfr⟩, rfl⟩; obtain rfl := hfound _ hfr; clear hfr)
  go_quiet (fail)
  go_wp2
  go_ret2
  exact ⟨drawnB (below1 w _), Or.inr ⟨5, pp, rfl, by decide, rfl⟩⟩
set_option maxRecDepth 8000 in
set_option maxHeartbeats 4000000 in
theorem looks_once (h : PM w rb fv pv fs ps fns) (i : Nat) (hi : i < fs.length) (aad lad : Option Addr) (acp lcp : Nat) (qs : List ByteArray) (ls : List Nat) (hql0 : qs.length = ls.length) (hpv : (fs[i]'hi).pv = .slice aad qs.length acp) (hlv : (fs[i]'hi).lv = .slice lad ls.length lcp) (hnone : ∀ r, FindIs fs (fs[i]'hi).name.toList i r → r = -1)
    (rowP : RowAt w (fun _ => True) 9 1 (.slice aad qs.length acp) qs.length (strsV qs)) (rowL : RowAt w (fun _ => True) 3 1 (.slice lad ls.length lcp) ls.length (kidsV ls)) (hqn : qs.length ≤ 3000) (O : Option (Nat × Nat))
    (cnm : ∀ X, Below w.heap.size w X → Calls Tryz.prog 105 #[.pointer (some ⟨rb, 5, none⟩), .int .i64 (((fs[i]'hi).body : Nat) : Int), .slice aad qs.length acp, .int .i64 ((i : Nat) : Int)] X (nmPost O X)) :
    Calls Tryz.prog 62 #[.pointer (some ⟨rb, 5, none⟩), .int .i64 ((i : Nat) : Int)] w (nmPost (match dupP [] (plainN (qs.zip ls)) with | some p => some (5, p) | none => O) w) := by
  have c5 := h.c5
  have hf := h.hf
  obtain ⟨fg, fc, hfv, hd1, hd2, b0, b1, b2, b3, b4⟩ := h.fun i hi
  unfold maxLen at hd2
  have hne1 := World.new_ne w _ b0
  have hne2 := World.new_ne w _ c5
  have cfi := find_any (h.below (below1 w (funO (fs[i]'hi).name (fs[i]'hi).at_ (fs[i]'hi).pv (fs[i]'hi).lv (fs[i]'hi).body))) (fs[i]'hi).name i (by omega)
  rw [hpv, hlv] at cfi
  rw [hpv] at b2
  rw [hlv] at b3
  clear hpv hlv
  generalize (fs[i]'hi).name = nm at *
  generalize (fs[i]'hi).at_ = pp at *
  generalize (fs[i]'hi).body = bd at *
  subst hfv
  have hql : Aside (qs.length = ls.length) := hql0
  have hQL2 : ls.length ≤ 3000 := by omega
  clear hql0
  generalize hRES : (match dupP [] (plainN (qs.zip ls)) with | some p => some (5, p) | none => O) = RES at *
  have HRES : Aside ((match dupP [] (plainN (qs.zip ls)) with | some p => some (5, p) | none => O) = RES) := hRES
  clear hRES
  go_enter Tryz.func62, Tryz.ntmps62
  go_wp2_with (go_at_call 103; refine cfi.mono ?_; rintro r w2 ⟨⟨fr, rfl, hfr⟩, rfl⟩; obtain rfl := hnone _ hfr; clear hfr)
  go_loopg [8] qs.length (fun gh iv wr => ∃ q : Nat, gh = qs.length - q ∧ iv = .int .i64 ((q : Nat) : Int) ∧ q ≤ qs.length ∧ Below (w.alloc (funO nm pp (.slice aad qs.length acp) (.slice lad ls.length lcp) bd)).heap.size (w.alloc (funO nm pp (.slice aad qs.length acp) (.slice lad ls.length lcp) bd)) wr ∧ Aside (dupP [] (plainN (qs.zip ls)) = dupP (namesR (qs.take q)) (plainN ((qs.drop q).zip (ls.drop q)))))
  case atStart => exact ⟨0, by omega, rfl, by omega, Below.refl _ _, rfl⟩
  case round =>
    obtain ⟨q, rfl, rfl, hq, hbw, hR⟩ := hrel
    have hBw : Below w.heap.size w wr := (below1 w (funO nm pp (.slice aad qs.length acp) (.slice lad ls.length lcp) bd)).trans (hbw.mono (by simp))
    have gx : Gx wr w.heap.size nm pp (.slice aad qs.length acp) (.slice lad ls.length lcp) bd := (⟨heap_alloc_new _ _⟩ : Gx (w.alloc (funO nm pp (.slice aad qs.length acp) (.slice lad ls.length lcp) bd)) w.heap.size nm pp (.slice aad qs.length acp) (.slice lad ls.length lcp) bd).same (hbw.block _ (by simp))
    obtain ⟨o0, o1, o2, o3, o4⟩ := gx.facts
    by_cases hlt : q < qs.length
    · obtain ⟨kg, kc, hkv2, _, hk1, hk2, hkcell⟩ := rowP.cell (by omega)
      simp only [Value.slice.injEq] at hkv2
      obtain ⟨rfl, _, rfl⟩ := hkv2
      have hlt2 : q < ls.length := by have := hql.out; omega
      obtain ⟨lg, lc, hlv2, _, hl1, hl2, hlcell⟩ := rowL.cell (by omega)
      simp only [Value.slice.injEq] at hlv2
      obtain ⟨rfl, _, rfl⟩ := hlv2
      unfold maxLen at hk2 hl2
      have kq : wr.cell? ⟨kg, q, none⟩ = some (.string qs[q]) := Below.cellv hBw (by rw [hkcell q (by omega)]; simp [strsV, hlt])
      have lq : wr.cell? ⟨lg, q, none⟩ = some (.int .i64 ((ls[q] : Nat) : Int)) := Below.cellv hBw (by rw [hlcell q (by omega)]; simp [kidsV, hlt2])
      have cin := fun X (hX : RowAt X (fun _ => True) 9 1 (.slice (some ⟨kg, 0, none⟩) q acp) (qs.take q).length (strsV (qs.take q))) => in_any (.slice (some ⟨kg, 0, none⟩) q acp) (qs.take q) qs[q] X (fun _ => True) hX (by simp; omega)
      have rX : RowAt wr (fun _ => True) 9 1 (.slice (some ⟨kg, 0, none⟩) q acp) (qs.take q).length (strsV (qs.take q)) := by
        have := (row_below rowP hBw).take1 (by omega) q (by omega)
        rw [show (qs.take q).length = q by simp; omega, show strsV (qs.take q) = (strsV qs).take q by simp [strsV, List.map_take]]
        exact this
      have HD : Aside (dupP [] (plainN (qs.zip ls)) = if (namesR (qs.take q)).contains qs[q].data.toList then some ls[q] else dupP (namesR (qs.take (q + 1))) (plainN ((qs.drop (q + 1)).zip (ls.drop (q + 1))))) := by
        show _ = _
        rw [hR.out, dup_drop qs ls hql.out q hlt hlt2]
      clear hR hkcell hlcell rowP rowL
      have hii : ((q : Nat) : Int) ≤ ((qs.length : Nat) : Int) := by omega
      cases hin : hasS (qs.take q) qs[q] with
      | false =>
        rw [hin] at cin
        rw [hasS_eq] at hin
        have HD2 : Aside (dupP [] (plainN (qs.zip ls)) = dupP (namesR (qs.take (q + 1))) (plainN ((qs.drop (q + 1)).zip (ls.drop (q + 1))))) := by show _ = _; rw [HD.out, hin]; rfl
        generalize qs[q] = sq at *
        generalize ls[q] = lq2 at *
        go_wp2
        go_region_with ((go_at_call 104; refine (cin wr.drew rX).mono ?_; rintro r w3 ⟨rfl, rfl⟩))
        all_goals go_wp2
        all_goals go_roundg (qs.length - (q + 1))
        all_goals first
          | omega
          | exact ⟨q + 1, rfl, by go_num, by omega, by first | exact hbw.drew | exact drawnB hbw | exact hbw, HD2.out⟩
      | true =>
        rw [hin] at cin
        rw [hasS_eq] at hin
        have HD2 : Aside (RES = some (5, ls[q])) := by show _ = _; rw [← HRES.out, HD.out, hin]; rfl
        generalize qs[q] = sq at *
        generalize ls[q] = lq2 at *
        go_wp2
        go_region_with ((go_at_call 104; refine (cin wr.drew rX).mono ?_; rintro r w3 ⟨rfl, rfl⟩))
        all_goals go_wp2
        all_goals go_region
        all_goals go_wp2
        all_goals go_ret2
        all_goals refine ⟨?_, Or.inr ⟨5, lq2, HD2.out, by decide, rfl⟩⟩
        all_goals first
          | exact drawnB hBw
          | exact (hBw.drew).drew
          | exact drawnB hBw.drew
    · have HO : Aside (RES = O) := by
        show _ = _
        rw [← HRES.out, hR.out, List.drop_of_length_le (by omega)]
        rfl
      have cX := cnm wr hBw
      clear cnm
      rcases O with _ | ⟨c, p⟩
      · go_wp2_with (go_at_call 105; refine cX.mono ?_; rintro r w3 ⟨hb3, hr3⟩; obtain rfl := nm_none hr3)
        go_ret2
        exact ⟨hBw.trans (hb3.mono hBw.size), Or.inl ⟨HO.out, rfl⟩⟩
      · go_wp2_with (go_at_call 105; refine cX.mono ?_; rintro r w3 ⟨hb3, hr3⟩; obtain ⟨hc0, rfl⟩ := nm_some hr3)
        go_ret2
        exact ⟨hBw.trans (hb3.mono hBw.size), Or.inr ⟨c, p, HO.out, hc0, rfl⟩⟩
end
end Go.Proofs.YtdiefbahmcihlaaGreatDoor
