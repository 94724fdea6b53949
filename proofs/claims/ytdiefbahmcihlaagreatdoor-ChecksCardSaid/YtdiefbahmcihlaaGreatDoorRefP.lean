/-
  The reference: Read: what is wrong with a text.
-/
import Derived.Test.YtdiefbahmcihlaaGreatDoorRefP0
import Derived.Deep.QuietTactic
namespace Go.Proofs.YtdiefbahmcihlaaGreatDoor
open Go.RowKit
attribute [local go_sem ↓] Go.wp_at_zero Go.wp_at_succ
attribute [local go_sem] field0

def ansP (o : Option (Nat × Nat)) : Nat × Nat := match o with | none => (0, 0) | some x => x
def rdPost (o : Option (Nat × Nat)) (w : World) (e : Ending) (w' : World) : Prop :=
  (∃ v : Option Addr, e = .returned (.tuple #[.pointer v, .int .i64 (((ansP o).1 : Nat) : Int), .int .i64 (((ansP o).2 : Nat) : Int)])) ∧ Below w.heap.size w w'
/-- The reader, new. -/
theorem Rp.fresh {w w1 : World} {l : List (Tok × ByteArray)} {v : Value} (hb1 : Below w.heap.size w w1) (hrow : RowAt w1 (w.heap.size ≤ ·) 142 3 v l.length (tokCells l)) (hne : 0 < l.length) (hl : l.length ≤ 3000) :
    ∃ tb cap, v = .slice (some ⟨tb, 0, none⟩) l.length cap ∧ w.heap.size ≤ tb ∧ Rp (w1.alloc (.cells #[v, .int .i64 0, .int .i64 0, .int .i64 0, .int .i64 0, .slice none 0 0, .slice none 0 0] 140)) w.heap.size w1.heap.size tb cap l (.slice none 0 0) (.slice none 0 0) 0 0 0 0 [] := by
  rcases hrow.2 with ⟨_, h0⟩ | ⟨g, cp, cur, rfl, hg, hh, hc, hm, hz, ht⟩
  · omega
  · have hlt := block_lt hh
    refine ⟨g, cp, rfl, hg, ⟨heap_alloc_new _ _, ⟨cur, ?_, ht⟩, hne, hc, hm, hl, by decide, by omega⟩, World.ownsRow_nil _ _ _ _, (fun e => by cases e), (fun e => by cases e), ?_⟩
    · rw [(below1 w1 _).block g hlt]; exact hh
    · have := hb1.size; simp; omega
theorem PM.of {wr : World} {base rb tb cap : Nat} {l : List (Tok × ByteArray)} {fv pv : Value} {k d e a : Nat} {fs : List FunV} {ps : List PartV} {fns : List Fn} {D : Nat → Prop} (rp : Rp wr base rb tb cap l fv pv k d e a ps) (own : wr.ownsRow base 215 5 fv fs.length (funCells fs)) (hrep : FunsRep wr D ps fs fns) (h1 : fs.length ≤ 3000) (h2 : ps.length ≤ 3000) : PM wr rb fv pv fs ps fns :=
  ⟨rp.z.cells.2.2.2.2.2.1, rp.z.cells.2.2.2.2.2.2, (RowAt.of_owns own).weaken fun _ _ => trivial, (RowAt.of_owns rp.own).weaken fun _ _ => trivial, hrep.map (fun _ _ h => h) (fun _ _ _ _ h => h.weaken fun _ _ => trivial), h1, h2⟩
set_option maxHeartbeats 1000000 in
theorem rread_long (s : ByteArray) (w : World) (ts : List Tok) (hs : s.size ≤ maxLen) (hl : 2000 < s.size) : Calls Tryz.prog 32 #[.string s] w (rdPost (answer s.size ts) w) := by
  unfold maxLen at hs
  have e : answer s.size ts = some (1, 0) := by simp [answer, hl]
  rw [e]
  go_enter Tryz.func32, Tryz.ntmps32
  go_wp2
  go_ret3
  exact ⟨⟨none, rfl⟩, Below.refl _ _⟩
set_option maxRecDepth 8000 in
set_option maxHeartbeats 8000000 in
theorem rread_short (s : ByteArray) (w : World) {ts : List Tok} (hs : s.size ≤ 2000) (hts : IsToks s.data.toList 0 ts) : Calls Tryz.prog 32 #[.string s] w (rdPost (answer s.size ts) w) := by
  have ct := tokens_any s w hs hts
  have hlen := hts.len (Nat.zero_le _)
  rw [len_d] at hlen
  obtain ⟨t0, tr, hts0⟩ := hts.ne
  have HTS : Aside (IsToks s.data.toList 0 ts) := hts
  have HNE : Aside (0 < ts.length) := by show 0 < _; rw [hts0]; simp
  have e : answer s.size ts = chk s.size (pProg (ts.length + 1) ts) := by simp [answer]; omega
  rw [e]
  clear e hts hts0
  generalize hRES : pProg (ts.length + 1) ts = RES at *
  have HRES : Aside (pProg (ts.length + 1) ts = RES) := hRES
  clear hRES
  go_enter Tryz.func32, Tryz.ntmps32
  go_wp2_with (go_at_call 59; go_loud (refine ct.mono ?_; rintro r w1 ⟨⟨v, l, rfl, hl1, htx, hrow⟩, hb1⟩; have hll : Aside (l.length = ts.length) := (by show _ = _; rw [← hl1]; simp); obtain ⟨tb, cap, rfl, htb, rp0⟩ := Rp.fresh hb1 hrow (by have := HNE.out; have := hll.out; omega) (by have := hll.out; omega)))
  have hwf : TokWF l := tokWF_of hs (by rw [hl1]; exact HTS.out) htx
  have hta : toksAt l 0 = ts := by simp [toksAt, hl1]
  have sz1 := hb1.size
  have hB2 : Below w.heap.size w (w1.alloc (.cells #[.slice (some ⟨tb, 0, none⟩) l.length cap, .int .i64 0, .int .i64 0, .int .i64 0, .int .i64 0, .slice none 0 0, .slice none 0 0] 140)) := hb1.alloc sz1 _
  have R0 : Aside (RLoop w.heap.size w1.heap.size tb cap l w RES (l.length + 1) (w1.alloc (.cells #[.slice (some ⟨tb, 0, none⟩) l.length cap, .int .i64 0, .int .i64 0, .int .i64 0, .int .i64 0, .slice none 0 0, .slice none 0 0] 140))) :=
    ⟨0, 0, 0, 0, none, 0, none, 0, [], [], rp0, World.ownsRow_nil _ _ _ _, (fun g hg => by cases hg), hB2, Or.inr ⟨rfl, rfl, rfl, rfl, by have := hll.out; simp; omega, by have := hll.out; simp; omega, [], ts.length + 1, rfl, by have := hll.out; rw [toksAt_len]; omega, by rw [hta, HRES.out, raddF_nil], fun fn hfn => by cases hfn⟩⟩
  generalize hrbe : w1.heap.size = rb at *
  generalize (w1.alloc (.cells #[.slice (some ⟨tb, 0, none⟩) l.length cap, .int .i64 0, .int .i64 0, .int .i64 0, .int .i64 0, .slice none 0 0, .slice none 0 0] 140)) = W at *
  clear rp0 hB2 hta hrow hl1 ct
  go_loopg [] (l.length + 1) (fun gh wr => RLoop w.heap.size rb tb cap l w RES gh wr)
  case atStart => exact R0.out
  case round =>
    obtain ⟨k, d, e, a, fad, fcp, vad, vcp, fs, ps, rp, own, hfd, bw, hst⟩ := hrel
    have hk := rp.z.hk
    obtain ⟨c0, c1, c2, c3, c4, c5, c6⟩ := rp.z.cells
    rcases hst.out with ⟨he, hgh, hR⟩ | ⟨he, hd, ha, hgh, hps, hfs, fns, f, hrep, hf, hR, hsm⟩
    · have HA : Aside (chk s.size RES = some (e, a)) := by
        show _ = _
        have hR2 := HRES.out.trans hR
        rw [hR, chk, codeT_of (pProg_err _ _ _ _ hR2) he]
      clear hR hst
      go_wp2
      go_quiet (fail)
      go_wp2
      go_ret3
      rw [HA.out]
      exact ⟨⟨none, rfl⟩, drawnB bw⟩
    · subst he hd ha
      have hl3 := rp.z.hl
      by_cases heof : (l[k]'hk).1.k = .eof
      · have hkc : tcode (l[k]'hk).1.k = 0 := by rw [heof]; rfl
        have hcv : rtokV (l[k]'hk) = .agg #[.int .u8 0, .string (l[k]'hk).2, .int .i64 (((l[k]'hk).1.at_ : Nat) : Int)] := by rw [← hkc]
        have cn := now_any rp.z
        rw [hcv] at cn
        have HOK : Aside (∃ rest, RES = .ok fns rest) := by
          obtain ⟨f, rfl⟩ : ∃ f', f = f' + 1 := ⟨f - 1, by rw [toksAt_len] at hf; omega⟩
          rw [toksAt_cons hk, pProg, if_pos heof, raddF, List.append_nil] at hR
          exact ⟨_, hR⟩
        have pm := PM.of rp own hrep (by omega) (by omega)
        have hfl : fs.length = fns.length := pm.rep.length
        have HFL : Aside (fs.length = fns.length) := hfl
        have HSM : Aside (∀ fn ∈ fns, Small fn) := hsm
        have hfs3 : fs.length ≤ 3000 := by omega
        clear hfl hR hst hrep own hcv hsm
        go_wp2_with (go_at_call 60; go_loud (refine cn.mono ?_; rintro r w8 ⟨rfl, hb8⟩; have pm8 := pm.below hb8; have z8 := rp.z.below hb8; obtain ⟨x0, x1, x2, x3, x4, x5, x6⟩ := z8.cells; have bw8 := bw.trans (hb8.mono bw.size)))
        go_loopg [7] fs.length (fun gh iv wr2 => ∃ q : Nat, gh = fs.length - q ∧ iv = .int .i64 ((q : Nat) : Int) ∧ q ≤ fs.length ∧ Below w8.heap.size w8 wr2 ∧ Aside (nmAll [] fns = nmAll ((fns.take q).map sigOf) (fns.drop q)))
        case atStart => exact ⟨0, by omega, rfl, by omega, Below.refl _ _, rfl⟩
        case round =>
          obtain ⟨q, rfl, rfl, hq, hb2, hNM⟩ := hrel
          have pm2 := pm8.below hb2
          have y5 := pm2.c5
          have bw2 := bw8.trans (hb2.mono bw8.size)
          by_cases hlt : q < fs.length
          · have hq2 : q < fns.length := by have := HFL.out; omega
            have hsq := HSM.out _ (List.getElem_mem hq2)
            have cl := looks_any pm2 q hq2 hsq.1 hsq.2.1 hsq.2.2
            have HNM : nmAll [] fns = (match nmFn ((fns.take q).map sigOf) (fns[q]'hq2) with | some e => some e | none => nmAll ((fns.take (q + 1)).map sigOf) (fns.drop (q + 1))) := by
              rw [hNM.out, List.drop_eq_getElem_cons hq2, nmAll, List.take_succ_eq_append_getElem hq2, List.map_append]
              cases nmFn ((fns.take q).map sigOf) (fns[q]'hq2) <;> rfl
            cases hO : nmFn ((fns.take q).map sigOf) (fns[q]'hq2) with
            | none =>
              rw [hO] at cl HNM
              have HN2 : Aside (nmAll [] fns = nmAll ((fns.take (q + 1)).map sigOf) (fns.drop (q + 1))) := HNM
              clear HNM hNM hO
              go_wp2_with (go_at_call 62; go_loud (refine cl.mono ?_; rintro r w3 ⟨hb3, hr3⟩; obtain rfl := nm_none hr3))
              go_roundg (fs.length - (q + 1))
              case measure => omega
              case rel => exact ⟨q + 1, rfl, by go_num, by omega, hb2.trans (hb3.mono hb2.size), HN2.out⟩
            | some x =>
              obtain ⟨c, p⟩ := x
              rw [hO] at cl HNM
              have HA : Aside (chk s.size RES = some (c, p)) := by
                obtain ⟨rest, hok⟩ := HOK.out
                show _ = _
                have hcn := nmFn_code _ _ _ _ hO
                rw [hok, chk, HNM]
                simp only [hcn]
              clear HNM hNM hO
              go_wp2_with (go_at_call 62; go_loud (refine cl.mono ?_; rintro r w3 ⟨hb3, hr3⟩; obtain ⟨hc0, rfl⟩ := nm_some hr3))
              go_ret3
              rw [HA.out]
              exact ⟨⟨none, rfl⟩, bw2.trans (hb3.mono bw2.size)⟩
          · have HN : nmAll [] fns = none := by
              rw [hNM.out, List.drop_of_length_le (by have := HFL.out; omega), nmAll]
            have HC : chk s.size RES = if (hasL [105, 110, 105, 116] 0 fns && hasL [117, 112, 100, 97, 116, 101] 2 fns && hasL [118, 105, 101, 119] 1 fns) then none else some (7, s.size) := by
              obtain ⟨rest, hok⟩ := HOK.out
              rw [hok, chk, HN]
              simp only [mainP, has_first _ _ HN]
            have H1 : Calls Tryz.prog 63 #[.pointer (some ⟨rb, 5, none⟩), .string ⟨#[105, 110, 105, 116]⟩, .int .i64 0] wr fun e w' => e = .returned (.bool (hasL [105, 110, 105, 116] 0 fns)) ∧ w' = wr := rhas_any pm2 ⟨#[105, 110, 105, 116]⟩ 0
            have H2 : Calls Tryz.prog 63 #[.pointer (some ⟨rb, 5, none⟩), .string ⟨#[117, 112, 100, 97, 116, 101]⟩, .int .i64 2] wr fun e w' => e = .returned (.bool (hasL [117, 112, 100, 97, 116, 101] 2 fns)) ∧ w' = wr := rhas_any pm2 ⟨#[117, 112, 100, 97, 116, 101]⟩ 2
            have H3 : Calls Tryz.prog 63 #[.pointer (some ⟨rb, 5, none⟩), .string ⟨#[118, 105, 101, 119]⟩, .int .i64 1] wr fun e w' => e = .returned (.bool (hasL [118, 105, 101, 119] 1 fns)) ∧ w' = wr := rhas_any pm2 ⟨#[118, 105, 101, 119]⟩ 1
            clear hNM HN
            generalize hasL [105, 110, 105, 116] 0 fns = b1 at *
            generalize hasL [117, 112, 100, 97, 116, 101] 2 fns = b2 at *
            generalize hasL [118, 105, 101, 119] 1 fns = b3 at *
            have HCA : Aside (chk s.size RES = if (b1 && b2 && b3) then none else some (7, s.size)) := HC
            clear HC
            cases b1 <;> cases b2 <;> cases b3
            all_goals go_wp2_with (first
              | (go_at_call 63; have m3 := m2; refine H3.mono ?_; rintro r w3 ⟨rfl, rfl⟩; clear m2)
              | (go_at_call 63; have m2 := m1; refine H2.mono ?_; rintro r w3 ⟨rfl, rfl⟩; clear m1)
              | (go_at_call 63; have m1 := True.intro; refine H1.mono ?_; rintro r w3 ⟨rfl, rfl⟩))
            all_goals go_ret3
            all_goals rw [HCA.out]
            all_goals first
              | exact ⟨⟨none, rfl⟩, bw2⟩
              | exact ⟨⟨_, rfl⟩, bw2⟩
      · have hkc : ((tcode (l[k]'hk).1.k) != 0) = true := bne_yes fun e => heof ((tcode_eof _).1 e)
        have cn := now_any rp.z
        have hcv : rtokV (l[k]'hk) = .agg #[.int .u8 (tcode (l[k]'hk).1.k), .string (l[k]'hk).2, .int .i64 (((l[k]'hk).1.at_ : Nat) : Int)] := rfl
        rw [hcv] at cn
        obtain ⟨f, rfl⟩ : ∃ f', f = f' + 1 := ⟨f - 1, by rw [toksAt_len] at hf; omega⟩
        have NXT : Aside (∀ (w8 w2 : World) (r : Ending), Below wr.heap.size wr w8 → gPost (f0 (f + 1) (toksAt l k)) w.heap.size rb tb cap l (.slice fad fs.length fcp) (.slice vad ps.length vcp) 0 k ps fs w8 r w2 → r = .returned (.tuple #[]) ∧ ∃ gh2, gh2 < l.length - k + 1 ∧ RLoop w.heap.size rb tb cap l w RES gh2 w2) := fun w8 w2 r hb8 hg =>
          RLoop.next rfl (by omega) htb hwf (rp.below hb8) (owns_keep own fun g hg => hb8.block g (own.lt g hg).2) (bw.trans (hb8.mono bw.size)) hps hfs (hrep.below hb8) hf hR hsm heof hg
        have FA : ∀ w8, Below wr.heap.size wr w8 → Calls Tryz.prog 61 #[.pointer (some ⟨rb, 0, none⟩)] w8 (gPost (f0 (f + 1) (toksAt l k)) w.heap.size rb tb cap l (.slice fad fs.length fcp) (.slice vad ps.length vcp) 0 k ps fs w8) := fun w8 hb8 =>
          fun_any (rp.below hb8) hwf (owns_keep own fun g hg => hb8.block g (own.lt g hg).2) hfd hps (by omega) (fun g => expr_all hwf g) hf
        generalize tcode (l[k]'hk).1.k = tk at *
        generalize (l[k]'hk).2 = tss at *
        generalize (l[k]'hk).1.at_ = tat at *
        clear hst hR hrep hsm hf hcv
        go_wp2_with (first
          | (go_at_call 60; go_loud (refine cn.mono ?_; rintro r w8 ⟨rfl, hb8⟩))
          | (go_at_call 61; go_loud (refine (FA w8 hb8).mono ?_; intro r w2 hg2; obtain ⟨rfl, NX⟩ := NXT.out w8 w2 r hb8 hg2; clear hg2)))
        obtain ⟨gh2, hgl, hrl⟩ := NX
        go_roundg gh2
        case measure => omega
        case rel => exact hrl
theorem rread_any (s : ByteArray) (w : World) {ts : List Tok} (hs : s.size ≤ maxLen) (hts : s.size ≤ 2000 → IsToks s.data.toList 0 ts) : Calls Tryz.prog 32 #[.string s] w (rdPost (answer s.size ts) w) := by
  by_cases h : 2000 < s.size
  · exact rread_long s w ts hs h
  · exact rread_short s w (by omega) (hts (by omega))
end Go.Proofs.YtdiefbahmcihlaaGreatDoor
