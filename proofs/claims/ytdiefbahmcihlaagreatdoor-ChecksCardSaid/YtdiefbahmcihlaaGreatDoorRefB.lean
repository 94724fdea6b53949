/-
  The reference: Tokens.
-/
import Derived.Test.YtdiefbahmcihlaaGreatDoorRefA
import Derived.Test.YtdiefbahmcihlaaGreatDoorTouch
import Derived.Deep.LoopGhost
import Derived.Deep.DeepCutAuto
import Derived.Deep.DrawnRows
namespace Go.Proofs.YtdiefbahmcihlaaGreatDoor
open Go.RowKit
attribute [local go_sem ↓] Go.wp_at_zero Go.wp_at_succ

/-- A kind of tokens as the reference writes it. -/
def tcode : K → Int
  | .eof => 0
  | .opn => 40
  | .cls => 41
  | .num => 49
  | .txt => 39
  | .word => 97
  | .bad => 120
/-- Tokens with their texts, in cells. -/
def tokCells : List (Tok × ByteArray) → List Value
  | [] => []
  | x :: r => .int .u8 (tcode x.1.k) :: .string x.2 :: .int .i64 ((x.1.at_ : Nat) : Int) :: tokCells r
theorem tokCells_snoc (l : List (Tok × ByteArray)) (x : Tok × ByteArray) : tokCells (l ++ [x]) = tokCells l ++ [.int .u8 (tcode x.1.k), .string x.2, .int .i64 ((x.1.at_ : Nat) : Int)] := by
  induction l with
  | nil => rfl
  | cons y l ih => simp [tokCells, ih]
/-- The texts are the tokens' own. -/
def TokTexts (l : List (Tok × ByteArray)) : Prop := ∀ x ∈ l, x.2.data.toList = x.1.body
theorem TokTexts.snoc {l : List (Tok × ByteArray)} (h : TokTexts l) (x : Tok × ByteArray) (hx : x.2.data.toList = x.1.body) : TokTexts (l ++ [x]) := by
  intro y hy
  rcases List.mem_append.1 hy with hy | hy
  · exact h y hy
  · simp at hy; subst hy; exact hx

theorem cell_three_new (w : World) (x y z : Value) (t : TypeId) : ∀ j v, [x, y, z][j]? = some v → (w.alloc (.cells #[x, y, z] t)).cell? ((⟨w.heap.size, 0, none⟩ : Addr).add j) = some v := by
  intro j v hj
  match j, hj with
  | 0, hj => simp at hj; subst hj; simp [Addr.add]
  | 1, hj => simp at hj; subst hj; simp [Addr.add]
  | 2, hj => simp at hj; subst hj; simp [Addr.add]
  | j + 3, hj => simp at hj
/-- At the end there is the end. -/
theorem toks_end {s : List UInt8} {ts : List Tok} (h : IsToks s s.length ts) : ts = [⟨.eof, s.length, []⟩] := by
  have e : nextTok s s.length = ⟨.eof, s.length, []⟩ := by
    rw [nextTok_here s s.length (fun hp => absurd hp (by omega))]
    simp [measureL]
  cases h with
  | last h => rw [e]
  | more h1 h2 h3 => rw [e] at h1; exact absurd rfl h1
theorem toks_bad {s : List UInt8} {p : Nat} {ts : List Tok} (h : IsToks s p ts) (hb : (nextTok s p).k = .bad) : ts = [nextTok s p] := by
  cases h with
  | last h => rfl
  | more h1 h2 h3 => exact absurd hb h2
theorem toks_more {s : List UInt8} {p : Nat} {ts : List Tok} (h : IsToks s p ts) (h1 : (nextTok s p).k ≠ .eof) (h2 : (nextTok s p).k ≠ .bad) : ∃ r, ts = nextTok s p :: r ∧ IsToks s ((nextTok s p).at_ + (nextTok s p).body.length) r := by
  cases h with
  | last h => rcases h with h | h; exact absurd h h1; exact absurd h h2
  | more _ _ h3 => exact ⟨_, rfl, h3⟩
theorem Tryz.infoToken : (Tryz.prog.info? 142).map (fun i => (i.zero, i.size, i.bytes)) = some (some (.agg #[.int .u8 0, .string ⟨#[]⟩, .int .i64 0]), 3, 32) := by kernel_rfl

/-- What Tokens leaves. -/
def tokensPost (ts : List Tok) (w : World) (e : Ending) (w' : World) : Prop := (∃ v l, e = .returned v ∧ l.map (·.1) = ts ∧ TokTexts l ∧ RowAt w' (w.heap.size ≤ ·) 142 3 v l.length (tokCells l)) ∧ Below w.heap.size w w'
theorem beq_no {x y : Int} (h : ¬ x = y) : (x == y) = false := by simpa using h
theorem byte_ne {c d : UInt8} (h : c ≠ d) : ((c.toNat : Int) == (d.toNat : Int)) = false := by
  have : ¬ c.toNat = d.toNat := fun g => h (UInt8.toNat_inj.1 g)
  simp; omega
theorem cell_three_new2 (w : World) (o : Obj) (x y z : Value) (t : TypeId) : ∀ j v, [x, y, z][j]? = some v → ((w.alloc o).alloc (.cells #[x, y, z] t)).cell? ((⟨w.heap.size + 1, 0, none⟩ : Addr).add j) = some v := by
  have := cell_three_new (w.alloc o) x y z t
  simpa using this
theorem ext_data (s : ByteArray) (i n : Nat) : (s.extract i (i + n)).data.toList = (s.data.toList.drop i).take n := by
  simp [ByteArray.data_extract]
/-- The loop's relation behind a token. -/
theorem tok_round {s : ByteArray} {w wr w6 : World} {i n : Nat} {l : List (Tok × ByteArray)} {ts ts2 r : List Tok} {v v' : Value} {o1 o2 : Obj} {K0 : K} {kc : Int} {iv : Value} (_hs : s.size ≤ 2000) (bw : Below w.heap.size w wr) (hown : wr.ownsRow w.heap.size 142 3 v l.length (tokCells l))
    (HC : l.map (·.1) ++ ts2 = ts) (htx : TokTexts l) (hli : l.length ≤ i) (hgrow : ((wr.alloc o1).alloc o2).grownBy w6 v.ownBlock) (hown' : w6.ownsRow w.heap.size 142 3 v' (l.length + 1) (tokCells l ++ [.int .u8 kc, .string (s.extract i (i + n)), .int .i64 ((i : Nat) : Int)])) (_hn0 : True)
    (NX : nextTok s.data.toList i = ⟨K0, i, (s.data.toList.drop i).take n⟩) (_h1 : K0 ≠ .eof) (_h2 : K0 ≠ .bad) (hkc : tcode K0 = kc) (H1 : ts2 = nextTok s.data.toList i :: r) (H2 : IsToks s.data.toList ((nextTok s.data.toList i).at_ + (nextTok s.data.toList i).body.length) r) (hpos : 0 < n) (hle : i + n ≤ s.size) (hiv : iv = .int .i64 ((i + n : Nat) : Int)) :
    ∃ (i' : Nat) (l' : List (Tok × ByteArray)) (ts2' : List Tok), s.size - (i + n) = s.size - i' ∧ iv = .int .i64 i' ∧ i' ≤ s.size ∧ l'.map (·.1) ++ ts2' = ts ∧ TokTexts l' ∧ IsToks s.data.toList i' ts2' ∧ l'.length ≤ i' ∧ w6.ownsRow w.heap.size 142 3 v' l'.length (tokCells l') ∧ Below w.heap.size w w6 := by
  have hwz := bw.size
  have hb : (nextTok s.data.toList i).body.length = n := by
    rw [NX]
    simp only [List.length_take, List.length_drop, len_d]
    omega
  refine ⟨i + n, l ++ [(nextTok s.data.toList i, s.extract i (i + n))], r, rfl, hiv, hle, ?_, htx.snoc _ ?_, ?_, ?_, ?_, Below.grown ((bw.alloc hwz _).alloc (by simp; omega) _) hgrow (by simp; omega) (fun k hk => (hown.lt k hk).1)⟩
  · rw [List.map_append, ← HC, H1]; simp
  · rw [NX]; exact ext_data s i n
  · rw [hb, NX] at H2; exact H2
  · simp; omega
  · rw [List.length_append, tokCells_snoc, NX, hkc]; exact hown'
/-- A wrong token ends it. -/
theorem tok_bad {s : ByteArray} {w wr w6 : World} {i : Nat} {l : List (Tok × ByteArray)} {ts ts2 : List Tok} {v v' : Value} {o1 o2 : Obj} (bw : Below w.heap.size w wr) (hown : wr.ownsRow w.heap.size 142 3 v l.length (tokCells l))
    (HC : l.map (·.1) ++ ts2 = ts) (htx : TokTexts l) (hgrow : ((wr.alloc o1).alloc o2).grownBy w6 v.ownBlock) (hown' : w6.ownsRow w.heap.size 142 3 v' (l.length + 1) (tokCells l ++ [.int .u8 120, .string ⟨#[]⟩, .int .i64 ((i : Nat) : Int)])) (_hn0 : True)
    (NX : nextTok s.data.toList i = ⟨.bad, i, (s.data.toList.drop i).take 0⟩) (H : ts2 = [nextTok s.data.toList i]) : tokensPost ts w (.returned v') w6 := by
  have hwz := bw.size
  refine ⟨⟨_, l ++ [(nextTok s.data.toList i, ⟨#[]⟩)], rfl, ?_, htx.snoc _ ?_, ?_⟩, Below.grown ((bw.alloc hwz _).alloc (by simp; omega) _) hgrow (by simp; omega) (fun k hk => (hown.lt k hk).1)⟩
  · rw [List.map_append, ← HC, H]; rfl
  · rw [NX]; simp
  · rw [List.length_append, tokCells_snoc, NX]
    exact RowAt.of_owns hown'
set_option maxRecDepth 8000 in
set_option maxHeartbeats 8000000 in
theorem tokens_any (s : ByteArray) (w : World) (hs : s.size ≤ 2000) {ts : List Tok} (hts : IsToks s.data.toList 0 ts) :
    Calls Tryz.prog 59 #[.string s] w (tokensPost ts w) := by
  go_enter Tryz.func59, Tryz.ntmps59
  go_wp2
  go_loopg [3, 4] s.size (fun m v iv wr => ∃ (i : Nat) (l : List (Tok × ByteArray)) (ts2 : List Tok), m = s.size - i ∧ iv = .int .i64 i ∧ i ≤ s.size ∧ l.map (·.1) ++ ts2 = ts ∧ TokTexts l ∧ IsToks s.data.toList i ts2 ∧ l.length ≤ i ∧ wr.ownsRow w.heap.size 142 3 v l.length (tokCells l) ∧ Below w.heap.size w wr)
  case atStart => exact ⟨0, [], ts, by omega, rfl, by omega, rfl, (fun x hx => by simp at hx), hts, by simp, World.ownsRow_nil _ _ _ _, Below.refl _ _⟩
  case round =>
    obtain ⟨i, l, ts2, rfl, rfl, hi, hcat, htx, hto, hli, hown, bw⟩ := hrel
    have HC : Aside (l.map (·.1) ++ ts2 = ts) := hcat
    obtain ⟨vad, vcap, rfl⟩ := owns_slice hown
    have hwz := bw.size
    clear hcat hts
    by_cases hlt : i < s.size
    · cases hb : blank s[i]
      · have hil : i < s.data.toList.length := by rw [len_d]; exact hlt
        have hbl : blank (s.data.toList[i]'hil) = false := hb
        by_cases h40 : s[i] = 40
        · have hc : (s[i].toNat : Int) = 40 := by rw [h40]; rfl
          have nx := next_is hil hbl (meas_opn hil h40)
          obtain ⟨r, hr, hr2⟩ := toks_more hto (by rw [nx]; exact (by decide : K.opn ≠ K.eof)) (by rw [nx]; exact (by decide : K.opn ≠ K.bad))
          have H : Aside (ts2 = nextTok s.data.toList i :: r ∧ IsToks s.data.toList ((nextTok s.data.toList i).at_ + (nextTok s.data.toList i).body.length) r) := ⟨hr, hr2⟩
          have NX : Aside (nextTok s.data.toList i = ⟨.opn, i, (s.data.toList.drop i).take (1)⟩) := nx
          clear hto hr hr2 nx hb hbl
          clear h40
          have l1 : ∀ w, Calls Tryz.prog 97 #[.int .u8 40] w fun e w' => e = .returned (.bool false) ∧ w' = w := Letter_any 40
          have d1 : ∀ w, Calls Tryz.prog 98 #[.int .u8 40] w fun e w' => e = .returned (.bool false) ∧ w' = w := Digit_any 40
          go_wp2_with (first
            | (go_at_call 97; refine (l1 _).mono ?_; rintro e w' ⟨rfl, rfl⟩)
            | (go_at_call 98; refine (d1 _).mono ?_; rintro e w' ⟨rfl, rfl⟩)
            | (at_builtin; go_loud (obtain ⟨i0, hi0, hz0, hz1, hz2⟩ := info_parts Tryz.infoToken; refine wpList_append_own _ rfl _ _ 133 rfl w.heap.size 142 i0 _ 3 32 Tryz.underlying133 hi0 hz0 hz1 hz2 rfl (by decide) _ _ _ rfl ((hown.alloc _).alloc _) ⟨wr.heap.size + 1, 0, none⟩ 1 1 [.int .u8 40, .string (s.extract i (i + 1)), .int .i64 ((i : Nat) : Int)] rfl rfl (cell_three_new2 wr _ _ _ _ _) (fun x hx => by simp at hx; rcases hx with h | h | h <;> (subst h; rfl)) (by unfold maxLen; omega) (by omega) (by simp; omega) ?_; intro v' w6 hown' hgrow hnil; clear hi0 hz0 hz1 hz2)))
          go_roundg (s.size - (i + 1))
          case measure => omega
          case rel => exact tok_round hs bw hown HC.out htx hli hgrow hown' (by simp) NX.out (by decide) (by decide) rfl H.out.1 H.out.2 (by omega) (by omega) (by go_num)
        by_cases h41 : s[i] = 41
        · have hc : (s[i].toNat : Int) = 41 := by rw [h41]; rfl
          have nx := next_is hil hbl (meas_cls hil h41)
          obtain ⟨r, hr, hr2⟩ := toks_more hto (by rw [nx]; exact (by decide : K.cls ≠ K.eof)) (by rw [nx]; exact (by decide : K.cls ≠ K.bad))
          have H : Aside (ts2 = nextTok s.data.toList i :: r ∧ IsToks s.data.toList ((nextTok s.data.toList i).at_ + (nextTok s.data.toList i).body.length) r) := ⟨hr, hr2⟩
          have NX : Aside (nextTok s.data.toList i = ⟨.cls, i, (s.data.toList.drop i).take (1)⟩) := nx
          clear hto hr hr2 nx hb hbl
          clear h41
          have l1 : ∀ w, Calls Tryz.prog 97 #[.int .u8 41] w fun e w' => e = .returned (.bool false) ∧ w' = w := Letter_any 41
          have d1 : ∀ w, Calls Tryz.prog 98 #[.int .u8 41] w fun e w' => e = .returned (.bool false) ∧ w' = w := Digit_any 41
          go_wp2_with (first
            | (go_at_call 97; refine (l1 _).mono ?_; rintro e w' ⟨rfl, rfl⟩)
            | (go_at_call 98; refine (d1 _).mono ?_; rintro e w' ⟨rfl, rfl⟩)
            | (at_builtin; go_loud (obtain ⟨i0, hi0, hz0, hz1, hz2⟩ := info_parts Tryz.infoToken; refine wpList_append_own _ rfl _ _ 133 rfl w.heap.size 142 i0 _ 3 32 Tryz.underlying133 hi0 hz0 hz1 hz2 rfl (by decide) _ _ _ rfl ((hown.alloc _).alloc _) ⟨wr.heap.size + 1, 0, none⟩ 1 1 [.int .u8 41, .string (s.extract i (i + 1)), .int .i64 ((i : Nat) : Int)] rfl rfl (cell_three_new2 wr _ _ _ _ _) (fun x hx => by simp at hx; rcases hx with h | h | h <;> (subst h; rfl)) (by unfold maxLen; omega) (by omega) (by simp; omega) ?_; intro v' w6 hown' hgrow hnil; clear hi0 hz0 hz1 hz2)))
          go_roundg (s.size - (i + 1))
          case measure => omega
          case rel => exact tok_round hs bw hown HC.out htx hli hgrow hown' (by simp) NX.out (by decide) (by decide) rfl H.out.1 H.out.2 (by omega) (by omega) (by go_num)
        have hne : ¬ (s[i].toNat : Int) = 32 ∧ ¬ (s[i].toNat : Int) = 10 := by
          have := mt (blank_iff s[i]).2 (by rw [hb]; decide)
          omega
        obtain ⟨n32, n10⟩ := hne
        have b32 : ((s[i].toNat : Int) == 32) = false := beq_no n32
        have b10 : ((s[i].toNat : Int) == 10) = false := beq_no n10
        have b40 : ((s[i].toNat : Int) == 40) = false := byte_ne h40
        have b41 : ((s[i].toNat : Int) == 41) = false := byte_ne h41
        clear n32 n10
        cases hlet : letter s[i]
        case' true =>
          have hdig : digit s[i] = false := (letter_not hlet).2.2.2.2
          have hrl := runL_le letter (s.data.toList.drop i)
          rw [List.length_drop, len_d] at hrl
          have cr := fun w => rrun_1 s i w (by unfold maxLen; omega) (by omega)
          have hme := meas_word hil (show letter s.data.toList[i] = true from hlet)
          have hpos : 0 < runL letter (s.data.toList.drop i) := by rw [List.drop_eq_getElem_cons hil, runL_cons_true letter _ _ (show letter s.data.toList[i] = true from hlet)]; omega
          generalize runL letter (s.data.toList.drop i) = n at *
          by_cases hn : 8 < n
          · rw [if_pos hn] at hme
            have nx := next_is hil hbl (hme)
            have H : Aside (ts2 = [nextTok s.data.toList i]) := toks_bad hto (by rw [nx])
            have NX : Aside (nextTok s.data.toList i = ⟨.bad, i, (s.data.toList.drop i).take 0⟩) := nx
            clear hto nx hb hbl
            have l1 : ∀ w, Calls Tryz.prog 97 #[.int .u8 (s[i].toNat : Int)] w fun e w' => e = .returned (.bool true) ∧ w' = w := by have := Letter_any s[i]; rw [hlet] at this; exact this
            have d1 : ∀ w, Calls Tryz.prog 98 #[.int .u8 (s[i].toNat : Int)] w fun e w' => e = .returned (.bool false) ∧ w' = w := by have := Digit_any s[i]; rw [hdig] at this; exact this
            clear hme hlet hdig h40 h41
            go_wp2_with (first
              | (go_at_call 97; refine (l1 _).mono ?_; rintro e w' ⟨rfl, rfl⟩)
              | (go_at_call 98; refine (d1 _).mono ?_; rintro e w' ⟨rfl, rfl⟩)
              | (go_at_call 99; refine (cr _).mono ?_; rintro e w' ⟨rfl, rfl⟩)
              | (at_builtin; go_loud (obtain ⟨i0, hi0, hz0, hz1, hz2⟩ := info_parts Tryz.infoToken; refine wpList_append_own _ rfl _ _ 133 rfl w.heap.size 142 i0 _ 3 32 Tryz.underlying133 hi0 hz0 hz1 hz2 rfl (by decide) _ _ _ rfl ((hown.alloc _).alloc _) ⟨wr.heap.size + 1, 0, none⟩ 1 1 [.int .u8 120, .string ⟨#[]⟩, .int .i64 ((i : Nat) : Int)] rfl rfl (cell_three_new2 wr _ _ _ _ _) (fun x hx => by simp at hx; rcases hx with h | h | h <;> (subst h; rfl)) (by unfold maxLen; omega) (by omega) (by simp; omega) ?_; intro v' w6 hown' hgrow hnil; clear hi0 hz0 hz1 hz2)))
            go_ret
            exact tok_bad bw hown HC.out htx hgrow hown' (by simp) NX.out H.out
          · rw [if_neg hn] at hme
            have nx := next_is hil hbl (hme)
            obtain ⟨r, hr, hr2⟩ := toks_more hto (by rw [nx]; exact (by decide : K.word ≠ K.eof)) (by rw [nx]; exact (by decide : K.word ≠ K.bad))
            have H : Aside (ts2 = nextTok s.data.toList i :: r ∧ IsToks s.data.toList ((nextTok s.data.toList i).at_ + (nextTok s.data.toList i).body.length) r) := ⟨hr, hr2⟩
            have NX : Aside (nextTok s.data.toList i = ⟨.word, i, (s.data.toList.drop i).take (n)⟩) := nx
            clear hto hr hr2 nx hb hbl
            have l1 : ∀ w, Calls Tryz.prog 97 #[.int .u8 (s[i].toNat : Int)] w fun e w' => e = .returned (.bool true) ∧ w' = w := by have := Letter_any s[i]; rw [hlet] at this; exact this
            have d1 : ∀ w, Calls Tryz.prog 98 #[.int .u8 (s[i].toNat : Int)] w fun e w' => e = .returned (.bool false) ∧ w' = w := by have := Digit_any s[i]; rw [hdig] at this; exact this
            clear hme hlet hdig h40 h41
            go_wp2_with (first
              | (go_at_call 97; refine (l1 _).mono ?_; rintro e w' ⟨rfl, rfl⟩)
              | (go_at_call 98; refine (d1 _).mono ?_; rintro e w' ⟨rfl, rfl⟩)
              | (go_at_call 99; refine (cr _).mono ?_; rintro e w' ⟨rfl, rfl⟩)
              | (at_builtin; go_loud (obtain ⟨i0, hi0, hz0, hz1, hz2⟩ := info_parts Tryz.infoToken; refine wpList_append_own _ rfl _ _ 133 rfl w.heap.size 142 i0 _ 3 32 Tryz.underlying133 hi0 hz0 hz1 hz2 rfl (by decide) _ _ _ rfl ((hown.alloc _).alloc _) ⟨wr.heap.size + 1, 0, none⟩ 1 1 [.int .u8 97, .string (s.extract i (i + n)), .int .i64 ((i : Nat) : Int)] rfl rfl (cell_three_new2 wr _ _ _ _ _) (fun x hx => by simp at hx; rcases hx with h | h | h <;> (subst h; rfl)) (by unfold maxLen; omega) (by omega) (by simp; omega) ?_; intro v' w6 hown' hgrow hnil; clear hi0 hz0 hz1 hz2)))
            go_roundg (s.size - (i + n))
            case measure => omega
            case rel => exact tok_round hs bw hown HC.out htx hli hgrow hown' (by simp) NX.out (by decide) (by decide) rfl H.out.1 H.out.2 (by omega) (by omega) (by go_num)
        cases hdig : digit s[i]
        case' true =>
          have hrl := runL_le digit (s.data.toList.drop i)
          rw [List.length_drop, len_d] at hrl
          have cr := fun w => rrun_2 s i w (by unfold maxLen; omega) (by omega)
          have hme := meas_digit hil (show digit s.data.toList[i] = true from hdig)
          have hpos : 0 < runL digit (s.data.toList.drop i) := by rw [List.drop_eq_getElem_cons hil, runL_cons_true digit _ _ (show digit s.data.toList[i] = true from hdig)]; omega
          generalize runL digit (s.data.toList.drop i) = n at *
          by_cases hn : 9 < n
          · rw [if_pos hn] at hme
            have nx := next_is hil hbl (hme)
            have H : Aside (ts2 = [nextTok s.data.toList i]) := toks_bad hto (by rw [nx])
            have NX : Aside (nextTok s.data.toList i = ⟨.bad, i, (s.data.toList.drop i).take 0⟩) := nx
            clear hto nx hb hbl
            have l1 : ∀ w, Calls Tryz.prog 97 #[.int .u8 (s[i].toNat : Int)] w fun e w' => e = .returned (.bool false) ∧ w' = w := by have := Letter_any s[i]; rw [hlet] at this; exact this
            have d1 : ∀ w, Calls Tryz.prog 98 #[.int .u8 (s[i].toNat : Int)] w fun e w' => e = .returned (.bool true) ∧ w' = w := by have := Digit_any s[i]; rw [hdig] at this; exact this
            clear hme hlet hdig h40 h41
            go_wp2_with (first
              | (go_at_call 97; refine (l1 _).mono ?_; rintro e w' ⟨rfl, rfl⟩)
              | (go_at_call 98; refine (d1 _).mono ?_; rintro e w' ⟨rfl, rfl⟩)
              | (go_at_call 99; refine (cr _).mono ?_; rintro e w' ⟨rfl, rfl⟩)
              | (at_builtin; go_loud (obtain ⟨i0, hi0, hz0, hz1, hz2⟩ := info_parts Tryz.infoToken; refine wpList_append_own _ rfl _ _ 133 rfl w.heap.size 142 i0 _ 3 32 Tryz.underlying133 hi0 hz0 hz1 hz2 rfl (by decide) _ _ _ rfl ((hown.alloc _).alloc _) ⟨wr.heap.size + 1, 0, none⟩ 1 1 [.int .u8 120, .string ⟨#[]⟩, .int .i64 ((i : Nat) : Int)] rfl rfl (cell_three_new2 wr _ _ _ _ _) (fun x hx => by simp at hx; rcases hx with h | h | h <;> (subst h; rfl)) (by unfold maxLen; omega) (by omega) (by simp; omega) ?_; intro v' w6 hown' hgrow hnil; clear hi0 hz0 hz1 hz2)))
            go_ret
            exact tok_bad bw hown HC.out htx hgrow hown' (by simp) NX.out H.out
          · rw [if_neg hn] at hme
            have nx := next_is hil hbl (hme)
            obtain ⟨r, hr, hr2⟩ := toks_more hto (by rw [nx]; exact (by decide : K.num ≠ K.eof)) (by rw [nx]; exact (by decide : K.num ≠ K.bad))
            have H : Aside (ts2 = nextTok s.data.toList i :: r ∧ IsToks s.data.toList ((nextTok s.data.toList i).at_ + (nextTok s.data.toList i).body.length) r) := ⟨hr, hr2⟩
            have NX : Aside (nextTok s.data.toList i = ⟨.num, i, (s.data.toList.drop i).take (n)⟩) := nx
            clear hto hr hr2 nx hb hbl
            have l1 : ∀ w, Calls Tryz.prog 97 #[.int .u8 (s[i].toNat : Int)] w fun e w' => e = .returned (.bool false) ∧ w' = w := by have := Letter_any s[i]; rw [hlet] at this; exact this
            have d1 : ∀ w, Calls Tryz.prog 98 #[.int .u8 (s[i].toNat : Int)] w fun e w' => e = .returned (.bool true) ∧ w' = w := by have := Digit_any s[i]; rw [hdig] at this; exact this
            clear hme hlet hdig h40 h41
            go_wp2_with (first
              | (go_at_call 97; refine (l1 _).mono ?_; rintro e w' ⟨rfl, rfl⟩)
              | (go_at_call 98; refine (d1 _).mono ?_; rintro e w' ⟨rfl, rfl⟩)
              | (go_at_call 99; refine (cr _).mono ?_; rintro e w' ⟨rfl, rfl⟩)
              | (at_builtin; go_loud (obtain ⟨i0, hi0, hz0, hz1, hz2⟩ := info_parts Tryz.infoToken; refine wpList_append_own _ rfl _ _ 133 rfl w.heap.size 142 i0 _ 3 32 Tryz.underlying133 hi0 hz0 hz1 hz2 rfl (by decide) _ _ _ rfl ((hown.alloc _).alloc _) ⟨wr.heap.size + 1, 0, none⟩ 1 1 [.int .u8 49, .string (s.extract i (i + n)), .int .i64 ((i : Nat) : Int)] rfl rfl (cell_three_new2 wr _ _ _ _ _) (fun x hx => by simp at hx; rcases hx with h | h | h <;> (subst h; rfl)) (by unfold maxLen; omega) (by omega) (by simp; omega) ?_; intro v' w6 hown' hgrow hnil; clear hi0 hz0 hz1 hz2)))
            go_roundg (s.size - (i + n))
            case measure => omega
            case rel => exact tok_round hs bw hown HC.out htx hli hgrow hown' (by simp) NX.out (by decide) (by decide) rfl H.out.1 H.out.2 (by omega) (by omega) (by go_num)
        by_cases h45 : s[i] = 45
        · have hc : (s[i].toNat : Int) = 45 := by rw [h45]; rfl
          have hrl := runL_le digit (s.data.toList.drop (i + 1))
          rw [List.length_drop, len_d] at hrl
          have cr := fun w => rrun_2 s (i + 1) w (by unfold maxLen; omega) (by omega)
          have hme := meas_minus hil h45
          generalize runL digit (s.data.toList.drop (i + 1)) = n at *
          by_cases hn : n = 0 ∨ 9 < n
          · rw [if_pos hn] at hme
            have nx := next_is hil hbl (hme)
            have H : Aside (ts2 = [nextTok s.data.toList i]) := toks_bad hto (by rw [nx])
            have NX : Aside (nextTok s.data.toList i = ⟨.bad, i, (s.data.toList.drop i).take 0⟩) := nx
            clear hto nx hb hbl
            have l1 : ∀ w, Calls Tryz.prog 97 #[.int .u8 45] w fun e w' => e = .returned (.bool false) ∧ w' = w := Letter_any 45
            have d1 : ∀ w, Calls Tryz.prog 98 #[.int .u8 45] w fun e w' => e = .returned (.bool false) ∧ w' = w := Digit_any 45
            clear hme hlet hdig h40 h41 h45 b32 b10 b40 b41
            rcases hn with hn | hn
            ·
              go_wp2_with (first
                | (go_at_call 97; refine (l1 _).mono ?_; rintro e w' ⟨rfl, rfl⟩)
                | (go_at_call 98; refine (d1 _).mono ?_; rintro e w' ⟨rfl, rfl⟩)
                | (go_at_call 99; refine (cr _).mono ?_; rintro e w' ⟨rfl, rfl⟩)
                | (at_builtin; go_loud (obtain ⟨i0, hi0, hz0, hz1, hz2⟩ := info_parts Tryz.infoToken; refine wpList_append_own _ rfl _ _ 133 rfl w.heap.size 142 i0 _ 3 32 Tryz.underlying133 hi0 hz0 hz1 hz2 rfl (by decide) _ _ _ rfl ((hown.alloc _).alloc _) ⟨wr.heap.size + 1, 0, none⟩ 1 1 [.int .u8 120, .string ⟨#[]⟩, .int .i64 ((i : Nat) : Int)] rfl rfl (cell_three_new2 wr _ _ _ _ _) (fun x hx => by simp at hx; rcases hx with h | h | h <;> (subst h; rfl)) (by unfold maxLen; omega) (by omega) (by simp; omega) ?_; intro v' w6 hown' hgrow hnil; clear hi0 hz0 hz1 hz2)))
              go_ret
              exact tok_bad bw hown HC.out htx hgrow hown' (by simp) NX.out H.out
            ·
              go_wp2_with (first
                | (go_at_call 97; refine (l1 _).mono ?_; rintro e w' ⟨rfl, rfl⟩)
                | (go_at_call 98; refine (d1 _).mono ?_; rintro e w' ⟨rfl, rfl⟩)
                | (go_at_call 99; refine (cr _).mono ?_; rintro e w' ⟨rfl, rfl⟩)
                | (at_builtin; go_loud (obtain ⟨i0, hi0, hz0, hz1, hz2⟩ := info_parts Tryz.infoToken; refine wpList_append_own _ rfl _ _ 133 rfl w.heap.size 142 i0 _ 3 32 Tryz.underlying133 hi0 hz0 hz1 hz2 rfl (by decide) _ _ _ rfl ((hown.alloc _).alloc _) ⟨wr.heap.size + 1, 0, none⟩ 1 1 [.int .u8 120, .string ⟨#[]⟩, .int .i64 ((i : Nat) : Int)] rfl rfl (cell_three_new2 wr _ _ _ _ _) (fun x hx => by simp at hx; rcases hx with h | h | h <;> (subst h; rfl)) (by unfold maxLen; omega) (by omega) (by simp; omega) ?_; intro v' w6 hown' hgrow hnil; clear hi0 hz0 hz1 hz2)))
              go_ret
              exact tok_bad bw hown HC.out htx hgrow hown' (by simp) NX.out H.out
          · rw [if_neg hn] at hme
            have nx := next_is hil hbl (hme)
            obtain ⟨r, hr, hr2⟩ := toks_more hto (by rw [nx]; exact (by decide : K.num ≠ K.eof)) (by rw [nx]; exact (by decide : K.num ≠ K.bad))
            have H : Aside (ts2 = nextTok s.data.toList i :: r ∧ IsToks s.data.toList ((nextTok s.data.toList i).at_ + (nextTok s.data.toList i).body.length) r) := ⟨hr, hr2⟩
            have NX : Aside (nextTok s.data.toList i = ⟨.num, i, (s.data.toList.drop i).take (1 + n)⟩) := nx
            clear hto hr hr2 nx hb hbl
            have l1 : ∀ w, Calls Tryz.prog 97 #[.int .u8 45] w fun e w' => e = .returned (.bool false) ∧ w' = w := Letter_any 45
            have d1 : ∀ w, Calls Tryz.prog 98 #[.int .u8 45] w fun e w' => e = .returned (.bool false) ∧ w' = w := Digit_any 45
            clear hme hlet hdig h40 h41 h45 b32 b10 b40 b41
            go_wp2_with (first
              | (go_at_call 97; refine (l1 _).mono ?_; rintro e w' ⟨rfl, rfl⟩)
              | (go_at_call 98; refine (d1 _).mono ?_; rintro e w' ⟨rfl, rfl⟩)
              | (go_at_call 99; refine (cr _).mono ?_; rintro e w' ⟨rfl, rfl⟩)
              | (at_builtin; go_loud (obtain ⟨i0, hi0, hz0, hz1, hz2⟩ := info_parts Tryz.infoToken; refine wpList_append_own _ rfl _ _ 133 rfl w.heap.size 142 i0 _ 3 32 Tryz.underlying133 hi0 hz0 hz1 hz2 rfl (by decide) _ _ _ rfl ((hown.alloc _).alloc _) ⟨wr.heap.size + 1, 0, none⟩ 1 1 [.int .u8 49, .string (s.extract i (i + (1 + n))), .int .i64 ((i : Nat) : Int)] rfl rfl (cell_three_new2 wr _ _ _ _ _) (fun x hx => by simp at hx; rcases hx with h | h | h <;> (subst h; rfl)) (by unfold maxLen; omega) (by omega) (by simp; omega) ?_; intro v' w6 hown' hgrow hnil; clear hi0 hz0 hz1 hz2)))
            go_roundg (s.size - (i + (1 + n)))
            case measure => omega
            case rel => exact tok_round hs bw hown HC.out htx hli hgrow hown' (by simp) NX.out (by decide) (by decide) rfl H.out.1 H.out.2 (by omega) (by omega) (by go_num)
        by_cases h39 : s[i] = 39
        · have hc : (s[i].toNat : Int) = 39 := by rw [h39]; rfl
          have hrl := runL_le quot (s.data.toList.drop (i + 1))
          rw [List.length_drop, len_d] at hrl
          have cr := fun w => rrun_3 s (i + 1) w (by unfold maxLen; omega) (by omega)
          have hme := meas_text hil h39
          generalize runL quot (s.data.toList.drop (i + 1)) = n at *
          by_cases hn : 20 < n ∨ s.data.toList[i + 1 + n]? ≠ some 39
          · rw [if_pos hn] at hme
            have nx := next_is hil hbl (hme)
            have H : Aside (ts2 = [nextTok s.data.toList i]) := toks_bad hto (by rw [nx])
            have NX : Aside (nextTok s.data.toList i = ⟨.bad, i, (s.data.toList.drop i).take 0⟩) := nx
            clear hto nx hb hbl
            have l1 : ∀ w, Calls Tryz.prog 97 #[.int .u8 39] w fun e w' => e = .returned (.bool false) ∧ w' = w := Letter_any 39
            have d1 : ∀ w, Calls Tryz.prog 98 #[.int .u8 39] w fun e w' => e = .returned (.bool false) ∧ w' = w := Digit_any 39
            clear hme hlet hdig h40 h41 h39 h45 b32 b10 b40 b41
            by_cases h20 : 20 < n
            ·
              go_wp2_with (first
                | (go_at_call 97; refine (l1 _).mono ?_; rintro e w' ⟨rfl, rfl⟩)
                | (go_at_call 98; refine (d1 _).mono ?_; rintro e w' ⟨rfl, rfl⟩)
                | (go_at_call 99; refine (cr _).mono ?_; rintro e w' ⟨rfl, rfl⟩)
                | (at_builtin; go_loud (obtain ⟨i0, hi0, hz0, hz1, hz2⟩ := info_parts Tryz.infoToken; refine wpList_append_own _ rfl _ _ 133 rfl w.heap.size 142 i0 _ 3 32 Tryz.underlying133 hi0 hz0 hz1 hz2 rfl (by decide) _ _ _ rfl ((hown.alloc _).alloc _) ⟨wr.heap.size + 1, 0, none⟩ 1 1 [.int .u8 120, .string ⟨#[]⟩, .int .i64 ((i : Nat) : Int)] rfl rfl (cell_three_new2 wr _ _ _ _ _) (fun x hx => by simp at hx; rcases hx with h | h | h <;> (subst h; rfl)) (by unfold maxLen; omega) (by omega) (by simp; omega) ?_; intro v' w6 hown' hgrow hnil; clear hi0 hz0 hz1 hz2)))
              go_ret
              exact tok_bad bw hown HC.out htx hgrow hown' (by simp) NX.out H.out
            by_cases hin : i + 1 + n < s.size
            · have hq : ((s[i + 1 + n].toNat : Int) == 39) = false := byte_ne fun g => by
                rcases hn with g1 | g1
                · exact h20 g1
                · refine g1 ?_
                  rw [List.getElem?_eq_getElem (by rw [len_d]; exact hin)]
                  exact congrArg some g
              clear hn
              go_wp2_with (first
                | (go_at_call 97; refine (l1 _).mono ?_; rintro e w' ⟨rfl, rfl⟩)
                | (go_at_call 98; refine (d1 _).mono ?_; rintro e w' ⟨rfl, rfl⟩)
                | (go_at_call 99; refine (cr _).mono ?_; rintro e w' ⟨rfl, rfl⟩)
                | (at_builtin; go_loud (obtain ⟨i0, hi0, hz0, hz1, hz2⟩ := info_parts Tryz.infoToken; refine wpList_append_own _ rfl _ _ 133 rfl w.heap.size 142 i0 _ 3 32 Tryz.underlying133 hi0 hz0 hz1 hz2 rfl (by decide) _ _ _ rfl ((hown.alloc _).alloc _) ⟨wr.heap.size + 1, 0, none⟩ 1 1 [.int .u8 120, .string ⟨#[]⟩, .int .i64 ((i : Nat) : Int)] rfl rfl (cell_three_new2 wr _ _ _ _ _) (fun x hx => by simp at hx; rcases hx with h | h | h <;> (subst h; rfl)) (by unfold maxLen; omega) (by omega) (by simp; omega) ?_; intro v' w6 hown' hgrow hnil; clear hi0 hz0 hz1 hz2)))
              go_ret
              exact tok_bad bw hown HC.out htx hgrow hown' (by simp) NX.out H.out
            · clear hn
              go_wp2_with (first
                | (go_at_call 97; refine (l1 _).mono ?_; rintro e w' ⟨rfl, rfl⟩)
                | (go_at_call 98; refine (d1 _).mono ?_; rintro e w' ⟨rfl, rfl⟩)
                | (go_at_call 99; refine (cr _).mono ?_; rintro e w' ⟨rfl, rfl⟩)
                | (at_builtin; go_loud (obtain ⟨i0, hi0, hz0, hz1, hz2⟩ := info_parts Tryz.infoToken; refine wpList_append_own _ rfl _ _ 133 rfl w.heap.size 142 i0 _ 3 32 Tryz.underlying133 hi0 hz0 hz1 hz2 rfl (by decide) _ _ _ rfl ((hown.alloc _).alloc _) ⟨wr.heap.size + 1, 0, none⟩ 1 1 [.int .u8 120, .string ⟨#[]⟩, .int .i64 ((i : Nat) : Int)] rfl rfl (cell_three_new2 wr _ _ _ _ _) (fun x hx => by simp at hx; rcases hx with h | h | h <;> (subst h; rfl)) (by unfold maxLen; omega) (by omega) (by simp; omega) ?_; intro v' w6 hown' hgrow hnil; clear hi0 hz0 hz1 hz2)))
              go_ret
              exact tok_bad bw hown HC.out htx hgrow hown' (by simp) NX.out H.out
          · rw [if_neg hn] at hme
            have h20 : n ≤ 20 := Nat.le_of_not_lt fun g => hn (Or.inl g)
            have h39b : s.data.toList[i + 1 + n]? = some 39 := Classical.byContradiction fun g => hn (Or.inr g)
            obtain ⟨hin, hq0⟩ := List.getElem?_eq_some_iff.1 h39b
            rw [len_d] at hin
            have hq : (s[i + 1 + n].toNat : Int) = 39 := by
              have : s[i + 1 + n] = 39 := hq0
              rw [this]; rfl
            have nx := next_is hil hbl (hme)
            obtain ⟨r, hr, hr2⟩ := toks_more hto (by rw [nx]; exact (by decide : K.txt ≠ K.eof)) (by rw [nx]; exact (by decide : K.txt ≠ K.bad))
            have H : Aside (ts2 = nextTok s.data.toList i :: r ∧ IsToks s.data.toList ((nextTok s.data.toList i).at_ + (nextTok s.data.toList i).body.length) r) := ⟨hr, hr2⟩
            have NX : Aside (nextTok s.data.toList i = ⟨.txt, i, (s.data.toList.drop i).take (n + 2)⟩) := nx
            clear hto hr hr2 nx hb hbl
            have l1 : ∀ w, Calls Tryz.prog 97 #[.int .u8 39] w fun e w' => e = .returned (.bool false) ∧ w' = w := Letter_any 39
            have d1 : ∀ w, Calls Tryz.prog 98 #[.int .u8 39] w fun e w' => e = .returned (.bool false) ∧ w' = w := Digit_any 39
            clear hme hlet hdig h40 h41 h39 h45 b32 b10 b40 b41 hn h39b hq0
            go_wp2_with (first
              | (go_at_call 97; refine (l1 _).mono ?_; rintro e w' ⟨rfl, rfl⟩)
              | (go_at_call 98; refine (d1 _).mono ?_; rintro e w' ⟨rfl, rfl⟩)
              | (go_at_call 99; refine (cr _).mono ?_; rintro e w' ⟨rfl, rfl⟩)
              | (at_builtin; go_loud (obtain ⟨i0, hi0, hz0, hz1, hz2⟩ := info_parts Tryz.infoToken; refine wpList_append_own _ rfl _ _ 133 rfl w.heap.size 142 i0 _ 3 32 Tryz.underlying133 hi0 hz0 hz1 hz2 rfl (by decide) _ _ _ rfl ((hown.alloc _).alloc _) ⟨wr.heap.size + 1, 0, none⟩ 1 1 [.int .u8 39, .string (s.extract i (i + (n + 2))), .int .i64 ((i : Nat) : Int)] rfl rfl (cell_three_new2 wr _ _ _ _ _) (fun x hx => by simp at hx; rcases hx with h | h | h <;> (subst h; rfl)) (by unfold maxLen; omega) (by omega) (by simp; omega) ?_; intro v' w6 hown' hgrow hnil; clear hi0 hz0 hz1 hz2)))
            go_roundg (s.size - (i + (n + 2)))
            case measure => omega
            case rel => exact tok_round hs bw hown HC.out htx hli hgrow hown' (by simp) NX.out (by decide) (by decide) rfl H.out.1 H.out.2 (by omega) (by omega) (by go_num)
        have b45 : ((s[i].toNat : Int) == 45) = false := byte_ne h45
        have b39 : ((s[i].toNat : Int) == 39) = false := byte_ne h39
        have nx := next_is hil hbl (meas_other hil h40 h41 h39 h45 hdig hlet)
        have H : Aside (ts2 = [nextTok s.data.toList i]) := toks_bad hto (by rw [nx])
        have NX : Aside (nextTok s.data.toList i = ⟨.bad, i, (s.data.toList.drop i).take 0⟩) := nx
        clear hto nx hb hbl
        have l1 : ∀ w, Calls Tryz.prog 97 #[.int .u8 (s[i].toNat : Int)] w fun e w' => e = .returned (.bool false) ∧ w' = w := by have := Letter_any s[i]; rw [hlet] at this; exact this
        have d1 : ∀ w, Calls Tryz.prog 98 #[.int .u8 (s[i].toNat : Int)] w fun e w' => e = .returned (.bool false) ∧ w' = w := by have := Digit_any s[i]; rw [hdig] at this; exact this
        clear hlet hdig h40 h41 h39 h45
        go_wp2_with (first
          | (go_at_call 97; refine (l1 _).mono ?_; rintro e w' ⟨rfl, rfl⟩)
          | (go_at_call 98; refine (d1 _).mono ?_; rintro e w' ⟨rfl, rfl⟩)
          | (at_builtin; go_loud (obtain ⟨i0, hi0, hz0, hz1, hz2⟩ := info_parts Tryz.infoToken; refine wpList_append_own _ rfl _ _ 133 rfl w.heap.size 142 i0 _ 3 32 Tryz.underlying133 hi0 hz0 hz1 hz2 rfl (by decide) _ _ _ rfl ((hown.alloc _).alloc _) ⟨wr.heap.size + 1, 0, none⟩ 1 1 [.int .u8 120, .string ⟨#[]⟩, .int .i64 ((i : Nat) : Int)] rfl rfl (cell_three_new2 wr _ _ _ _ _) (fun x hx => by simp at hx; rcases hx with h | h | h <;> (subst h; rfl)) (by unfold maxLen; omega) (by omega) (by simp; omega) ?_; intro v' w6 hown' hgrow hnil; clear hi0 hz0 hz1 hz2)))
        go_ret
        exact tok_bad bw hown HC.out htx hgrow hown' (by simp) NX.out H.out
      · have hto2 := hto.blank (by rw [len_d]; exact hlt) (show blank s[i] = true from hb)
        rw [blank_iff] at hb
        clear hto
        have lt : ∀ (n : Nat) (h : n < 256) (w : World), Calls Tryz.prog 97 #[.int .u8 ((n : Nat) : Int)] w fun e w' => (∃ b, e = .returned (.bool b)) ∧ w' = w := fun n h w => by
          have := Letter_any (UInt8.ofNat n) w
          rw [show B (UInt8.ofNat n) = .int .u8 ((n : Nat) : Int) by simp [B, UInt8.toNat_ofNat', Nat.mod_eq_of_lt h]] at this
          exact this.mono fun e w' h => ⟨⟨_, h.1⟩, h.2⟩
        have dt : ∀ (n : Nat) (h : n < 256) (w : World), Calls Tryz.prog 98 #[.int .u8 ((n : Nat) : Int)] w fun e w' => (∃ b, e = .returned (.bool b)) ∧ w' = w := fun n h w => by
          have := Digit_any (UInt8.ofNat n) w
          rw [show B (UInt8.ofNat n) = .int .u8 ((n : Nat) : Int) by simp [B, UInt8.toNat_ofNat', Nat.mod_eq_of_lt h]] at this
          exact this.mono fun e w' h => ⟨⟨_, h.1⟩, h.2⟩
        rcases hb with hb | hb
        · have l1 : ∀ w, Calls Tryz.prog 97 #[.int .u8 32] w fun e w' => (∃ b, e = .returned (.bool b)) ∧ w' = w := fun w => lt 32 (by omega) w
          have d1 : ∀ w, Calls Tryz.prog 98 #[.int .u8 32] w fun e w' => (∃ b, e = .returned (.bool b)) ∧ w' = w := fun w => dt 32 (by omega) w
          clear lt dt
          go_wp2_with (first
            | (go_at_call 97; refine (l1 _).mono ?_; rintro e w' ⟨⟨b1, rfl⟩, rfl⟩)
            | (go_at_call 98; refine (d1 _).mono ?_; rintro e w' ⟨⟨b2, rfl⟩, rfl⟩))
          go_roundg (s.size - (i + 1))
          case measure => omega
          case rel => exact ⟨i + 1, l, ts2, rfl, by go_num, by omega, HC.out, htx, hto2, by omega, hown.alloc _, bw.alloc hwz _⟩
        · have l1 : ∀ w, Calls Tryz.prog 97 #[.int .u8 10] w fun e w' => (∃ b, e = .returned (.bool b)) ∧ w' = w := fun w => lt 10 (by omega) w
          have d1 : ∀ w, Calls Tryz.prog 98 #[.int .u8 10] w fun e w' => (∃ b, e = .returned (.bool b)) ∧ w' = w := fun w => dt 10 (by omega) w
          clear lt dt
          go_wp2_with (first
            | (go_at_call 97; refine (l1 _).mono ?_; rintro e w' ⟨⟨b1, rfl⟩, rfl⟩)
            | (go_at_call 98; refine (d1 _).mono ?_; rintro e w' ⟨⟨b2, rfl⟩, rfl⟩))
          go_roundg (s.size - (i + 1))
          case measure => omega
          case rel => exact ⟨i + 1, l, ts2, rfl, by go_num, by omega, HC.out, htx, hto2, by omega, hown.alloc _, bw.alloc hwz _⟩
    · have hii : i = s.size := by omega
      subst hii
      have e := toks_end (s := s.data.toList) (ts := ts2) (by rw [len_d]; exact hto)
      rw [len_d] at e
      have HE : Aside (ts2 = [⟨.eof, s.size, []⟩]) := e
      clear e hto
      go_wp2_with (at_builtin; go_loud (obtain ⟨i0, hi0, hz0, hz1, hz2⟩ := info_parts Tryz.infoToken; refine wpList_append_own _ rfl _ _ 133 rfl w.heap.size 142 i0 _ 3 32 Tryz.underlying133 hi0 hz0 hz1 hz2 rfl (by decide) _ _ _ rfl (hown.alloc _) ⟨wr.heap.size, 0, none⟩ 1 1 [.int .u8 0, .string ⟨#[]⟩, .int .i64 ((s.size : Nat) : Int)] rfl rfl (cell_three_new wr _ _ _ _) (fun x hx => by simp at hx; rcases hx with h | h | h <;> (subst h; rfl)) (by unfold maxLen; omega) (by omega) (by simp; omega) ?_; intro v' w6 hown' hgrow hnil; clear hi0 hz0 hz1 hz2))
      go_ret
      refine ⟨⟨_, l ++ [(⟨.eof, s.size, []⟩, ⟨#[]⟩)], rfl, ?_, htx.snoc _ rfl, ?_⟩, Below.grown (bw.alloc hwz _) hgrow (by simp; omega) (fun k hk => (hown.lt k hk).1)⟩
      · rw [List.map_append, ← HC.out, HE.out]; rfl
      · rw [List.length_append, tokCells_snoc]
        exact RowAt.of_owns hown'
end Go.Proofs.YtdiefbahmcihlaaGreatDoor
