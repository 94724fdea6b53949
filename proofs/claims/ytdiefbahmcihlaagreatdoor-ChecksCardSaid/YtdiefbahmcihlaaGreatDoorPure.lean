/-
  Plain functions on bytes and tokens: what the document says of tokens, grammar and names. No model in it.
-/
namespace Go.Proofs.YtdiefbahmcihlaaGreatDoor

def blank (b : UInt8) : Bool := b == 32 || b == 10
def digit (b : UInt8) : Bool := 48 ≤ b && b ≤ 57
def letter (b : UInt8) : Bool := 97 ≤ b && b ≤ 122
def quot (b : UInt8) : Bool := 32 ≤ b && b ≤ 126 && b != 39

/-- How many bytes at the head are of one sort. -/
def runL (p : UInt8 → Bool) (l : List UInt8) : Nat := (l.takeWhile p).length

theorem runL_le (p : UInt8 → Bool) (l : List UInt8) : runL p l ≤ l.length := by
  unfold runL
  induction l with
  | nil => simp
  | cons a l ih =>
    simp only [List.takeWhile_cons, List.length_cons]
    split <;> simp <;> omega
theorem runL_cons_true (p : UInt8 → Bool) (a : UInt8) (l : List UInt8) (h : p a = true) : runL p (a :: l) = runL p l + 1 := by simp [runL, h]
theorem runL_cons_false (p : UInt8 → Bool) (a : UInt8) (l : List UInt8) (h : p a = false) : runL p (a :: l) = 0 := by simp [runL, h]
theorem runL_at (p : UInt8 → Bool) : ∀ (l : List UInt8) (i : Nat) (h : i < l.length), (∀ j (hj : j < i), p (l[j]'(by omega)) = true) → p l[i] = false → runL p l = i
  | [], i, h, _, _ => by simp at h
  | a :: l, 0, _, _, hf => by simp at hf; simp [runL, hf]
  | a :: l, i + 1, h, ht, hf => by
    have h0 := ht 0 (by omega)
    simp at h0
    have := runL_at p l i (by simpa using h) (fun j hj => by simpa using ht (j + 1) (by omega)) (by simpa using hf)
    simp only [runL, List.takeWhile_cons, h0, if_true, List.length_cons] at this ⊢
    omega
theorem runL_all (p : UInt8 → Bool) : ∀ (l : List UInt8), (∀ j (hj : j < l.length), p l[j] = true) → runL p l = l.length
  | [], _ => rfl
  | a :: l, ht => by
    have h0 := ht 0 (by simp)
    simp at h0
    have := runL_all p l (fun j hj => ht (j + 1) (by simp; omega))
    rw [runL_cons_true p a l h0, this]
    rfl

/-- The kinds of tokens; 'bad': a wrong one. -/
inductive K where
  | eof | opn | cls | num | txt | word | bad
  deriving DecidableEq

def startsB (c : UInt8) (l : List UInt8) : Bool := l[0]? == some c
def unsignL (l : List UInt8) : List UInt8 := if startsB 45 l then l.drop 1 else l
theorem unsign_len (l : List UInt8) : (unsignL l).length ≤ l.length := by
  unfold unsignL; split <;> simp
/-- How long a text, a number, a word at the head is; none: it is a wrong one. -/
def textL (l : List UInt8) : Option Nat := if 20 < runL quot (l.drop 1) ∨ startsB 39 ((l.drop 1).drop (runL quot (l.drop 1))) = false then none else some (runL quot (l.drop 1) + 2)
def numL (l : List UInt8) : Option Nat := if runL digit (unsignL l) = 0 ∨ 9 < runL digit (unsignL l) then none else some (l.length - (unsignL l).length + runL digit (unsignL l))
def wordL (l : List UInt8) : Option Nat := if 8 < runL letter l then none else some (runL letter l)
def kindOf (k : K) : Option Nat → K × Nat
  | none => (.bad, 0)
  | some n => (k, n)
/-- What stands at the head of a text that does not begin with a blank: its kind and its length. -/
def measureL : List UInt8 → K × Nat
  | [] => (.eof, 0)
  | c :: r =>
    if c == 40 then (.opn, 1)
    else if c == 41 then (.cls, 1)
    else if c == 39 then kindOf .txt (textL (c :: r))
    else if c == 45 || digit c then kindOf .num (numL (c :: r))
    else if letter c then kindOf .word (wordL (c :: r))
    else (.bad, 0)

structure Tok where
  k : K
  at_ : Nat
  body : List UInt8

/-- The token that comes next from a place on. -/
def nextTok (s : List UInt8) (p : Nat) : Tok :=
  let j := p + runL blank (s.drop p)
  let m := measureL (s.drop j)
  ⟨m.1, j, (s.drop j).take m.2⟩

/-- The tokens from a place on, up to a wrong one or the end. -/
inductive IsToks (s : List UInt8) : Nat → List Tok → Prop where
  | last {p : Nat} : ((nextTok s p).k = .eof ∨ (nextTok s p).k = .bad) → IsToks s p [nextTok s p]
  | more {p : Nat} {ts : List Tok} : (nextTok s p).k ≠ .eof → (nextTok s p).k ≠ .bad → IsToks s ((nextTok s p).at_ + (nextTok s p).body.length) ts → IsToks s p (nextTok s p :: ts)

theorem textL_pos {l : List UInt8} {n : Nat} (h : textL l = some n) : 0 < n ∧ n ≤ l.length := by
  unfold textL at h
  split at h
  · cases h
  · rename_i hh
    simp only [Option.some.injEq] at h
    have e : startsB 39 ((l.drop 1).drop (runL quot (l.drop 1))) = true := by
      cases g : startsB 39 ((l.drop 1).drop (runL quot (l.drop 1)))
      · exact absurd (Or.inr g) hh
      · rfl
    simp only [startsB, List.getElem?_drop, beq_iff_eq] at e
    have := (List.getElem?_eq_some_iff.1 e).1
    omega
theorem numL_pos {l : List UInt8} {n : Nat} (h : numL l = some n) : 0 < n ∧ n ≤ l.length := by
  have h1 := unsign_len l
  have h2 := runL_le digit (unsignL l)
  unfold numL at h
  split at h
  · cases h
  · rename_i hh
    simp only [Option.some.injEq] at h
    omega
theorem wordL_le {l : List UInt8} {n : Nat} (h : wordL l = some n) : n = runL letter l ∧ n ≤ l.length := by
  have h2 := runL_le letter l
  unfold wordL at h
  split at h
  · cases h
  · simp only [Option.some.injEq] at h
    omega
theorem measureL_pos (l : List UInt8) (h1 : (measureL l).1 ≠ .eof) (h2 : (measureL l).1 ≠ .bad) : 0 < (measureL l).2 ∧ (measureL l).2 ≤ l.length := by
  cases l with
  | nil => simp [measureL] at h1
  | cons c r =>
    simp only [measureL] at h1 h2 ⊢
    split
    · simp
    split
    · simp
    rename_i a1 a2
    simp only [a1, a2, if_false, Bool.false_eq_true] at h1 h2
    split
    · rename_i a3
      simp only [a3, if_true] at h2
      cases g : textL (c :: r) with
      | none => simp [g, kindOf] at h2
      | some n => exact textL_pos g
    rename_i a3
    simp only [a3, if_false, Bool.false_eq_true] at h1 h2
    split
    · rename_i a4
      simp only [a4, if_true] at h2
      cases g : numL (c :: r) with
      | none => simp [g, kindOf] at h2
      | some n => exact numL_pos g
    rename_i a4
    simp only [a4, if_false, Bool.false_eq_true] at h1 h2
    split
    · rename_i a5
      simp only [a5, if_true] at h2
      cases g : wordL (c :: r) with
      | none => simp [g, kindOf] at h2
      | some n =>
        have e := wordL_le g
        have := runL_cons_true letter c r a5
        simp only [kindOf]
        omega
    · rename_i a5
      simp [a5] at h2

theorem kindOf_fst {k x : K} {o : Option Nat} (h : (kindOf k o).1 = x) (hx : x ≠ .bad) : k = x ∧ ∃ n, o = some n ∧ (kindOf k o).2 = n := by
  cases o with
  | none => exact absurd h.symm hx
  | some n => exact ⟨h, n, rfl, rfl⟩
theorem measureL_txt (l : List UInt8) (h : (measureL l).1 = .txt) : 2 ≤ (measureL l).2 := by
  cases l with
  | nil => simp [measureL] at h
  | cons c r =>
    simp only [measureL] at h ⊢
    split at h
    · cases h
    split at h
    · cases h
    rename_i a1 a2
    simp only [a1, a2, if_false, Bool.false_eq_true]
    split at h
    · rename_i a3
      simp only [a3, if_true]
      obtain ⟨_, n, h1, h2⟩ := kindOf_fst h (by decide)
      rw [h2]
      unfold textL at h1
      split at h1
      · cases h1
      · simp only [Option.some.injEq] at h1
        omega
    split at h
    · exact absurd (kindOf_fst h (by decide)).1 (by decide)
    split at h
    · exact absurd (kindOf_fst h (by decide)).1 (by decide)
    · cases h
theorem measureL_eof (l : List UInt8) (h : (measureL l).1 = .eof) : l = [] ∧ (measureL l).2 = 0 := by
  cases l with
  | nil => exact ⟨rfl, rfl⟩
  | cons c r =>
    simp only [measureL] at h
    split at h
    · cases h
    split at h
    · cases h
    split at h
    · exact absurd (kindOf_fst h (by decide)).1 (by decide)
    split at h
    · exact absurd (kindOf_fst h (by decide)).1 (by decide)
    split at h
    · exact absurd (kindOf_fst h (by decide)).1 (by decide)
    · cases h

theorem nextTok_len (s : List UInt8) (p : Nat) (hp : p ≤ s.length) (h1 : (nextTok s p).k ≠ .eof) (h2 : (nextTok s p).k ≠ .bad) :
    p < (nextTok s p).at_ + (nextTok s p).body.length ∧ (nextTok s p).at_ + (nextTok s p).body.length ≤ s.length ∧ (nextTok s p).body.length = (measureL (s.drop (nextTok s p).at_)).2 ∧ p ≤ (nextTok s p).at_ := by
  have hm := measureL_pos (s.drop (p + runL blank (s.drop p))) h1 h2
  have hr := runL_le blank (s.drop p)
  simp only [List.length_drop] at hm hr
  simp only [nextTok, List.length_take, List.length_drop]
  omega
theorem nextTok_at (s : List UInt8) (p : Nat) (hp : p ≤ s.length) : p ≤ (nextTok s p).at_ ∧ (nextTok s p).at_ ≤ s.length := by
  have hr := runL_le blank (s.drop p)
  simp only [List.length_drop] at hr
  simp only [nextTok]
  omega
theorem isToks_some (s : List UInt8) : ∀ (n p : Nat), p ≤ s.length → s.length - p ≤ n → ∃ ts, IsToks s p ts
  | n, p, hp, hn => by
    by_cases h1 : (nextTok s p).k = .eof
    · exact ⟨_, .last (Or.inl h1)⟩
    by_cases h2 : (nextTok s p).k = .bad
    · exact ⟨_, .last (Or.inr h2)⟩
    obtain ⟨g1, g2, _⟩ := nextTok_len s p hp h1 h2
    cases n with
    | zero => omega
    | succ n =>
      obtain ⟨ts, ht⟩ := isToks_some s n _ g2 (by omega)
      exact ⟨_, .more h1 h2 ht⟩
theorem IsToks.len {s : List UInt8} : ∀ {p : Nat} {ts : List Tok}, IsToks s p ts → p ≤ s.length → ts.length + p ≤ s.length + 1 := by
  intro p ts h
  induction h with
  | last _ => intro hp; simp; omega
  | more h1 h2 _ ih =>
    intro hp
    obtain ⟨g1, g2, _⟩ := nextTok_len s _ hp h1 h2
    have := ih g2
    simp; omega
theorem IsToks.ne {s : List UInt8} {p : Nat} {ts : List Tok} (h : IsToks s p ts) : ∃ t r, ts = t :: r := by
  cases h with
  | last _ => exact ⟨_, _, rfl⟩
  | more _ _ _ => exact ⟨_, _, rfl⟩
/-- A blank ahead turns nothing. -/
theorem nextTok_blank (s : List UInt8) (p : Nat) (hp : p < s.length) (hb : blank s[p] = true) : nextTok s p = nextTok s (p + 1) := by
  have e : s.drop p = s[p] :: s.drop (p + 1) := List.drop_eq_getElem_cons hp
  have e2 : runL blank (s.drop p) = runL blank (s.drop (p + 1)) + 1 := by rw [e]; exact runL_cons_true blank _ _ hb
  simp only [nextTok, e2]
  rw [show p + (runL blank (s.drop (p + 1)) + 1) = p + 1 + runL blank (s.drop (p + 1)) by omega]
theorem IsToks.blank {s : List UInt8} {p : Nat} {ts : List Tok} (h : IsToks s p ts) (hp : p < s.length) (hb : blank s[p] = true) : IsToks s (p + 1) ts := by
  have e := nextTok_blank s p hp hb
  cases h with
  | last h => rw [e] at h ⊢; exact .last h
  | more h1 h2 h3 => rw [e] at h1 h2 h3 ⊢; exact .more h1 h2 h3
theorem nextTok_here (s : List UInt8) (p : Nat) (h : ∀ hp : p < s.length, blank s[p] = false) : nextTok s p = ⟨(measureL (s.drop p)).1, p, (s.drop p).take (measureL (s.drop p)).2⟩ := by
  have : runL blank (s.drop p) = 0 := by
    by_cases hp : p < s.length
    · rw [List.drop_eq_getElem_cons hp]; exact runL_cons_false blank _ _ (h hp)
    · rw [List.drop_eq_nil_of_le (by omega)]; rfl
  simp [nextTok, this]

/-- Of a word: whether a name stands behind it, and how many exprs do (-1: any number); none: it is no form's. -/
def shapeL (l : List UInt8) : Option (Bool × Int) :=
  if l == [108, 105, 115, 116] then some (false, -1)
  else if l == [99, 97, 108, 108] then some (true, -1)
  else if l == [109, 97, 112] then some (true, 1)
  else if l == [108, 101, 116] then some (true, 2)
  else if l == [105, 102] then some (false, 3)
  else if l == [115, 101, 116] then some (false, 3)
  else if l == [108, 101, 110] then some (false, 1)
  else if l == [97, 100, 100] then some (false, 2)
  else if l == [115, 117, 98] then some (false, 2)
  else if l == [109, 117, 108] then some (false, 2)
  else if l == [101, 113] then some (false, 2)
  else if l == [108, 101, 115, 115] then some (false, 2)
  else if l == [97, 116] then some (false, 2)
  else if l == [106, 111, 105, 110] then some (false, 2)
  else none
def reservedL (l : List UInt8) : Bool := (shapeL l).isSome || l == [102, 117, 110]
/-- A word is one of the fourteen, or it is none of them. -/
theorem shape_cases (l : List UInt8) : l = [108, 105, 115, 116] ∨ l = [99, 97, 108, 108] ∨ l = [109, 97, 112] ∨ l = [108, 101, 116] ∨ l = [105, 102] ∨ l = [115, 101, 116] ∨ l = [108, 101, 110] ∨ l = [97, 100, 100] ∨ l = [115, 117, 98] ∨ l = [109, 117, 108] ∨ l = [101, 113] ∨ l = [108, 101, 115, 115] ∨ l = [97, 116] ∨ l = [106, 111, 105, 110] ∨ (shapeL l = none ∧ (l == [108, 105, 115, 116]) = false ∧ (l == [99, 97, 108, 108]) = false ∧ (l == [109, 97, 112]) = false ∧ (l == [108, 101, 116]) = false ∧ (l == [105, 102]) = false ∧ (l == [115, 101, 116]) = false ∧ (l == [108, 101, 110]) = false ∧ (l == [97, 100, 100]) = false ∧ (l == [115, 117, 98]) = false ∧ (l == [109, 117, 108]) = false ∧ (l == [101, 113]) = false ∧ (l == [108, 101, 115, 115]) = false ∧ (l == [97, 116]) = false ∧ (l == [106, 111, 105, 110]) = false) := by
  by_cases h0 : l = [108, 105, 115, 116]
  · simp [h0]
  by_cases h1 : l = [99, 97, 108, 108]
  · simp [h1]
  by_cases h2 : l = [109, 97, 112]
  · simp [h2]
  by_cases h3 : l = [108, 101, 116]
  · simp [h3]
  by_cases h4 : l = [105, 102]
  · simp [h4]
  by_cases h5 : l = [115, 101, 116]
  · simp [h5]
  by_cases h6 : l = [108, 101, 110]
  · simp [h6]
  by_cases h7 : l = [97, 100, 100]
  · simp [h7]
  by_cases h8 : l = [115, 117, 98]
  · simp [h8]
  by_cases h9 : l = [109, 117, 108]
  · simp [h9]
  by_cases h10 : l = [101, 113]
  · simp [h10]
  by_cases h11 : l = [108, 101, 115, 115]
  · simp [h11]
  by_cases h12 : l = [97, 116]
  · simp [h12]
  by_cases h13 : l = [106, 111, 105, 110]
  · simp [h13]
  have g : shapeL l = none := by simp [shapeL, h0, h1, h2, h3, h4, h5, h6, h7, h8, h9, h10, h11, h12, h13]
  simp [g, h0, h1, h2, h3, h4, h5, h6, h7, h8, h9, h10, h11, h12, h13]
theorem shape_bounds {l : List UInt8} {b : Bool} {m : Int} (h : shapeL l = some (b, m)) : -1 ≤ m ∧ m ≤ 3 := by
  rcases shape_cases l with g | g | g | g | g | g | g | g | g | g | g | g | g | g | ⟨g, _⟩
  all_goals first
    | (subst g; simp [shapeL] at h; omega)
    | (rw [g] at h; cases h)
end Go.Proofs.YtdiefbahmcihlaaGreatDoor

/-
  The grammar, as plain functions on lists of tokens: what is read, or the first thing that is wrong (2: ErrText, 3: ErrDeep) and where. No model in it.
-/
namespace Go.Proofs.YtdiefbahmcihlaaGreatDoor

/-- What is read and the tokens behind it, or what is wrong and where. -/
inductive Res (α : Type) where
  | ok (a : α) (rest : List Tok)
  | err (c at_ : Nat)

/-- An expr. -/
inductive Ex where
  | num (b : List UInt8)
  | txt (b : List UInt8)
  | var (n : List UInt8) (at_ : Nat)
  | form (w n : List UInt8) (at_ : Nat) (kids : List Ex)

/-- A text's body without its quotes. -/
def innerL (l : List UInt8) : List UInt8 := (l.drop 1).take (l.length - 2)
def isNameT (t : Tok) : Bool := decide (t.k = .word) && !reservedL t.body
def shapeT (t : Tok) : Option (Bool × Int) := if t.k = .word then shapeL t.body else none
def formR (w n : List UInt8) (at_ : Nat) : Res (List Ex) → Res Ex
  | .ok ks r => .ok (.form w n at_ ks) r
  | .err c a => .err c a

def pF (L : Nat → Int → List Tok → Res (List Ex)) (d : Nat) : List Tok → Res Ex
  | [] => .err 0 0
  | t :: ts => match shapeT t with
    | none => .err 2 t.at_
    | some (false, n) => formR t.body [] t.at_ (L d n ts)
    | some (true, n) => match ts with
      | [] => .err 0 0
      | u :: us => if isNameT u then formR t.body u.body u.at_ (L d n us) else .err 2 u.at_
def pE (L : Nat → Int → List Tok → Res (List Ex)) (d : Nat) : List Tok → Res Ex
  | [] => .err 0 0
  | t :: ts => match t.k with
    | .num => .ok (.num t.body) ts
    | .txt => .ok (.txt (innerL t.body)) ts
    | .word => if reservedL t.body then .err 2 t.at_ else .ok (.var t.body t.at_) ts
    | .opn => if d = 16 then .err 3 t.at_ else pF L (d + 1) ts
    | _ => .err 2 t.at_
def consR (e : Ex) : Res (List Ex) → Res (List Ex)
  | .ok es r => .ok (e :: es) r
  | .err c a => .err c a
/-- So many exprs (below 0: any number), and the bracket that closes. -/
def pL : Nat → Nat → Int → List Tok → Res (List Ex)
  | 0, _, _, _ => .err 0 0
  | _ + 1, _, _, [] => .err 0 0
  | f + 1, d, m, t :: ts =>
    if m = 0 ∨ (m < 0 ∧ t.k = .cls) then (if t.k = .cls then .ok [] ts else .err 2 t.at_)
    else match pE (pL f) d (t :: ts) with
      | .err c a => .err c a
      | .ok e r => consR e (pL f d (if m < 0 then m else m - 1) r)

/-- What is left is shorter. -/
theorem pF_len {L : Nat → Int → List Tok → Res (List Ex)} (hL : ∀ d m ts es r, L d m ts = .ok es r → r.length < ts.length) {d : Nat} {ts : List Tok} {e : Ex} {r : List Tok} (h : pF L d ts = .ok e r) : r.length < ts.length := by
  cases ts with
  | nil => cases h
  | cons t ts =>
    simp only [pF] at h
    split at h
    · cases h
    · rename_i n _
      cases g : L d n ts with
      | err c a => rw [g] at h; cases h
      | ok ks r' =>
        rw [g] at h
        cases h
        have := hL _ _ _ _ _ g
        simp; omega
    · rename_i n _
      cases ts with
      | nil => cases h
      | cons u us =>
        simp only at h
        split at h
        · cases g : L d n us with
          | err c a => rw [g] at h; cases h
          | ok ks r' =>
            rw [g] at h
            cases h
            have := hL _ _ _ _ _ g
            simp; omega
        · cases h
theorem pE_len {L : Nat → Int → List Tok → Res (List Ex)} (hL : ∀ d m ts es r, L d m ts = .ok es r → r.length < ts.length) {d : Nat} {ts : List Tok} {e : Ex} {r : List Tok} (h : pE L d ts = .ok e r) : r.length < ts.length := by
  cases ts with
  | nil => cases h
  | cons t ts =>
    simp only [pE] at h
    split at h
    · cases h; simp
    · cases h; simp
    · split at h
      · cases h
      · cases h; simp
    · split at h
      · cases h
      · have := pF_len hL h
        simp; omega
    · cases h
theorem pL_len : ∀ (f d : Nat) (m : Int) (ts : List Tok) (es : List Ex) (r : List Tok), pL f d m ts = .ok es r → r.length < ts.length
  | 0, _, _, _, _, _, h => by cases h
  | f + 1, _, _, [], _, _, h => by cases h
  | f + 1, d, m, t :: ts, es, r, h => by
    simp only [pL] at h
    split at h
    · split at h
      · cases h; simp
      · cases h
    · cases g : pE (pL f) d (t :: ts) with
      | err c a => rw [g] at h; cases h
      | ok e r' =>
        rw [g] at h
        have h1 := pE_len (fun d m ts es r => pL_len f d m ts es r) g
        cases g2 : pL f d (if m < 0 then m else m - 1) r' with
        | err c a => simp only [g2, consR] at h; cases h
        | ok es' r'' =>
          simp only [g2, consR] at h
          cases h
          have := pL_len f _ _ _ _ _ g2
          omega

def consN (n : List UInt8 × Nat) : Res (List (List UInt8 × Nat)) → Res (List (List UInt8 × Nat))
  | .ok ns r => .ok (n :: ns) r
  | .err c a => .err c a
/-- The names of parameters, and the bracket that closes. -/
def pP : List Tok → Res (List (List UInt8 × Nat))
  | [] => .err 0 0
  | t :: ts => if t.k = .cls then .ok [] ts else if isNameT t then consN (t.body, t.at_) (pP ts) else .err 2 t.at_
theorem pP_len : ∀ (ts : List Tok) (ns : List (List UInt8 × Nat)) (r : List Tok), pP ts = .ok ns r → r.length < ts.length
  | [], _, _, h => by cases h
  | t :: ts, ns, r, h => by
    simp only [pP] at h
    split at h
    · cases h; simp
    · split at h
      · cases g : pP ts with
        | err c a => simp only [g, consN] at h; cases h
        | ok ns' r' =>
          simp only [g, consN] at h
          cases h
          have := pP_len ts _ _ g
          simp; omega
      · cases h
def addE (pre : List Ex) : Res (List Ex) → Res (List Ex)
  | .ok es r => .ok (pre ++ es) r
  | .err c a => .err c a
theorem addE_cons (pre : List Ex) (e : Ex) (r : Res (List Ex)) : addE pre (consR e r) = addE (pre ++ [e]) r := by cases r <;> simp [addE, consR]
theorem pL_bad {f d : Nat} {m : Int} {t : Tok} {ts : List Tok} (hk : t.k = .bad) : pL (f + 1) d m (t :: ts) = .err 2 t.at_ := by
  by_cases h : m = 0 <;> simp [pL, h, hk, pE]
/-- Behind the first expr. -/
def stepR (f d : Nat) (m : Int) : Res Ex → Res (List Ex)
  | .err c a => .err c a
  | .ok e r => consR e (pL f d (if m < 0 then m else m - 1) r)
theorem pL_step {f d : Nat} {m : Int} {t : Tok} {ts : List Tok} (h0 : ¬ m = 0) (hc : m < 0 → t.k ≠ .cls) : pL (f + 1) d m (t :: ts) = stepR f d m (pE (pL f) d (t :: ts)) := by
  have : ¬ (m = 0 ∨ (m < 0 ∧ t.k = .cls)) := by
    rintro (g | ⟨g1, g2⟩)
    · exact h0 g
    · exact hc g1 g2
  simp only [pL, this, if_false]
  cases pE (pL f) d (t :: ts) <;> rfl
theorem pL_close {f d : Nat} {m : Int} {t : Tok} {ts : List Tok} (h : m = 0 ∨ (m < 0 ∧ t.k = .cls)) : pL (f + 1) d m (t :: ts) = if t.k = .cls then .ok [] ts else .err 2 t.at_ := by
  simp only [pL, h, if_true]
end Go.Proofs.YtdiefbahmcihlaaGreatDoor

/-
  The grammar of functions and programs, as plain functions. No model in it.
-/
namespace Go.Proofs.YtdiefbahmcihlaaGreatDoor

/-- A function: its name, and where; its parameters, and where each; its expr. -/
structure Fn where
  name : List UInt8
  at_ : Nat
  params : List (List UInt8 × Nat)
  body : Ex

def isFunT (t : Tok) : Bool := decide (t.k = .word) && t.body == [102, 117, 110]
/-- The body and what closes it. -/
def bodyR (name : List UInt8) (at_ : Nat) (ns : List (List UInt8 × Nat)) : Res (List Ex) → Res Fn
  | .ok (b :: _) r => .ok ⟨name, at_, ns, b⟩ r
  | .ok [] _ => .err 0 0
  | .err c a => .err c a
def paramsR (g : Nat) (name : List UInt8) (at_ : Nat) : Res (List (List UInt8 × Nat)) → Res Fn
  | .ok ns r => bodyR name at_ ns (pL g 1 1 r)
  | .err c a => .err c a
/-- A function, its first token being the first one. -/
def pFun (g : Nat) : List Tok → Res Fn
  | t :: u :: n :: o :: ts => if t.k ≠ .opn then .err 2 t.at_ else if isFunT u = false then .err 2 u.at_ else if isNameT n = false then .err 2 n.at_ else if o.k ≠ .opn then .err 2 o.at_ else paramsR g n.body n.at_ (pP ts)
  | t :: u :: n :: _ => if t.k ≠ .opn then .err 2 t.at_ else if isFunT u = false then .err 2 u.at_ else .err 2 n.at_
  | t :: u :: _ => if t.k ≠ .opn then .err 2 t.at_ else .err 2 u.at_
  | t :: _ => .err 2 t.at_
  | [] => .err 0 0
def consF (f : Fn) : Res (List Fn) → Res (List Fn)
  | .ok fs r => .ok (f :: fs) r
  | .err c a => .err c a
/-- A program: functions up to the end. -/
def pProg : Nat → List Tok → Res (List Fn)
  | 0, _ => .err 0 0
  | _ + 1, [] => .err 0 0
  | f + 1, t :: ts => if t.k = .eof then .ok [] ts else match pFun (f + 1) (t :: ts) with
    | .err c a => .err c a
    | .ok fn r => consF fn (pProg f r)
theorem pFun_len {g : Nat} {ts : List Tok} {fn : Fn} {r : List Tok} (h : pFun g ts = .ok fn r) : r.length < ts.length := by
  match ts, h with
  | t :: u :: n :: o :: ts, h =>
    simp only [pFun] at h
    split at h
    · cases h
    split at h
    · cases h
    split at h
    · cases h
    split at h
    · cases h
    cases e : pP ts with
    | err c a => rw [e] at h; cases h
    | ok ns r1 =>
      rw [e] at h
      simp only [paramsR] at h
      have h1 := pP_len _ _ _ e
      cases e2 : pL g 1 1 r1 with
      | err c a => rw [e2] at h; cases h
      | ok es r2 =>
        rw [e2] at h
        have h2 := pL_len _ _ _ _ _ _ e2
        cases es with
        | nil => cases h
        | cons b l =>
          cases h
          simp
          omega
  | [t, u, n], h =>
    simp only [pFun] at h
    split at h
    · cases h
    split at h <;> cases h
  | [t, u], h =>
    simp only [pFun] at h
    split at h <;> cases h
  | [t], h => cases h
  | [], h => cases h
end Go.Proofs.YtdiefbahmcihlaaGreatDoor

/-
  What is wrong with names, functions and programs, as plain functions. No model in it.
-/
namespace Go.Proofs.YtdiefbahmcihlaaGreatDoor

/-- How many parameters the function of a name has. -/
def lookF (fs : List (List UInt8 × Nat)) (n : List UInt8) : Option Nat := (fs.find? fun x => x.1 == n).map (·.2)
/-- What is wrong with a call. -/
def callErr (fs : List (List UInt8 × Nat)) (n : List UInt8) (at_ c : Nat) : Option (Nat × Nat) :=
  match lookF fs n with
  | none => some (4, at_)
  | some k => if k = c then none else some (6, at_)
def orE (a b : Option (Nat × Nat)) : Option (Nat × Nat) := match a with | some x => some x | none => b
mutual
/-- The first error of names in an expr: which (4: ErrName, 6: ErrArity), and where. -/
def nmE (fs : List (List UInt8 × Nat)) (scope : List (List UInt8)) : Ex → Option (Nat × Nat)
  | .num _ => none
  | .txt _ => none
  | .var n a => if scope.contains n then none else some (4, a)
  | .form w n a ks =>
    if w == [99, 97, 108, 108] || w == [109, 97, 112] then orE (callErr fs n a ks.length) (nmEs fs scope ks)
    else if w == [108, 101, 116] then nmLet fs scope n ks
    else nmEs fs scope ks
def nmEs (fs : List (List UInt8 × Nat)) (scope : List (List UInt8)) : List Ex → Option (Nat × Nat)
  | [] => none
  | e :: es => orE (nmE fs scope e) (nmEs fs scope es)
def nmLet (fs : List (List UInt8 × Nat)) (scope : List (List UInt8)) (n : List UInt8) : List Ex → Option (Nat × Nat)
  | [] => none
  | x :: r => orE (nmE fs scope x) (nmEs fs (scope ++ [n]) r)
end
mutual
def szE : Ex → Nat
  | .num _ => 1
  | .txt _ => 1
  | .var _ _ => 1
  | .form _ _ _ ks => szEs ks + 1
def szEs : List Ex → Nat
  | [] => 0
  | e :: es => szE e + szEs es + 1
end
theorem szEs_at : ∀ (es : List Ex) (j : Nat) (hj : j < es.length), szE es[j] + 1 ≤ szEs es
  | [], j, hj => by simp at hj
  | e :: es, 0, _ => by rw [szEs]; simp
  | e :: es, j + 1, hj => by rw [szEs]; have := szEs_at es j (by simpa using hj); simp; omega
theorem szEs_len : ∀ (es : List Ex), es.length ≤ szEs es
  | [] => by simp
  | e :: es => by rw [szEs]; have := szEs_len es; simp; omega
theorem nmEs_drop (fs : List (List UInt8 × Nat)) (scope : List (List UInt8)) (es : List Ex) (j : Nat) (hj : j < es.length) : nmEs fs scope (es.drop j) = orE (nmE fs scope es[j]) (nmEs fs scope (es.drop (j + 1))) := by
  rw [List.drop_eq_getElem_cons hj, nmEs]
theorem orE_none (a : Option (Nat × Nat)) : orE a none = a := by cases a <;> rfl
theorem nmEs_one (fs : List (List UInt8 × Nat)) (sc : List (List UInt8)) (x : Ex) : nmEs fs sc [x] = nmE fs sc x := by rw [nmEs, nmEs, orE_none]
theorem nm_other {fs : List (List UInt8 × Nat)} {sc : List (List UInt8)} {wd n : List UInt8} {a : Nat} {ks : List Ex} (h1 : wd ≠ [99, 97, 108, 108]) (h2 : wd ≠ [109, 97, 112]) (h3 : wd ≠ [108, 101, 116]) : nmE fs sc (.form wd n a ks) = nmEs fs sc ks := by
  rw [nmE]
  simp [h1, h2, h3]
/-- The place of the first parameter that is there already. -/
def dupP (seen : List (List UInt8)) : List (List UInt8 × Nat) → Option Nat
  | [] => none
  | x :: r => if seen.contains x.1 then some x.2 else dupP (seen ++ [x.1]) r
/-- The first error of names in a function (5: ErrTwice). -/
def nmFn (fs : List (List UInt8 × Nat)) (fn : Fn) : Option (Nat × Nat) :=
  if (lookF fs fn.name).isSome then some (5, fn.at_)
  else match dupP [] fn.params with
    | some p => some (5, p)
    | none => nmE fs (fn.params.map (·.1)) fn.body
/-- A function's name and how many parameters it has. -/
def sigOf (fn : Fn) : List UInt8 × Nat := (fn.name, fn.params.length)
/-- The first error of names in functions, those of fs ahead of them. -/
def nmAll (fs : List (List UInt8 × Nat)) : List Fn → Option (Nat × Nat)
  | [] => none
  | fn :: r => match nmFn fs fn with
    | some e => some e
    | none => nmAll (fs ++ [sigOf fn]) r
def hasP (wd : List UInt8) (k : Nat) (fns : List Fn) : Bool := fns.any fun fn => fn.name == wd && fn.params.length == k
/-- The three functions are there. -/
def mainP (fns : List Fn) : Bool := hasP [105, 110, 105, 116] 0 fns && hasP [117, 112, 100, 97, 116, 101] 2 fns && hasP [118, 105, 101, 119] 1 fns
def codeT (c : Nat) : Nat := if c = 3 then 3 else 2
def codeN (c : Nat) : Nat := if c = 4 then 4 else if c = 6 then 6 else 5
/-- What is wrong with functions that were read, or with the reading; n: where the text ends. -/
def chk (n : Nat) : Res (List Fn) → Option (Nat × Nat)
  | .err c a => some (codeT c, a)
  | .ok fns _ => match nmAll [] fns with
    | some e => some (codeN e.1, e.2)
    | none => if mainP fns then none else some (7, n)
/-- What is wrong with a text of these tokens. -/
def answer (n : Nat) (ts : List Tok) : Option (Nat × Nat) := if 2000 < n then some (1, 0) else chk n (pProg (ts.length + 1) ts)
end Go.Proofs.YtdiefbahmcihlaaGreatDoor

/-
  Exprs as they are read: which forms have how many exprs; the names of a form's exprs, one after the other. Plain.
-/
namespace Go.Proofs.YtdiefbahmcihlaaGreatDoor

mutual
/-- Each form has as many exprs as its word asks for. -/
def WfE : Ex → Prop
  | .num _ => True
  | .txt _ => True
  | .var _ _ => True
  | .form w _ _ ks => (∃ b m, shapeL w = some (b, m) ∧ (0 ≤ m → (ks.length : Int) = m)) ∧ WfEs ks
def WfEs : List Ex → Prop
  | [] => True
  | e :: es => WfE e ∧ WfEs es
end
theorem pF_wf {L : Nat → Int → List Tok → Res (List Ex)} (hL : ∀ d m ts es r, L d m ts = .ok es r → (0 ≤ m → (es.length : Int) = m) ∧ WfEs es) {d : Nat} {ts : List Tok} {e : Ex} {r : List Tok} (h : pF L d ts = .ok e r) : WfE e := by
  cases ts with
  | nil => cases h
  | cons t ts =>
    simp only [pF] at h
    have hsh : ∀ x, shapeT t = some x → shapeL t.body = some x := by
      intro x hx
      unfold shapeT at hx
      split at hx
      · exact hx
      · cases hx
    split at h
    · cases h
    · rename_i n hn
      cases g : L d n ts with
      | err c a => rw [g] at h; cases h
      | ok ks r' =>
        rw [g] at h
        cases h
        obtain ⟨h1, h2⟩ := hL _ _ _ _ _ g
        rw [WfE]
        exact ⟨⟨_, _, hsh _ hn, h1⟩, h2⟩
    · rename_i n hn
      cases ts with
      | nil => cases h
      | cons u us =>
        simp only at h
        split at h
        · cases g : L d n us with
          | err c a => rw [g] at h; cases h
          | ok ks r' =>
            rw [g] at h
            cases h
            obtain ⟨h1, h2⟩ := hL _ _ _ _ _ g
            rw [WfE]
            exact ⟨⟨_, _, hsh _ hn, h1⟩, h2⟩
        · cases h
theorem pE_wf {L : Nat → Int → List Tok → Res (List Ex)} (hL : ∀ d m ts es r, L d m ts = .ok es r → (0 ≤ m → (es.length : Int) = m) ∧ WfEs es) {d : Nat} {ts : List Tok} {e : Ex} {r : List Tok} (h : pE L d ts = .ok e r) : WfE e := by
  cases ts with
  | nil => cases h
  | cons t ts =>
    simp only [pE] at h
    split at h
    · cases h; rw [WfE]; trivial
    · cases h; rw [WfE]; trivial
    · split at h
      · cases h
      · cases h; rw [WfE]; trivial
    · split at h
      · cases h
      · exact pF_wf hL h
    · cases h
theorem pL_wf : ∀ (f d : Nat) (m : Int) (ts : List Tok) (es : List Ex) (r : List Tok), pL f d m ts = .ok es r → (0 ≤ m → (es.length : Int) = m) ∧ WfEs es
  | 0, _, _, _, _, _, h => by cases h
  | f + 1, _, _, [], _, _, h => by cases h
  | f + 1, d, m, t :: ts, es, r, h => by
    simp only [pL] at h
    split at h
    · rename_i hc
      split at h
      · cases h
        refine ⟨fun h0 => ?_, by rw [WfEs]; trivial⟩
        rcases hc with hc | hc
        · simp [hc]
        · omega
      · cases h
    · cases g : pE (pL f) d (t :: ts) with
      | err c a => rw [g] at h; cases h
      | ok e r' =>
        rw [g] at h
        have h1 := pE_wf (fun d m ts es r => pL_wf f d m ts es r) g
        cases g2 : pL f d (if m < 0 then m else m - 1) r' with
        | err c a => simp only [g2, consR] at h; cases h
        | ok es' r'' =>
          simp only [g2, consR] at h
          cases h
          obtain ⟨h2, h3⟩ := pL_wf f _ _ _ _ _ g2
          refine ⟨fun h0 => ?_, by rw [WfEs]; exact ⟨h1, h3⟩⟩
          have : ¬ m < 0 := by omega
          rw [if_neg this] at h2
          rename_i hnc
          have hm0 : ¬ m = 0 := fun e => hnc (Or.inl e)
          have := h2 (by omega)
          simp; omega
theorem pFun_wf {G : Nat} {ts : List Tok} {fn : Fn} {r : List Tok} (h : pFun G ts = .ok fn r) : WfE fn.body := by
  match ts, h with
  | t :: u :: n :: o :: ts, h =>
    simp only [pFun] at h
    split at h
    · cases h
    split at h
    · cases h
    split at h
    · cases h
    split at h
    · cases h
    cases e : pP ts with
    | err c a => rw [e] at h; cases h
    | ok ns r1 =>
      rw [e] at h
      simp only [paramsR] at h
      cases e2 : pL G 1 1 r1 with
      | err c a => rw [e2] at h; cases h
      | ok es r2 =>
        rw [e2] at h
        have h2 := (pL_wf _ _ _ _ _ _ e2).2
        cases es with
        | nil => cases h
        | cons b l =>
          cases h
          rw [WfEs] at h2
          exact h2.1
  | [t, u, n], h =>
    simp only [pFun] at h
    split at h
    · cases h
    split at h <;> cases h
  | [t, u], h =>
    simp only [pFun] at h
    split at h <;> cases h
  | [t], h => cases h
  | [], h => cases h
/-- The names of a form's exprs from the i-th on. -/
def nmK (fs : List (List UInt8 × Nat)) (scope : List (List UInt8)) (wd n : List UInt8) : Nat → List Ex → Option (Nat × Nat)
  | _, [] => none
  | i, e :: es => orE (nmE fs (if (wd == [108, 101, 116] && i == 1) then scope ++ [n] else scope) e) (nmK fs scope wd n (i + 1) es)
theorem nmK_other {fs : List (List UInt8 × Nat)} {scope : List (List UInt8)} {wd n : List UInt8} (h : (wd == [108, 101, 116]) = false) : ∀ (i : Nat) (ks : List Ex), nmK fs scope wd n i ks = nmEs fs scope ks
  | _, [] => by rw [nmK, nmEs]
  | i, e :: es => by rw [nmK, nmEs, nmK_other h (i + 1) es, h]; simp
theorem nmE_form {fs : List (List UInt8 × Nat)} {scope : List (List UInt8)} {wd n : List UInt8} {a : Nat} {ks : List Ex} (hw : WfE (.form wd n a ks)) :
    nmE fs scope (.form wd n a ks) = if (wd == [99, 97, 108, 108] || wd == [109, 97, 112]) then orE (callErr fs n a ks.length) (nmK fs scope wd n 0 ks) else nmK fs scope wd n 0 ks := by
  rw [nmE]
  cases hl : wd == [108, 101, 116] with
  | false => rw [nmK_other hl]; simp
  | true =>
    have hwd : wd = [108, 101, 116] := by simpa using hl
    subst hwd
    rw [WfE] at hw
    obtain ⟨⟨b, m, h1, h2⟩, _⟩ := hw
    simp [shapeL] at h1
    obtain ⟨rfl, rfl⟩ := h1
    have h3 := h2 (by decide)
    match ks, h3 with
    | [x, y], _ => simp [nmLet, nmK, nmEs]
theorem nmK_drop (fs : List (List UInt8 × Nat)) (scope : List (List UInt8)) (wd n : List UInt8) (ks : List Ex) (i : Nat) (hi : i < ks.length) : nmK fs scope wd n i (ks.drop i) = orE (nmE fs (if (wd == [108, 101, 116] && i == 1) then scope ++ [n] else scope) ks[i]) (nmK fs scope wd n (i + 1) (ks.drop (i + 1))) := by
  rw [List.drop_eq_getElem_cons hi, nmK]
theorem WfEs_at : ∀ (es : List Ex) (j : Nat) (hj : j < es.length), WfEs es → WfE es[j]
  | [], j, hj, _ => by simp at hj
  | e :: es, 0, _, h => by rw [WfEs] at h; exact h.1
  | e :: es, j + 1, hj, h => by rw [WfEs] at h; exact WfEs_at es j (by simpa using hj) h.2
end Go.Proofs.YtdiefbahmcihlaaGreatDoor
