/- Plain texts of layer 8: runes, words with blanks between, numbers. No program is named here. -/
import Derived.Laws.RangeAny
import Derived.Lib.SplitLaws
import Derived.Test.YteelnimchlgdmaaDoorTexts
namespace Go.Proofs.YteelnimchlgdmaaDoor
set_option linter.unusedVariables false
set_option linter.unusedSimpArgs false

/-- A text's bytes. -/
def bl (s : ByteArray) : List UInt8 := s.data.toList
def ofL (l : List UInt8) : ByteArray := ⟨l.toArray⟩
theorem bl_ofL (l : List UInt8) : bl (ofL l) = l := by simp [bl, ofL]
theorem ofL_bl (s : ByteArray) : ofL (bl s) = s := by simp [bl, ofL]
theorem bl_len (s : ByteArray) : (bl s).length = s.size := rfl
theorem bl_inj {s t : ByteArray} (h : bl s = bl t) : s = t := by rw [← ofL_bl s, ← ofL_bl t, h]
theorem ofL_size (l : List UInt8) : (ofL l).size = l.length := by rw [← bl_len, bl_ofL]
theorem bl_at (s : ByteArray) (k : Nat) (h : k < s.size) : (bl s)[k]'(by rw [bl_len]; exact h) = s[k]'h := rfl
theorem bl_drop (s : ByteArray) (k : Nat) (h : k < s.size) : (bl s).drop k = s[k]'h :: (bl s).drop (k + 1) := by
  rw [List.drop_eq_getElem_cons (by rw [bl_len]; exact h)]; rfl
theorem bl_app (s t : ByteArray) : bl (s ++ t) = bl s ++ bl t := by simp [bl]
theorem bl_extract (s : ByteArray) (i j : Nat) : bl (s.extract i j) = ((bl s).take j).drop i := by
  simp [bl, List.drop_take]
def isLet (r : Nat) : Bool := (decide (97 ≤ r) && decide (r ≤ 122)) || (decide (945 ≤ r) && decide (r ≤ 969))
def isDig (r : Nat) : Bool := decide (48 ≤ r) && decide (r ≤ 57)
def may (r : Nat) : Bool := isLet r || isDig r || r == 45 || r == 44 || r == 32
/-- A predicate of runes that have two bytes at most. -/
def Few (p : Nat → Bool) : Prop := ∀ r, 2048 ≤ r → p r = false
theorem few_let : Few isLet := by intro r h; simp [isLet]; omega
theorem few_may : Few may := by intro r h; simp [may, isLet, isDig]; omega
def code (b c : UInt8) : Nat := b.toNat % 32 * 64 + c.toNat % 64
/-- Two bytes that are a rune. -/
def duo (b c : UInt8) : Bool := b.toNat / 32 == 6 && c.toNat / 64 == 2 && decide (128 ≤ code b c)
/-- Are they all runes of which p says yes? -/
def runs (p : Nat → Bool) : List UInt8 → Bool
  | [] => true
  | b :: r => if b.toNat < 128 then p b.toNat && runs p r else
    match r with
    | [] => false
    | c :: r' => duo b c && p (code b c) && runs p r'
/-- How many there are. -/
def many : List UInt8 → Nat
  | [] => 0
  | b :: r => if b.toNat < 128 then 1 + many r else
    match r with
    | [] => 1
    | c :: r' => 1 + many r'
theorem runs_low {p : Nat → Bool} {b : UInt8} (h : b.toNat < 128) (r : List UInt8) : runs p (b :: r) = (p b.toNat && runs p r) := by
  cases r <;> simp [runs, h]
theorem runs_high {p : Nat → Bool} {b : UInt8} (h : ¬ b.toNat < 128) (c : UInt8) (r : List UInt8) : runs p (b :: c :: r) = (duo b c && p (code b c) && runs p r) := by
  rw [runs, if_neg h]
theorem runs_last {p : Nat → Bool} {b : UInt8} (h : ¬ b.toNat < 128) : runs p [b] = false := by
  rw [runs, if_neg h]
theorem many_low {b : UInt8} (h : b.toNat < 128) (r : List UInt8) : many (b :: r) = 1 + many r := by
  cases r <;> simp [many, h]
theorem many_high {b : UInt8} (h : ¬ b.toNat < 128) (c : UInt8) (r : List UInt8) : many (b :: c :: r) = 1 + many r := by
  rw [many, if_neg h]
theorem get_bang (s : ByteArray) (k : Nat) (h : k < s.size) : s.get! k = s[k]'h := by
  simp [ByteArray.get!, getElem!_pos, h]; rfl
theorem decode_one {s : ByteArray} {k : Nat} (h : k < s.size) (ha : (s[k]'h).toNat < 128) : Utf8.decode s k = ((s[k]'h).toNat, 1) := decode_ascii s k h ha
/-- What is decoded where the byte at hand is a high one. -/
theorem decode_two {s : ByteArray} {k : Nat} (h : k < s.size) (ha : ¬ (s[k]'h).toNat < 128) :
    (∃ h' : k + 1 < s.size, duo (s[k]'h) (s[k + 1]'h') = true ∧ Utf8.decode s k = (code (s[k]'h) (s[k + 1]'h'), 2)) ∨
    ((∀ h' : k + 1 < s.size, duo (s[k]'h) (s[k + 1]'h') = false) ∧ 2048 ≤ (Utf8.decode s k).1) := by
  have e0 : s.get! (k + 0) = s[k]'h := get_bang s k h
  by_cases h1 : k + 1 < s.size
  · have e1 := get_bang s (k + 1) h1
    by_cases hd : duo (s[k]'h) (s[k + 1]'h1) = true
    · refine Or.inl ⟨h1, hd, ?_⟩
      simp only [duo, code, Bool.and_eq_true, beq_iff_eq, decide_eq_true_eq] at hd
      obtain ⟨⟨d1, d2⟩, d3⟩ := hd
      have d3' := of_decide_eq_true d3
      have e0' : s.get! k = s[k]'h := e0
      simp [Utf8.decode, e0', e1, ha, d1, h1, d2, code, d3']
    · refine Or.inr ⟨fun _ => by simpa using hd, ?_⟩
      simp only [duo, code, Bool.and_eq_true, beq_iff_eq, decide_eq_true_eq] at hd
      simp only [Utf8.decode, e0, e1]
      simp only [ha, if_false]
      repeat' split
      all_goals simp_all [Utf8.runeError]
      all_goals omega
  · refine Or.inr ⟨fun h' => absurd h' h1, ?_⟩
    simp only [Utf8.decode, e0]
    simp only [ha, if_false]
    have hc : ¬ s.size > k + 1 := h1
    repeat' split
    all_goals simp_all [Utf8.runeError]
    all_goals omega
/-- One rune that is right. -/
theorem runs_yes {p : Nat → Bool} (hp : Few p) {s : ByteArray} {k : Nat} (h : k < s.size) (hy : p (Utf8.decode s k).1 = true) :
    runs p ((bl s).drop k) = runs p ((bl s).drop (k + (Utf8.decode s k).2)) ∧ many ((bl s).drop k) = 1 + many ((bl s).drop (k + (Utf8.decode s k).2)) ∧ k < k + (Utf8.decode s k).2 ∧ k + (Utf8.decode s k).2 ≤ s.size := by
  rw [bl_drop s k h]
  by_cases ha : (s[k]'h).toNat < 128
  · rw [decode_one h ha] at hy ⊢
    rw [runs_low ha, many_low ha, hy, Bool.true_and]
    exact ⟨rfl, rfl, by omega, by omega⟩
  · rcases decode_two h ha with ⟨h1, d, e⟩ | ⟨d, e⟩
    · rw [e] at hy ⊢
      rw [bl_drop s (k + 1) h1]
      rw [runs_high ha, many_high ha, d, hy, Bool.true_and, Bool.true_and]
      exact ⟨rfl, rfl, by omega, by omega⟩
    · rw [hp _ e] at hy; cases hy
/-- One that is not. -/
theorem runs_no {p : Nat → Bool} (hp : Few p) {s : ByteArray} {k : Nat} (h : k < s.size) (hy : p (Utf8.decode s k).1 = false) : runs p ((bl s).drop k) = false := by
  rw [bl_drop s k h]
  by_cases ha : (s[k]'h).toNat < 128
  · rw [decode_one h ha] at hy
    rw [runs_low ha, hy, Bool.false_and]
  · rcases decode_two h ha with ⟨h1, d, e⟩ | ⟨d, e⟩
    · rw [e] at hy
      rw [bl_drop s (k + 1) h1]
      rw [runs_high ha, hy, Bool.and_false, Bool.false_and]
    · by_cases h1 : k + 1 < s.size
      · rw [bl_drop s (k + 1) h1]
        rw [runs_high ha, d h1, Bool.false_and, Bool.false_and]
      · rw [show (bl s).drop (k + 1) = [] from List.drop_eq_nil_of_le (by rw [bl_len]; omega)]
        rw [runs_last ha]
/-- Texts of right runes behind one another. -/
theorem runs_app {p : Nat → Bool} : ∀ (n : Nat) (a b : List UInt8), a.length ≤ n → runs p a = true → runs p (a ++ b) = runs p b ∧ many (a ++ b) = many a + many b
  | 0, a, b, hn, _ => by
    obtain rfl : a = [] := List.eq_nil_of_length_eq_zero (by omega)
    simp [many]
  | n + 1, [], b, _, _ => by simp [many]
  | n + 1, x :: a, b, hn, h => by
    by_cases hx : x.toNat < 128
    · rw [runs_low hx, Bool.and_eq_true] at h
      obtain ⟨i1, i2⟩ := runs_app n a b (by simp at hn; omega) h.2
      rw [List.cons_append, runs_low hx, many_low hx, many_low hx, h.1, Bool.true_and, i1, i2]
      exact ⟨rfl, by omega⟩
    · cases a with
      | nil => rw [runs_last hx] at h; cases h
      | cons c a =>
        rw [runs_high hx, Bool.and_eq_true, Bool.and_eq_true] at h
        obtain ⟨i1, i2⟩ := runs_app n a b (by simp at hn; omega) h.2
        rw [List.cons_append, List.cons_append, runs_high hx, many_high hx, many_high hx, h.1.1, h.1.2, Bool.true_and, Bool.true_and, i1, i2]
        exact ⟨rfl, by omega⟩
/-- What stands on both sides of an ASCII byte. -/
theorem runs_cut {p : Nat → Bool} (x : UInt8) (hx : x.toNat < 128) : ∀ (n : Nat) (a b : List UInt8), a.length ≤ n → runs p (a ++ x :: b) = true → runs p a = true ∧ runs p b = true
  | 0, a, b, hn, h => by
    obtain rfl : a = [] := List.eq_nil_of_length_eq_zero (by omega)
    rw [List.nil_append, runs_low hx, Bool.and_eq_true] at h
    exact ⟨rfl, h.2⟩
  | n + 1, [], b, _, h => by
    rw [List.nil_append, runs_low hx, Bool.and_eq_true] at h
    exact ⟨rfl, h.2⟩
  | n + 1, y :: a, b, hn, h => by
    by_cases hy : y.toNat < 128
    · rw [List.cons_append, runs_low hy, Bool.and_eq_true] at h
      obtain ⟨i1, i2⟩ := runs_cut x hx n a b (by simp at hn; omega) h.2
      rw [runs_low hy, h.1, i1]
      exact ⟨rfl, i2⟩
    · cases a with
      | nil =>
        rw [List.cons_append, List.nil_append, runs_high hy] at h
        simp only [Bool.and_eq_true, duo, beq_iff_eq] at h
        have := h.1.1.1.2
        omega
      | cons c a =>
        rw [List.cons_append, List.cons_append, runs_high hy, Bool.and_eq_true, Bool.and_eq_true] at h
        obtain ⟨i1, i2⟩ := runs_cut x hx n a b (by simp at hn; omega) h.2
        rw [runs_high hy, h.1.1, h.1.2, i1]
        exact ⟨rfl, i2⟩
/-- Cut at every c. -/
def cutAt (c : UInt8) : List UInt8 → List (List UInt8)
  | [] => [[]]
  | b :: r => if b = c then [] :: cutAt c r else
    match cutAt c r with
    | [] => [[b]]
    | h :: t => (b :: h) :: t
def glue (p : List UInt8) : List (List UInt8) → List (List UInt8)
  | [] => [p]
  | h :: t => (p ++ h) :: t
theorem cutAt_ne (c : UInt8) : ∀ l, cutAt c l ≠ []
  | [] => by simp [cutAt]
  | b :: r => by
    unfold cutAt
    split
    · simp
    · split <;> simp
theorem cutAt_hit (c : UInt8) (r : List UInt8) : cutAt c (c :: r) = [] :: cutAt c r := by simp [cutAt]
theorem cutAt_miss {c b : UInt8} (h : b ≠ c) (r : List UInt8) : cutAt c (b :: r) = glue [b] (cutAt c r) := by
  rw [cutAt, if_neg h]
  cases cutAt c r <;> rfl
theorem glue_glue (p q : List UInt8) (L : List (List UInt8)) (h : L ≠ []) : glue p (glue q L) = glue (p ++ q) L := by
  cases L with
  | nil => exact absurd rfl h
  | cons a t => simp [glue]
theorem glue_nil (L : List (List UInt8)) (h : L ≠ []) : glue [] L = L := by
  cases L with
  | nil => exact absurd rfl h
  | cons a t => simp [glue]
/-- Words with one blank between. -/
def jn (c : UInt8) : List (List UInt8) → List UInt8
  | [] => []
  | [a] => a
  | a :: b :: r => a ++ c :: jn c (b :: r)
theorem jn_cons (c : UInt8) (a : List UInt8) (L : List (List UInt8)) (h : L ≠ []) : jn c (a :: L) = a ++ c :: jn c L := by
  cases L with
  | nil => exact absurd rfl h
  | cons b r => rfl
theorem jn_glue (c : UInt8) (p : List UInt8) (L : List (List UInt8)) (h : L ≠ []) : jn c (glue p L) = p ++ jn c L := by
  cases L with
  | nil => exact absurd rfl h
  | cons a t =>
    cases t with
    | nil => rfl
    | cons b r => simp [glue, jn]
/-- Cut, and joined. -/
theorem jn_cutAt (c : UInt8) : ∀ l, jn c (cutAt c l) = l
  | [] => rfl
  | b :: r => by
    by_cases h : b = c
    · subst h
      rw [cutAt_hit, jn_cons b [] _ (cutAt_ne b r), jn_cutAt b r]; rfl
    · rw [cutAt_miss h, jn_glue c _ _ (cutAt_ne c r), jn_cutAt c r]; rfl
theorem cutAt_free {c : UInt8} : ∀ {l : List UInt8}, c ∉ l → cutAt c l = [l]
  | [], _ => rfl
  | b :: r, h => by
    simp only [List.mem_cons, not_or] at h
    rw [cutAt_miss (fun e => h.1 e.symm), cutAt_free h.2]; rfl
theorem cutAt_app {c : UInt8} : ∀ {a : List UInt8}, c ∉ a → ∀ b, cutAt c (a ++ c :: b) = a :: cutAt c b
  | [], _, b => cutAt_hit c b
  | x :: a, h, b => by
    simp only [List.mem_cons, not_or] at h
    rw [List.cons_append, cutAt_miss (fun e => h.1 e.symm), cutAt_app h.2]; rfl
/-- Joined, and cut. -/
theorem cutAt_jn (c : UInt8) : ∀ (L : List (List UInt8)), L ≠ [] → (∀ a ∈ L, c ∉ a) → cutAt c (jn c L) = L
  | [], h, _ => absurd rfl h
  | [a], _, h => cutAt_free (h a (by simp))
  | a :: b :: r, _, h => by
    rw [jn, cutAt_app (h a (by simp)), cutAt_jn c (b :: r) (by simp) (fun x hx => h x (by simp [hx]))]
theorem cutAt_len (c : UInt8) : ∀ l, (cutAt c l).length = l.count c + 1
  | [] => rfl
  | b :: r => by
    by_cases h : b = c
    · subst h
      rw [cutAt_hit, List.length_cons, cutAt_len b r, List.count_cons_self]
    · rw [cutAt_miss h, List.count_cons_of_ne (by simpa using h)]
      have := cutAt_len c r
      cases hc : cutAt c r with
      | nil => exact absurd hc (cutAt_ne c r)
      | cons x t => rw [hc] at this; simpa [glue] using this
theorem jn_count (c : UInt8) : ∀ (L : List (List UInt8)), L ≠ [] → (jn c L).count c + 1 = (L.map (fun a => a.count c)).sum + L.length
  | [], h => absurd rfl h
  | [a], _ => by simp [jn]
  | a :: b :: r, _ => by
    have := jn_count c (b :: r) (by simp)
    simp only [jn, List.count_append, List.count_cons_self, List.map_cons, List.sum_cons, List.length_cons] at this ⊢
    omega
theorem le_sum_of (a : Nat) : ∀ (L : List Nat), a ∈ L → a ≤ L.sum
  | [], h => by simp at h
  | b :: L, h => by
    rcases List.mem_cons.1 h with rfl | h
    · simp
    · have := le_sum_of a L h; simp; omega
/-- As many words as were joined: none of them has a blank. -/
theorem jn_free (c : UInt8) (L : List (List UInt8)) (hL : L ≠ []) (h : (cutAt c (jn c L)).length = L.length) : ∀ a ∈ L, c ∉ a := by
  rw [cutAt_len, jn_count c L hL] at h
  have h0 : (L.map (fun a => a.count c)).sum = 0 := by omega
  intro a ha
  have : a.count c ≤ (L.map (fun a => a.count c)).sum := le_sum_of _ _ (List.mem_map.2 ⟨a, ha, rfl⟩)
  exact List.count_eq_zero.1 (by omega)
/-- The library's way of cutting. -/
theorem splitK_one (c : UInt8) : ∀ (n : Nat) (s : List UInt8), s.count c = n → Lib.splitK [c] 0 n s = cutAt c s
  | 0, s, h => by
    rw [cutAt_free (List.count_eq_zero.1 h)]; rfl
  | n + 1, s, h => by
    induction s with
    | nil => simp at h
    | cons b r ih =>
      by_cases e : b = c
      · subst e
        have hix : Lib.index (b :: r) [b] = ((0 : Nat) : Int) := by rw [Lib.index]; simp [List.isPrefixOf]
        rw [cutAt_hit, Lib.splitK, hix, if_neg (by simp)]
        simp only [Int.toNat_natCast, Nat.zero_add, List.length_singleton, List.drop_succ_cons, List.drop_zero, Nat.add_zero, List.take_zero]
        rw [List.count_cons_self] at h
        rw [splitK_one b n r (by omega)]
      · rw [List.count_cons_of_ne (by simpa using e)] at h
        have ih := ih h
        rw [cutAt_miss e, ← ih]
        have hp : ([c] : List UInt8).isPrefixOf (b :: r) = false := by simp [List.isPrefixOf, Ne.symm e]
        have hix : Lib.index (b :: r) [c] = if Lib.index r [c] == -1 then -1 else Lib.index r [c] + 1 := by rw [Lib.index, hp]; simp
        by_cases hm : Lib.index r [c] = -1
        · have : Lib.count r [c] = 0 := Lib.count_miss hm
          rw [Lib.count_one] at this
          omega
        · have hge := Lib.index_ge r [c]
          obtain ⟨j, hj⟩ : ∃ j : Nat, Lib.index r [c] = j := ⟨(Lib.index r [c]).toNat, by omega⟩
          have hix' : Lib.index (b :: r) [c] = ((j + 1 : Nat) : Int) := by rw [hix, if_neg (fun e => hm (beq_iff_eq.1 e)), hj]; omega
          rw [Lib.splitK, Lib.splitK, hix', hj, if_neg (by simp; omega), if_neg (by simp)]
          simp [glue]
/-- The texts that s has between its c's. -/
def parts (c : UInt8) (s : ByteArray) : List ByteArray := (cutAt c (bl s)).map ofL
theorem split_parts (c : UInt8) (s : ByteArray) : Lib.splitB ⟨#[c]⟩ 0 (Lib.countB s ⟨#[c]⟩) s = parts c s := by
  have h := Lib.splitB_data ⟨#[c]⟩ 0 (Lib.countB s ⟨#[c]⟩) s
  have hc : Lib.countB s ⟨#[c]⟩ = (bl s).count c := Lib.count_one c s.data.toList
  rw [show (⟨#[c]⟩ : ByteArray).data.toList = [c] from rfl, hc, splitK_one c ((bl s).count c) s.data.toList rfl] at h
  have h2 := congrArg (List.map ofL) h
  rw [List.map_map] at h2
  rw [show (ofL ∘ fun x : ByteArray => x.data.toList) = id from funext fun x => ofL_bl x, List.map_id] at h2
  rw [hc]; exact h2
theorem parts_len (c : UInt8) (s : ByteArray) : (parts c s).length = Lib.countB s ⟨#[c]⟩ + 1 := by
  rw [parts, List.length_map, cutAt_len]
  congr 1
  exact (Lib.count_one c s.data.toList).symm
theorem parts_size (c : UInt8) (s : ByteArray) : (parts c s).length ≤ s.size + 1 ∧ ∀ x ∈ parts c s, x.size ≤ s.size := by
  constructor
  · rw [parts, List.length_map, cutAt_len]
    have : (bl s).count c ≤ (bl s).length := List.count_le_length
    rw [bl_len] at this; omega
  · intro x hx
    obtain ⟨l, hl, rfl⟩ := List.mem_map.1 hx
    rw [ofL_size, ← bl_len]
    have key : ∀ (m : List UInt8), ∀ l ∈ cutAt c m, l.length ≤ m.length := by
      intro m
      induction m with
      | nil => intro l hl; simp [cutAt] at hl; subst hl; simp
      | cons b r ih =>
        intro l hl
        by_cases e : b = c
        · subst e
          rw [cutAt_hit] at hl
          rcases List.mem_cons.1 hl with rfl | hl
          · simp
          · have := ih l hl; simp; omega
        · rw [cutAt_miss e] at hl
          cases hc : cutAt c r with
          | nil => exact absurd hc (cutAt_ne c r)
          | cons x t =>
            rw [hc] at hl ih
            simp only [glue, List.mem_cons] at hl
            rcases hl with rfl | hl
            · have := ih x (by simp); simp; omega
            · have := ih l (by simp [hl]); simp; omega
    exact key _ l hl
/-- Is a text without bytes among them? -/
def hole (L : List ByteArray) : Bool := L.any fun x => x.size == 0
/-- What Words answers. -/
def wordsE (s : ByteArray) : Int :=
  if 200 < s.size then 41 else if runs may (bl s) = false then 80 else if hole (parts 32 s) = true then 81 else if 16 < (parts 32 s).length then 82 else 0
def wordsL (s : ByteArray) : List ByteArray := if wordsE s = 0 then parts 32 s else []
def joinB (L : List ByteArray) : ByteArray := ofL (jn 32 (L.map bl))
/-- The digits of a number's text. -/
def isNeg (s : ByteArray) : Bool := s.size != 0 && bt s 0 == 45
def body (s : ByteArray) : ByteArray := if isNeg s = true then s.extract 1 s.size else s
/-- Is it a number that may be? -/
def NumT (s : ByteArray) : Prop := Txt (body s) ∧ num (body s) ≤ 1000000000 ∧ (isNeg s = true → bt (body s) 0 ≠ 48)
def numV (s : ByteArray) : Int := if isNeg s = true then -(num (body s) : Int) else num (body s)
end Go.Proofs.YteelnimchlgdmaaDoor
