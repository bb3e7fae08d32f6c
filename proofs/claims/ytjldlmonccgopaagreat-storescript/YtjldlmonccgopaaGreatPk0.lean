/- RcMath, Texts, DMath. -/
/- Records in plain bytes: what they are encoded as, and that bytes begin with one record at most. No program is named here. -/
namespace Go.Proofs.YtjldlmonccgopaaGreat.Rc
set_option linter.unusedVariables false
set_option linter.unusedSimpArgs false

/-- Byte k; 0 behind the end. -/
def bt (s : ByteArray) (k : Nat) : Nat := if h : k < s.size then (s[k]'h).toNat else 0
theorem bt_at (s : ByteArray) (k : Nat) (h : k < s.size) : (s[k]'h).toNat = bt s k := by simp [bt, h]
theorem bt_lt (s : ByteArray) (k : Nat) : bt s k < 256 := by
  unfold bt; split
  · exact UInt8.toNat_lt _
  · omega
abbrev Bs := List UInt8
def Bs.of (s : ByteArray) : Bs := s.data.toList
def Bs.str (l : Bs) : ByteArray := ⟨l.toArray⟩
theorem of_str (l : Bs) : Bs.of (Bs.str l) = l := by simp [Bs.of, Bs.str]
theorem str_of (s : ByteArray) : Bs.str (Bs.of s) = s := by cases s; simp [Bs.of, Bs.str]
theorem of_len (s : ByteArray) : (Bs.of s).length = s.size := rfl
theorem str_size (l : Bs) : (Bs.str l).size = l.length := by simp [Bs.str, ByteArray.size]
theorem of_inj {s t : ByteArray} (h : Bs.of s = Bs.of t) : s = t := by rw [← str_of s, ← str_of t, h]
theorem of_at (s : ByteArray) (k : Nat) (h : k < s.size) : ((Bs.of s)[k]'(by rw [of_len]; exact h)).toNat = bt s k := by
  rw [← bt_at s k h]; rfl
/-- The next byte. -/
theorem drop_at (s : ByteArray) (k : Nat) (h : k < s.size) : ∃ x : UInt8, x.toNat = bt s k ∧ (Bs.of s).drop k = x :: (Bs.of s).drop (k + 1) :=
  ⟨_, of_at s k h, List.drop_eq_getElem_cons (by rw [of_len]; exact h)⟩
theorem drop_end (s : ByteArray) (k : Nat) (h : s.size ≤ k) : (Bs.of s).drop k = [] := List.drop_eq_nil_of_le (by rw [of_len]; exact h)

/-- A number in groups of seven bits. -/
def grp (z : Nat) : Bs := if h : z < 128 then [UInt8.ofNat z] else UInt8.ofNat (z % 128 + 128) :: grp (z / 128)
termination_by z
decreasing_by omega
theorem grp_lt {z : Nat} (h : z < 128) : grp z = [UInt8.ofNat z] := by rw [grp, dif_pos h]
theorem grp_ge {z : Nat} (h : 128 ≤ z) : grp z = UInt8.ofNat (z % 128 + 128) :: grp (z / 128) := by rw [grp, dif_neg (by omega)]
theorem u8n {n : Nat} (h : n < 256) : (UInt8.ofNat n).toNat = n := by rw [UInt8.toNat_ofNat']; omega
theorem u8_inj {a b : Nat} (ha : a < 256) (hb : b < 256) (h : UInt8.ofNat a = UInt8.ofNat b) : a = b := by
  rw [← u8n ha, ← u8n hb, h]
theorem u8_of (x : UInt8) : UInt8.ofNat x.toNat = x := by simp
theorem grp_pos (z : Nat) : 1 ≤ (grp z).length := by
  by_cases h : z < 128
  · rw [grp_lt h]; simp
  · rw [grp_ge (by omega)]; simp
theorem grp_pre (z : Nat) : ∀ (y : Nat) (a b : Bs), grp z ++ a = grp y ++ b → z = y ∧ a = b := by
  induction z using Nat.strongRecOn with
  | _ z ih =>
    intro y a b h
    by_cases hz : z < 128 <;> by_cases hy : y < 128
    · rw [grp_lt hz, grp_lt hy] at h
      simp only [List.cons_append, List.nil_append, List.cons.injEq] at h
      exact ⟨u8_inj (by omega) (by omega) h.1, h.2⟩
    · rw [grp_lt hz, grp_ge (by omega)] at h
      simp only [List.cons_append, List.nil_append, List.cons.injEq] at h
      have := u8_inj (by omega) (by omega) h.1
      omega
    · rw [grp_ge (by omega), grp_lt hy] at h
      simp only [List.cons_append, List.nil_append, List.cons.injEq] at h
      have := u8_inj (by omega) (by omega) h.1
      omega
    · rw [grp_ge (z := z) (by omega), grp_ge (z := y) (by omega)] at h
      simp only [List.cons_append, List.cons.injEq] at h
      have h1 := u8_inj (by omega) (by omega) h.1
      obtain ⟨h2, h3⟩ := ih (z / 128) (by omega) (y / 128) a b h.2
      exact ⟨by omega, h3⟩
/-- What groups are worth. -/
def val : Bs → Nat
  | [] => 0
  | x :: r => x.toNat % 128 + 128 * val r
theorem val_lt : ∀ l : Bs, val l < 128 ^ l.length
  | [] => by simp [val]
  | x :: r => by
    have := val_lt r
    simp only [val, List.length_cons, Nat.pow_succ]
    have : x.toNat % 128 < 128 := Nat.mod_lt _ (by omega)
    omega
theorem val_snoc : ∀ (l : Bs) (x : UInt8), val (l ++ [x]) = val l + (x.toNat % 128) * 128 ^ l.length
  | [], x => by simp [val]
  | y :: r, x => by
    have := val_snoc r x
    simp only [List.cons_append, val, this, List.length_cons, Nat.pow_succ]
    rw [Nat.mul_add, ← Nat.add_assoc]
    congr 1
    rw [Nat.mul_comm 128, Nat.mul_assoc]
/-- All bytes say that another group follows. -/
def Big (l : Bs) : Prop := ∀ x ∈ l, 128 ≤ x.toNat
/-- Groups that are as few as can be are their worth's. -/
theorem grp_val : ∀ (l : Bs) (x : UInt8), Big l → x.toNat < 128 → (l = [] ∨ 0 < x.toNat) → grp (val (l ++ [x])) = l ++ [x]
  | [], x, _, hx, _ => by
    simp only [List.nil_append, val, Nat.mul_zero, Nat.add_zero]
    rw [Nat.mod_eq_of_lt hx, grp_lt hx, u8_of]
  | y :: r, x, hb, hx, h0 => by
    have hy := hb y (by simp)
    have hy2 := UInt8.toNat_lt y
    have hx0 : 0 < x.toNat := by rcases h0 with h0 | h0; (· simp at h0); exact h0
    have ih := grp_val r x (fun z hz => hb z (by simp [hz])) hx (Or.inr hx0)
    have hpos : 1 ≤ val (r ++ [x]) := by
      rw [val_snoc]
      have : 1 ≤ x.toNat % 128 * 128 ^ r.length := Nat.le_trans (by rw [Nat.mod_eq_of_lt hx]; exact hx0) (Nat.le_mul_of_pos_right _ (Nat.pow_pos (by omega)))
      omega
    simp only [List.cons_append, val]
    rw [grp_ge (by omega), show (y.toNat % 128 + 128 * val (r ++ [x])) / 128 = val (r ++ [x]) by omega, ih]
    congr 1
    rw [show (y.toNat % 128 + 128 * val (r ++ [x])) % 128 + 128 = y.toNat by omega, u8_of]
/-- A number's groups: all but the last say that another follows. -/
theorem grp_form (z : Nat) : ∃ (l : Bs) (x : UInt8), grp z = l ++ [x] ∧ Big l ∧ x.toNat < 128 ∧ (l = [] ∨ 0 < x.toNat) ∧ val (grp z) = z := by
  induction z using Nat.strongRecOn with
  | _ z ih =>
    by_cases hz : z < 128
    · refine ⟨[], UInt8.ofNat z, by rw [grp_lt hz]; rfl, by simp [Big], by rw [u8n (by omega)]; exact hz, Or.inl rfl, ?_⟩
      rw [grp_lt hz]; simp only [val]; rw [u8n (by omega)]; omega
    · obtain ⟨l, x, h1, h2, h3, h4, h5⟩ := ih (z / 128) (by omega)
      refine ⟨UInt8.ofNat (z % 128 + 128) :: l, x, by rw [grp_ge (by omega), h1]; rfl, ?_, h3, Or.inr ?_, ?_⟩
      · intro y hy
        rcases List.mem_cons.1 hy with rfl | hy
        · rw [u8n (by omega)]; omega
        · exact h2 y hy
      · rcases h4 with rfl | h4
        · rw [h1] at h5
          simp only [List.nil_append, val] at h5
          omega
        · exact h4
      · rw [grp_ge (by omega)]; simp only [val]; rw [h5, u8n (by omega)]; omega
/-- Big bytes ahead are the number's own. -/
theorem big_pre {B : Bs} : ∀ {l r r' : Bs} {x : UInt8}, Big B → x.toNat < 128 → B ++ r = l ++ (x :: r') → ∃ l2, l = B ++ l2 ∧ r = l2 ++ (x :: r') := by
  induction B with
  | nil => intro l r r' x _ _ h; exact ⟨l, rfl, by simpa using h⟩
  | cons y B ih =>
    intro l r r' x hb hx h
    cases l with
    | nil =>
      simp only [List.cons_append, List.nil_append, List.cons.injEq] at h
      have := hb y (by simp)
      rw [h.1] at this; omega
    | cons z l =>
      simp only [List.cons_append, List.cons.injEq] at h
      obtain ⟨l2, h1, h2⟩ := ih (fun q hq => hb q (by simp [hq])) hx h.2
      exact ⟨l2, by rw [h.1, h1]; rfl, h2⟩
theorem val_app (a b : Bs) : val (a ++ b) = val a + 128 ^ a.length * val b := by
  induction a with
  | nil => simp [val]
  | cons x r ih =>
    simp only [List.cons_append, val, ih, List.length_cons, Nat.pow_succ]
    rw [Nat.mul_add, ← Nat.add_assoc, Nat.mul_comm (128 ^ r.length) 128, Nat.mul_assoc]
/-- Once bytes are seen that all say that more follow, the next group counts. -/
theorem grp_next {B R : Bs} {c : UInt8} {z : Nat} {r : Bs} (hB : Big B) (h : B ++ c :: R = grp z ++ r) : val B + (c.toNat % 128) * 128 ^ B.length ≤ z ∧ (c.toNat < 128 → z = val (B ++ [c]) ∧ R = r ∧ (B = [] ∨ 0 < c.toNat)) := by
  obtain ⟨l, x, h1, h2, h3, h4, h5⟩ := grp_form z
  rw [h1, List.append_assoc] at h
  obtain ⟨l2, e1, e2⟩ := big_pre hB h3 h
  cases l2 with
  | nil =>
    simp only [List.nil_append, List.cons.injEq] at e2
    rw [List.append_nil] at e1
    subst e1
    obtain ⟨rfl, rfl⟩ := e2
    rw [h1] at h5
    refine ⟨by rw [← val_snoc, h5]; exact Nat.le_refl _, fun _ => ⟨h5.symm, rfl, h4⟩⟩
  | cons y l2 =>
    simp only [List.cons_append, List.cons.injEq] at e2
    obtain ⟨rfl, e2⟩ := e2
    refine ⟨?_, fun hc => ?_⟩
    · rw [← h5, h1, e1, List.append_assoc, val_app B, List.cons_append]
      simp only [val]
      rw [Nat.mul_comm _ (128 ^ B.length)]
      exact Nat.add_le_add_left (Nat.mul_le_mul_left _ (by omega)) _
    · have := h2 c (by rw [e1]; simp)
      omega
theorem grp_more {B : Bs} {z : Nat} {r : Bs} (hB : Big B) (h : B = grp z ++ r) : False := by
  obtain ⟨l, x, h1, h2, h3, h4, h5⟩ := grp_form z
  have := hB x (by rw [h, h1]; simp)
  omega
theorem grp_of {B : Bs} {c : UInt8} (hB : Big B) (hc : c.toNat < 128) (h0 : B = [] ∨ 0 < c.toNat) : grp (val (B ++ [c])) = B ++ [c] := grp_val B c hB hc h0

/-- Numbers near 0, on both sides, have few groups. -/
def zz (n : Int) : Nat := if 0 ≤ n then (2 * n).toNat else (-2 * n - 1).toNat
def unz (z : Nat) : Int := if z % 2 = 0 then (z / 2 : Nat) else -((z / 2 : Nat) : Int) - 1
def I64 (n : Int) : Prop := -9223372036854775808 ≤ n ∧ n < 9223372036854775808
theorem unz_zz (n : Int) : unz (zz n) = n := by
  unfold unz zz
  split <;> split <;> omega
theorem zz_unz (z : Nat) : zz (unz z) = z := by
  unfold unz zz
  split <;> split <;> omega
theorem zz_lt {n : Int} (h : I64 n) : zz n < 18446744073709551616 := by unfold zz I64 at *; split <;> omega
theorem unz_i64 {z : Nat} (h : z < 18446744073709551616) : I64 (unz z) := by unfold unz I64; split <;> omega

/-- n in k bytes, the highest first. -/
def cnt (k n : Nat) : Bs := (List.range k).map fun i => UInt8.ofNat (n / 256 ^ (k - 1 - i))
theorem cnt_len (k n : Nat) : (cnt k n).length = k := by simp [cnt]
theorem cnt1 (n : Nat) : cnt 1 n = [UInt8.ofNat n] := by simp [cnt]
theorem cnt2 (n : Nat) : cnt 2 n = [UInt8.ofNat (n / 256), UInt8.ofNat n] := by simp [cnt, List.range, List.range.loop]
def gs : List Int → Bs
  | [] => []
  | n :: r => grp (zz n) ++ gs r
theorem gs_snoc (L : List Int) (n : Int) : gs (L ++ [n]) = gs L ++ grp (zz n) := by
  induction L with
  | nil => simp [gs]
  | cons x r ih => simp [gs, ih]
theorem gs_app (L M : List Int) : gs (L ++ M) = gs L ++ gs M := by
  induction L with
  | nil => simp [gs]
  | cons x r ih => simp [gs, ih]
theorem gs_pre : ∀ (L M : List Int) (a b : Bs), L.length = M.length → gs L ++ a = gs M ++ b → L = M ∧ a = b
  | [], [], a, b, _, h => ⟨rfl, by simpa [gs] using h⟩
  | [], y :: M, _, _, hl, _ => by simp at hl
  | x :: L, [], _, _, hl, _ => by simp at hl
  | x :: L, y :: M, a, b, hl, h => by
    simp only [gs, List.append_assoc] at h
    obtain ⟨h1, h2⟩ := grp_pre _ _ _ _ h
    obtain ⟨h3, h4⟩ := gs_pre L M a b (by simpa using hl) h2
    exact ⟨by rw [h3, ← unz_zz x, h1, unz_zz], h4⟩
/-- A text behind its count. -/
def tx (k : Nat) (t : Bs) : Bs := cnt k t.length ++ t
theorem tx_pre1 {t u a b : Bs} (ht : t.length < 256) (hu : u.length < 256) (h : tx 1 t ++ a = tx 1 u ++ b) : t = u ∧ a = b := by
  simp only [tx, cnt1, List.cons_append, List.nil_append, List.cons.injEq] at h
  have hl := u8_inj ht hu h.1
  exact List.append_inj h.2 hl
theorem tx_pre2 {t u a b : Bs} (ht : t.length < 65536) (hu : u.length < 65536) (h : tx 2 t ++ a = tx 2 u ++ b) : t = u ∧ a = b := by
  simp only [tx, cnt2, List.cons_append, List.nil_append, List.cons.injEq] at h
  obtain ⟨h1, h2, h3⟩ := h
  have e1 := u8_inj (by omega) (by omega) h1
  have e2 : t.length % 256 = u.length % 256 := by
    have := congrArg UInt8.toNat h2
    simpa [UInt8.toNat_ofNat'] using this
  exact List.append_inj h3 (by omega)
structure Rec where
  kind : Int
  who : ByteArray
  nums : List Int
  text : ByteArray
structure Good (r : Rec) : Prop where
  kind : 1 ≤ r.kind ∧ r.kind ≤ 255
  who : r.who.size ≤ 64
  nums : r.nums.length ≤ 64
  text : r.text.size ≤ 16384
  fit : ∀ n ∈ r.nums, I64 n
/-- The bytes of a record. -/
def enc (r : Rec) : Bs := UInt8.ofNat r.kind.toNat :: (tx 1 (Bs.of r.who) ++ (cnt 1 r.nums.length ++ (gs r.nums ++ tx 2 (Bs.of r.text))))
theorem enc_len (r : Rec) : 5 ≤ (enc r).length := by simp [enc, tx, cnt_len]; omega
theorem enc_pre {r q : Rec} {a b : Bs} (hr : Good r) (hq : Good q) (h : enc r ++ a = enc q ++ b) : r = q ∧ a = b := by
  simp only [enc, List.cons_append, List.append_assoc, List.cons.injEq] at h
  obtain ⟨h1, h2⟩ := h
  have k1 := hr.kind
  have k2 := hq.kind
  have e1 := u8_inj (by omega) (by omega) h1
  obtain ⟨e2, h3⟩ := tx_pre1 (by rw [of_len]; have := hr.who; omega) (by rw [of_len]; have := hq.who; omega) h2
  simp only [cnt1, List.cons_append, List.nil_append, List.cons.injEq] at h3
  have e3 := u8_inj (by have := hr.nums; omega) (by have := hq.nums; omega) h3.1
  obtain ⟨e4, h4⟩ := gs_pre _ _ _ _ e3 h3.2
  obtain ⟨e5, h5⟩ := tx_pre2 (by rw [of_len]; have := hr.text; omega) (by rw [of_len]; have := hq.text; omega) h4
  obtain ⟨rk, rw', rn, rt⟩ := r
  obtain ⟨qk, qw, qn, qt⟩ := q
  simp only at e1 e2 e4 e5 k1 k2
  rw [of_inj e2, e4, of_inj e5, show rk = qk by omega]
  exact ⟨rfl, h5⟩
def encs : List Rec → Bs
  | [] => []
  | r :: l => enc r ++ encs l
theorem encs_app (L M : List Rec) : encs (L ++ M) = encs L ++ encs M := by
  induction L with
  | nil => simp [encs]
  | cons x r ih => simp [encs, ih]
theorem encs_snoc (L : List Rec) (r : Rec) : encs (L ++ [r]) = encs L ++ enc r := by rw [encs_app]; simp [encs]
/-- No record lies ahead. -/
def No (s : Bs) : Prop := ∀ r a, Good r → s ≠ enc r ++ a
theorem no_short {s : Bs} (h : s.length < 5) : No s := by
  intro r a _ e
  have := enc_len r
  rw [e, List.length_append] at h
  omega
/-- The records ahead in s are L, and take n bytes. -/
structure Dec (s : Bs) (L : List Rec) (n : Nat) : Prop where
  good : ∀ r ∈ L, Good r
  len : n = (encs L).length
  rest : ∃ a, s = encs L ++ a ∧ No a
theorem Dec.le {s : Bs} {L : List Rec} {n : Nat} (h : Dec s L n) : n ≤ s.length := by
  obtain ⟨a, e, _⟩ := h.rest
  rw [e, List.length_append, h.len]; omega
theorem Dec.take {s : Bs} {L : List Rec} {n : Nat} (h : Dec s L n) : s.take n = encs L := by
  obtain ⟨a, e, _⟩ := h.rest
  rw [e, h.len]; simp
theorem pre_uniq : ∀ (L M : List Rec) (a b : Bs), (∀ r ∈ L, Good r) → (∀ r ∈ M, Good r) → No a → No b → encs L ++ a = encs M ++ b → L = M ∧ a = b
  | [], [], a, b, _, _, _, _, h => ⟨rfl, by simpa [encs] using h⟩
  | [], y :: M, a, b, _, hM, na, _, h => by
    simp only [encs, List.nil_append, List.append_assoc] at h
    exact absurd h (na y _ (hM y (by simp)))
  | x :: L, [], a, b, hL, _, _, nb, h => by
    simp only [encs, List.nil_append, List.append_assoc] at h
    exact absurd h.symm (nb x _ (hL x (by simp)))
  | x :: L, y :: M, a, b, hL, hM, na, nb, h => by
    simp only [encs, List.append_assoc] at h
    obtain ⟨e1, e2⟩ := enc_pre (hL x (by simp)) (hM y (by simp)) h
    obtain ⟨e3, e4⟩ := pre_uniq L M a b (fun r hr => hL r (by simp [hr])) (fun r hr => hM r (by simp [hr])) na nb e2
    exact ⟨by rw [e1, e3], e4⟩
theorem Dec.uniq {s : Bs} {L M : List Rec} {n k : Nat} (h : Dec s L n) (h' : Dec s M k) : L = M ∧ n = k := by
  obtain ⟨a, e, na⟩ := h.rest
  obtain ⟨b, e', nb⟩ := h'.rest
  obtain ⟨e1, _⟩ := pre_uniq L M a b h.good h'.good na nb (e.symm.trans e')
  exact ⟨e1, by rw [h.len, h'.len, e1]⟩
theorem Dec.all {L : List Rec} (h : ∀ r ∈ L, Good r) : Dec (encs L) L (encs L).length := ⟨h, rfl, [], by simp, no_short (by simp)⟩
theorem Dec.joined {s t : Bs} {L M : List Rec} {n k : Nat} (h : Dec s L n) (h' : Dec t M k) : Dec (s.take n ++ t) (L ++ M) (n + k) := by
  obtain ⟨b, e, nb⟩ := h'.rest
  refine ⟨fun r hr => ?_, by rw [encs_app, List.length_append, h.len, h'.len], b, ?_, nb⟩
  · rcases List.mem_append.1 hr with hr | hr
    · exact h.good r hr
    · exact h'.good r hr
  · rw [h.take, encs_app, e, List.append_assoc]
theorem Dec.more {s : Bs} {L : List Rec} {n : Nat} (h : Dec s L n) (x : UInt8) : Dec (s.take n ++ [x]) L n :=
  ⟨h.good, h.len, [x], by rw [h.take], no_short (by simp)⟩
/-- Cut off anywhere, just those are told that are whole. -/
theorem Dec.cut {L : List Rec} (h : ∀ r ∈ L, Good r) (m k : Nat) (hm : m ≤ L.length) (h1 : (encs (L.take m)).length ≤ k) (h2 : m < L.length → k < (encs (L.take (m + 1))).length) : Dec ((encs L).take k) (L.take m) (encs (L.take m)).length := by
  have hL : encs L = encs (L.take m) ++ encs (L.drop m) := by rw [← encs_app, List.take_append_drop]
  refine ⟨fun r hr => h r (List.mem_of_mem_take hr), rfl, (encs (L.drop m)).take (k - (encs (L.take m)).length), ?_, ?_⟩
  · rw [hL, List.take_append, List.take_of_length_le h1]
  · by_cases hlt : m < L.length
    · have h2 := h2 hlt
      obtain ⟨q, hq⟩ : ∃ q, q = L[m] := ⟨_, rfl⟩
      have hd : L.drop m = q :: L.drop (m + 1) := by rw [hq]; exact List.drop_eq_getElem_cons hlt
      have ht : L.take (m + 1) = L.take m ++ [q] := by rw [hq, List.take_add_one]; simp [List.getElem?_eq_getElem hlt]
      have gq : Good q := h q (by rw [hq]; exact List.getElem_mem hlt)
      rw [ht, encs_snoc, List.length_append] at h2
      intro r a gr e
      rw [hd] at e
      simp only [encs] at e
      rw [List.take_append_of_le_length (by omega)] at e
      have e2 : enc q ++ [] = enc r ++ (a ++ (enc q).drop (k - (encs (L.take m)).length)) := by
        rw [← List.append_assoc, ← e, List.take_append_drop, List.append_nil]
      obtain ⟨_, e3⟩ := enc_pre gq gr e2
      have := congrArg List.length e3
      simp only [List.length_nil, List.length_append, List.length_drop] at this
      omega
    · rw [List.drop_eq_nil_of_le (by omega)]
      exact no_short (by simp [encs])
/-- What Encode says. -/
def encE (r : Rec) : Int := if r.kind < 1 ∨ 255 < r.kind then 1 else if 64 < r.who.size ∨ 64 < r.nums.length ∨ 16384 < r.text.size then 41 else 0
def encT (r : Rec) : ByteArray := if encE r = 0 then Bs.str (enc r) else ⟨#[]⟩
theorem encE_good {r : Rec} (hf : ∀ n ∈ r.nums, I64 n) : encE r = 0 ↔ Good r := by
  unfold encE
  constructor
  · intro h
    split at h
    · omega
    · split at h
      · omega
      · exact ⟨by omega, by omega, by omega, by omega, hf⟩
  · intro h
    have h1 := h.kind; have h2 := h.who; have h3 := h.nums; have h4 := h.text
    rw [if_neg (by omega), if_neg (by omega)]
end Go.Proofs.YtjldlmonccgopaaGreat.Rc
/- Plain texts: which bytes are a number's text, what it is worth, and that one number has one text. No program is named here. -/
namespace Go.Proofs.YtjldlmonccgopaaGreat

/-- Byte k; 0 behind the end. -/
def bt (s : ByteArray) (k : Nat) : Nat := if h : k < s.size then (s[k]'h).toNat else 0
theorem bt_at (s : ByteArray) (k : Nat) (h : k < s.size) : (s[k]'h).toNat = bt s k := by simp [bt, h]
theorem bt_lt (s : ByteArray) (k : Nat) : bt s k < 256 := by
  unfold bt; split
  · exact UInt8.toNat_lt _
  · omega
/-- The bytes are decimal digits, at least one, no nought ahead of others. -/
def Txt (s : ByteArray) : Prop := s.size ≠ 0 ∧ (1 < s.size → bt s 0 ≠ 48) ∧ ∀ k, k < s.size → 48 ≤ bt s k ∧ bt s k ≤ 57
/-- What the first k digits are worth. -/
def dv (s : ByteArray) : Nat → Nat
  | 0 => 0
  | k + 1 => dv s k * 10 + (bt s k - 48)
def num (s : ByteArray) : Nat := dv s s.size

theorem ext_bt {s t : ByteArray} (h : s.size = t.size) (he : ∀ k, k < s.size → bt s k = bt t k) : s = t := by
  apply ByteArray.ext
  apply Array.ext h
  intro k h1 h2
  have := he k h1
  rw [← bt_at s k h1, ← bt_at t k h2] at this
  exact UInt8.toNat_inj.1 this
theorem dv_lt {s : ByteArray} (n : Nat) (h : ∀ k, k < n → 48 ≤ bt s k ∧ bt s k ≤ 57) : dv s n < 10 ^ n := by
  induction n with
  | zero => simp [dv]
  | succ n ih =>
    have h1 := ih (fun k hk => h k (by omega))
    have h2 := h n (by omega)
    simp only [dv, Nat.pow_succ]; omega
theorem dv_ge {s : ByteArray} (n : Nat) (h0 : 1 ≤ bt s 0 - 48) : 10 ^ n ≤ dv s (n + 1) := by
  induction n with
  | zero => simp only [dv]; omega
  | succ n ih =>
    rw [dv, Nat.pow_succ]; omega
theorem dv_inj {s t : ByteArray} (n : Nat) (hs : ∀ k, k < n → 48 ≤ bt s k ∧ bt s k ≤ 57) (ht : ∀ k, k < n → 48 ≤ bt t k ∧ bt t k ≤ 57) (h : dv s n = dv t n) : ∀ k, k < n → bt s k = bt t k := by
  induction n with
  | zero => intro k hk; omega
  | succ n ih =>
    have a := hs n (by omega)
    have b := ht n (by omega)
    simp only [dv] at h
    intro k hk
    by_cases e : k = n
    · subst e; omega
    · exact ih (fun k hk => hs k (by omega)) (fun k hk => ht k (by omega)) (by omega) k (by omega)
theorem num_len {s t : ByteArray} (hs : Txt s) (ht : Txt t) (h : s.size < t.size) : num s < num t := by
  obtain ⟨s0, s1, s2⟩ := hs
  obtain ⟨t0, t1, t2⟩ := ht
  have h1 := dv_lt s.size s2
  have h2 : 10 ^ s.size ≤ 10 ^ (t.size - 1) := Nat.pow_le_pow_right (by omega) (by omega)
  have h3 := dv_ge (s := t) (t.size - 1) (by have := t1 (by omega); have := t2 0 (by omega); omega)
  rw [show t.size - 1 + 1 = t.size by omega] at h3
  unfold num
  omega
/-- One number has one text. -/
theorem num_inj {s t : ByteArray} (hs : Txt s) (ht : Txt t) (h : num s = num t) : s = t := by
  have hl : s.size = t.size := by
    rcases Nat.lt_trichotomy s.size t.size with h1 | h1 | h1
    · have := num_len hs ht h1; omega
    · exact h1
    · have := num_len ht hs h1; omega
  refine ext_bt hl ?_
  unfold num at h
  rw [← hl] at h
  exact dv_inj s.size hs.2.2 (fun k hk => ht.2.2 k (by omega)) h
theorem num_lt {s : ByteArray} (hs : Txt s) : num s < 10 ^ s.size := dv_lt s.size hs.2.2
theorem fit_pow (m k : Nat) (h : m < 9 * k) : 10 ^ m < 4294967296 ^ k := by
  have h1 : 10 ^ m < 10 ^ (9 * k) := Nat.pow_lt_pow_right (by omega) h
  have h2 : 10 ^ (9 * k) = (10 ^ 9) ^ k := Nat.pow_mul 10 9 k
  have h3 : (10 ^ 9) ^ k ≤ 4294967296 ^ k := Nat.pow_le_pow_left (by decide) k
  omega
end Go.Proofs.YtjldlmonccgopaaGreat
/- A disk in plain lists: what each call makes of it. -/
namespace Go.Proofs.YtjldlmonccgopaaGreat

structure Dsk where
  wr : List ByteArray
  la : List ByteArray
  ca : List Nat
  ops : Nat
  dead : Bool
  fl : Bool
  cg : Bool
  cl : Nat
  fg : Bool
  fk : Nat
  keep : Nat
/-- Bit k modulo 64 of keep. -/
def kbit (keep k : Nat) : Bool := keep >>> (k % 64) % 2 == 1
/-- What lasts when the power goes: the cached sectors from the k-th on. -/
def loseL (keep : Nat) (wr : List ByteArray) : List Nat → Nat → List ByteArray → List ByteArray
  | [], _, la => la
  | i :: is, k, la => loseL keep wr is (k + 1) (if kbit keep k then la.set i (wr.getD i ByteArray.empty) else la)
def Dsk.forget (D : Dsk) : Dsk := { D with cg := false, cl := 0, fg := false, fk := 0, keep := 0 }
def Dsk.lose (D : Dsk) (keep : Nat) : Dsk :=
  Dsk.forget { D with la := loseL keep D.wr D.ca 0 D.la, wr := loseL keep D.wr D.ca 0 D.la, ca := [], dead := true }
def Dsk.begin (D : Dsk) : Dsk × Int :=
  if D.dead then (D, 43) else if D.fl then (D, 42) else if D.cg && D.cl == 0 then (D.lose D.keep, 43) else if D.fg && D.fk == 0 then ({ D with fl := true }, 42)
  else ({ D with ops := D.ops + 1, cl := D.cl - 1, fk := D.fk - 1 }, 0)
def Dsk.put (D : Dsk) (i : Nat) (s : ByteArray) : Dsk := { D with wr := D.wr.set i s, ca := if i ∈ D.ca then D.ca else D.ca ++ [i] }
def Dsk.synced (D : Dsk) : Dsk := { D with la := D.wr, ca := [] }
def Dsk.write (D : Dsk) (i : Int) (s : ByteArray) : Dsk × Int :=
  if i < 0 ∨ 256 ≤ i then (D, 40) else if 256 < s.size then (D, 41) else if D.begin.2 = 0 then (D.begin.1.put i.toNat s, 0) else D.begin
def Dsk.sync (D : Dsk) : Dsk × Int := if D.begin.2 = 0 then (D.begin.1.synced, 0) else D.begin
def Dsk.crash (D : Dsk) (keep : Nat) : Dsk := if D.dead then D else D.lose keep
def Dsk.power (D : Dsk) : Dsk := Dsk.forget { D with dead := false, fl := false }
def Dsk.cut (D : Dsk) (n : Int) (keep : Nat) : Dsk := { D with cg := true, cl := n.toNat, keep := keep }
def Dsk.fail (D : Dsk) (n : Int) : Dsk := { D with fg := true, fk := n.toNat }
def Dsk.new : Dsk := ⟨List.replicate 256 ByteArray.empty, List.replicate 256 ByteArray.empty, [], 0, false, false, false, 0, false, 0, 0⟩
/-- What a disk's numbers keep to. -/
structure Dsk.Good (D : Dsk) : Prop where
  wl : D.wr.length = 256
  ll : D.la.length = 256
  nd : D.ca.Nodup
  lt : ∀ x ∈ D.ca, x < 256
  cl : D.cl < 9223372036854775808
  fk : D.fk < 9223372036854775808
  kp : D.keep < 18446744073709551616
  c0 : D.cg = false → D.cl = 0
  f0 : D.fg = false → D.fk = 0
theorem loseL_len (keep : Nat) (wr : List ByteArray) : ∀ (ca : List Nat) (k : Nat) (la : List ByteArray), (loseL keep wr ca k la).length = la.length
  | [], _, _ => rfl
  | i :: is, k, la => by
    simp only [loseL]
    rw [loseL_len keep wr is]
    split <;> simp
theorem loseL_snoc (keep : Nat) (wr : List ByteArray) (i : Nat) : ∀ (ca : List Nat) (k : Nat) (la : List ByteArray), loseL keep wr (ca ++ [i]) k la = if kbit keep (k + ca.length) then (loseL keep wr ca k la).set i (wr.getD i ByteArray.empty) else loseL keep wr ca k la
  | [], k, la => by simp [loseL]
  | j :: is, k, la => by
    simp only [List.cons_append, loseL, loseL_snoc keep wr i is, List.length_cons]
    rw [show k + 1 + is.length = k + (is.length + 1) by omega]
theorem nodup_small {l : List Nat} {n : Nat} (h : l.Nodup) (hl : ∀ x ∈ l, x < n) : l.length ≤ n := by
  induction n generalizing l with
  | zero =>
    cases l with
    | nil => simp
    | cons a t => exact absurd (hl a (by simp)) (by omega)
  | succ n ih =>
    have h2 := ih (l := l.erase n) (h.erase n) (fun x hx => by
      have h1 := (List.Nodup.mem_erase_iff h).1 hx
      have := hl x h1.2
      omega)
    rw [List.length_erase] at h2
    split at h2 <;> omega
theorem Dsk.Good.small {D : Dsk} (h : D.Good) : D.ca.length ≤ 256 := nodup_small h.nd h.lt
theorem Dsk.Good.lose {D : Dsk} (h : D.Good) (keep : Nat) : (D.lose keep).Good where
  wl := by simp [Dsk.lose, Dsk.forget, loseL_len, h.ll]
  ll := by simp [Dsk.lose, Dsk.forget, loseL_len, h.ll]
  nd := by simp [Dsk.lose, Dsk.forget]
  lt := by simp [Dsk.lose, Dsk.forget]
  cl := by simp [Dsk.lose, Dsk.forget]
  fk := by simp [Dsk.lose, Dsk.forget]
  kp := by simp [Dsk.lose, Dsk.forget]
  c0 := by simp [Dsk.lose, Dsk.forget]
  f0 := by simp [Dsk.lose, Dsk.forget]
theorem Dsk.Good.begin {D : Dsk} (h : D.Good) : D.begin.1.Good := by
  unfold Dsk.begin
  split
  · exact h
  · split
    · exact h
    · split
      · exact h.lose _
      · split
        · exact { h with }
        · exact { h with cl := by have := h.cl; simp; omega, fk := by have := h.fk; simp; omega, c0 := fun e => by simp [h.c0 e], f0 := fun e => by simp [h.f0 e] }
theorem Dsk.Good.put {D : Dsk} (h : D.Good) (i : Nat) (hi : i < 256) (s : ByteArray) : (D.put i s).Good :=
  { h with
    wl := by simp [Dsk.put, h.wl]
    nd := by
      simp only [Dsk.put]
      split
      · exact h.nd
      · rename_i hn
        rw [List.nodup_append]
        exact ⟨h.nd, by simp, fun a ha b hb => by simp at hb; subst hb; intro e; subst e; exact hn ha⟩
    lt := by
      intro x hx
      simp only [Dsk.put] at hx
      split at hx
      · exact h.lt x hx
      · rcases List.mem_append.1 hx with hx | hx
        · exact h.lt x hx
        · simp at hx; omega }
theorem Dsk.Good.synced {D : Dsk} (h : D.Good) : D.synced.Good := { h with ll := h.wl, nd := by simp [Dsk.synced], lt := by simp [Dsk.synced] }
theorem Dsk.Good.write {D : Dsk} (h : D.Good) (i : Int) (s : ByteArray) : (D.write i s).1.Good := by
  unfold Dsk.write
  split
  · exact h
  · split
    · exact h
    · split
      · exact h.begin.put _ (by omega) _
      · exact h.begin
theorem Dsk.Good.sync {D : Dsk} (h : D.Good) : D.sync.1.Good := by
  unfold Dsk.sync
  split
  · exact h.begin.synced
  · exact h.begin
theorem Dsk.Good.crash {D : Dsk} (h : D.Good) (keep : Nat) : (D.crash keep).Good := by
  unfold Dsk.crash
  split
  · exact h
  · exact h.lose keep
theorem Dsk.Good.forget {D : Dsk} (h : D.Good) : D.forget.Good := { h with cl := by simp [Dsk.forget], fk := by simp [Dsk.forget], kp := by simp [Dsk.forget], c0 := by simp [Dsk.forget], f0 := by simp [Dsk.forget] }
theorem Dsk.Good.power {D : Dsk} (h : D.Good) : D.power.Good := Dsk.Good.forget { h with }
theorem Dsk.Good.cut {D : Dsk} (h : D.Good) (n : Int) (keep : Nat) (hn : n < 9223372036854775808) (hk : keep < 18446744073709551616) : (D.cut n keep).Good := { h with cl := by simp only [Dsk.cut]; omega, kp := hk, c0 := by simp [Dsk.cut] }
theorem Dsk.Good.fail {D : Dsk} (h : D.Good) (n : Int) (hn : n < 9223372036854775808) : (D.fail n).Good := { h with fk := by simp only [Dsk.fail]; omega, f0 := by simp [Dsk.fail] }
theorem Dsk.good_new : Dsk.new.Good where
  wl := List.length_replicate
  ll := List.length_replicate
  nd := List.nodup_nil
  lt := fun x hx => absurd hx List.not_mem_nil
  cl := by show (0 : Nat) < _; omega
  fk := by show (0 : Nat) < _; omega
  kp := by show (0 : Nat) < _; omega
  c0 := fun _ => rfl
  f0 := fun _ => rfl
theorem Dsk.begin_ops (D : Dsk) : D.begin.1.ops ≤ D.ops + 1 := by
  unfold Dsk.begin
  (repeat' split) <;> simp [Dsk.lose, Dsk.forget]
theorem Dsk.write_ops (D : Dsk) (i : Int) (s : ByteArray) : (D.write i s).1.ops ≤ D.ops + 1 := by
  have := D.begin_ops
  unfold Dsk.write
  (repeat' split) <;> simp [Dsk.put] <;> omega
theorem Dsk.sync_ops (D : Dsk) : D.sync.1.ops ≤ D.ops + 1 := by
  have := D.begin_ops
  unfold Dsk.sync
  (repeat' split) <;> simp [Dsk.synced] <;> omega
end Go.Proofs.YtjldlmonccgopaaGreat
