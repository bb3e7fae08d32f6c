/- WSum, WMath. -/
import Derived.Test.YtjldlmonccgopaaGreatRows
import Derived.Test.YtjldlmonccgopaaGreatPk0
import Derived.WalkKit
import Derived.WalkSpells
import Derived.WalkLawsBesides
/- The sum of a text, the program's and the document's. -/
namespace Go.Proofs.YtjldlmonccgopaaGreat
open Go.RowKit
set_option linter.unusedVariables false
set_option maxRecDepth 100000
set_option linter.unusedSimpArgs false

theorem hid' {p : Prop} (h : p) : Hid p := h
/-- A byte more. -/
def fnv (n c : Int) : Int := bits BinOp.xor IntKind.u32 n c * 16777619 % 4294967296
/-- The sum n with the first k bytes of s behind it. -/
def sumN (n : Int) (s : ByteArray) : Nat → Int
  | 0 => n
  | k + 1 => fnv (sumN n s k) (bt s k)
def sumOf (s : ByteArray) : Int := sumN 2166136261 s s.size
set_option maxHeartbeats 800000 in
theorem sumOn_any (n : Int) (s : ByteArray) (w : World) (hs : s.size < 9223372036854775808) :
    Calls Tryz.prog 85 #[.int .u32 n, .string s] w fun e w' => e = .returned (.int .u32 (sumN n s s.size)) ∧ w' = w := by
  go_enter Tryz.func85, Tryz.ntmps85
  go_wp2
  go_loop [0, 8] (fun u i => ∃ k : Nat, k ≤ s.size ∧ i = .int .i64 k ∧ u = .int .u32 (sumN n s k)) (fun u i => s.size - (intOf i).toNat)
  case atStart => exact ⟨0, Nat.zero_le _, rfl, rfl⟩
  case round =>
    obtain ⟨k, hk, rfl, rfl⟩ := hrel
    by_cases hlt : k < s.size
    · have ek := bt_at s k hlt
      have hb := bt_lt s k
      have HF := hid' (show sumN n s (k + 1) = bits BinOp.xor IntKind.u32 (sumN n s k) (bt s k) * 16777619 % 4294967296 from rfl)
      generalize sumN n s k = u at *
      go_wp2
      go_round
      case rel => exact ⟨k + 1, by omega, by go_num, by rw [HF.out]⟩
      case measure => simp [intOf]; omega
    · obtain rfl : k = s.size := by omega
      go_wp2
      go_ret
      exact ⟨rfl, rfl⟩
theorem wsum_any (s : ByteArray) (w : World) (hs : s.size < 9223372036854775808) :
    Calls Tryz.prog 66 #[.string s] w fun e w' => e = .returned (.int .u32 (sumOf s)) ∧ w' = w := by
  go_enter Tryz.func66, Tryz.ntmps66
  go_wp2_with (go_at_call 85; refine (sumOn_any 2166136261 s w hs).mono ?_; rintro e w' ⟨rfl, rfl⟩)
  go_ret
  exact ⟨rfl, rfl⟩
set_option maxHeartbeats 800000 in
theorem vsum_any (s : ByteArray) (w : World) (hs : s.size < 9223372036854775808) :
    Calls Tryz.prog 71 #[.string s] w fun e w' => e = .returned (.int .u32 (sumOf s)) ∧ w' = w := by
  go_enter Tryz.func71, Tryz.ntmps71
  go_wp2
  go_loop [3, 4] (fun u i => ∃ k : Nat, k ≤ s.size ∧ i = .int .i64 k ∧ u = .int .u32 (sumN 2166136261 s k)) (fun u i => s.size - (intOf i).toNat)
  case atStart => exact ⟨0, Nat.zero_le _, rfl, rfl⟩
  case round =>
    obtain ⟨k, hk, rfl, rfl⟩ := hrel
    by_cases hlt : k < s.size
    · have ek := bt_at s k hlt
      have hb := bt_lt s k
      have HF := hid' (show sumN 2166136261 s (k + 1) = bits BinOp.xor IntKind.u32 (sumN 2166136261 s k) (bt s k) * 16777619 % 4294967296 from rfl)
      generalize sumN 2166136261 s k = u at *
      go_wp2
      go_round
      case rel => exact ⟨k + 1, by omega, by go_num, by rw [HF.out]⟩
      case measure => simp [intOf]; omega
    · obtain rfl : k = s.size := by omega
      go_wp2
      go_ret
      exact ⟨rfl, rfl⟩
theorem sumN_lt (n : Int) (hn : 0 ≤ n ∧ n < 4294967296) (s : ByteArray) : ∀ k, 0 ≤ sumN n s k ∧ sumN n s k < 4294967296
  | 0 => hn
  | k + 1 => by simp only [sumN, fnv]; omega
theorem sumN_app (n : Int) (s t : ByteArray) : ∀ k, k ≤ s.size → sumN n (s ++ t) k = sumN n s k
  | 0, _ => rfl
  | k + 1, h => by
    simp only [sumN]
    rw [sumN_app n s t k (by omega)]
    congr 2
    unfold bt
    rw [dif_pos (by rw [ByteArray.size_append]; omega), dif_pos (by omega)]
    congr 1
    exact ByteArray.getElem_append_left (by omega)
theorem bt_app_right (s t : ByteArray) (j : Nat) (h : j < t.size) : bt (s ++ t) (s.size + j) = bt t j := by
  unfold bt
  rw [dif_pos (by rw [ByteArray.size_append]; omega), dif_pos h]
  congr 1
  rw [ByteArray.getElem_append_right (by omega)]
  congr 1; omega
theorem bt_app_left (s t : ByteArray) (j : Nat) (h : j < s.size) : bt (s ++ t) j = bt s j := by
  unfold bt
  rw [dif_pos (by rw [ByteArray.size_append]; omega), dif_pos h]
  congr 1
  exact ByteArray.getElem_append_left (by omega)
theorem sumN_on (n : Int) (s t : ByteArray) : ∀ k, k ≤ t.size → sumN n (s ++ t) (s.size + k) = sumN (sumN n s s.size) t k
  | 0, _ => sumN_app n s t s.size (Nat.le_refl _)
  | k + 1, h => by
    rw [← Nat.add_assoc]
    simp only [sumN]
    rw [sumN_on n s t k (by omega), bt_app_right s t k (by omega)]
theorem sumOf_on (s t : ByteArray) : sumOf (s ++ t) = sumN (sumOf s) t t.size := by
  unfold sumOf
  rw [ByteArray.size_append]
  exact sumN_on _ s t t.size (Nat.le_refl _)
end Go.Proofs.YtjldlmonccgopaaGreat
/- Commits and areas in plain numbers. -/
namespace Go.Proofs.YtjldlmonccgopaaGreat
set_option linter.unusedVariables false
set_option linter.unusedSimpArgs false

/-- The number of the k bytes from i on, the highest first. -/
def be (s : ByteArray) (i : Nat) : Nat → Nat
  | 0 => 0
  | k + 1 => be s i k * 256 + bt s (i + k)
theorem be_lt (s : ByteArray) (i : Nat) : ∀ k, be s i k < 256 ^ k
  | 0 => by simp [be]
  | k + 1 => by
    have h1 := be_lt s i k
    have h2 := bt_lt s (i + k)
    rw [be, Nat.pow_succ]; omega
theorem be_of (s : ByteArray) (i K n : Nat) (hn : n < 256 ^ K) (h : ∀ j, j < K → bt s (i + j) = n / 256 ^ (K - 1 - j) % 256) : be s i K = n := by
  have key : ∀ j, j ≤ K → be s i j = n / 256 ^ (K - j) := by
    intro j
    induction j with
    | zero => intro _; rw [Nat.sub_zero, Nat.div_eq_of_lt hn]; rfl
    | succ j ih =>
      intro hj
      have e : K - j = (K - (j + 1)) + 1 := by omega
      rw [be, ih (by omega), h j (by omega), e, Nat.pow_succ, ← Nat.div_div_eq_div_mul, show K - 1 - j = K - (j + 1) by omega]
      omega
  have := key K (Nat.le_refl _)
  rwa [Nat.sub_self, Nat.pow_zero, Nat.div_one] at this
theorem be_inj {s t : ByteArray} {i i' : Nat} : ∀ k, be s i k = be t i' k → ∀ j, j < k → bt s (i + j) = bt t (i' + j)
  | 0, _, j, hj => by omega
  | k + 1, h, j, hj => by
    have h1 := bt_lt s (i + k)
    have h2 := bt_lt t (i' + k)
    simp only [be] at h
    by_cases e : j = k
    · subst e; omega
    · exact be_inj k (by omega) j (by omega)
/-- n in k bytes, the highest first. -/
def beL (n k : Nat) : List UInt8 := (List.range k).map fun i => UInt8.ofNat (n / 256 ^ (k - 1 - i))
theorem beL_len (n k : Nat) : (beL n k).length = k := by simp [beL]
theorem beL_at (n k j : Nat) (h : j < k) : ((beL n k)[j]'(by rw [beL_len]; exact h)).toNat = n / 256 ^ (k - 1 - j) % 256 := by
  simp [beL, UInt8.toNat_ofNat']
theorem bt_list (l : List UInt8) (j : Nat) (h : j < l.length) : bt ⟨l.toArray⟩ j = (l[j]'h).toNat := by
  have hs : j < (⟨l.toArray⟩ : ByteArray).size := by simpa [ByteArray.size] using h
  rw [← bt_at _ j hs]
  rfl
theorem size_list (l : List UInt8) : (⟨l.toArray⟩ : ByteArray).size = l.length := by simp [ByteArray.size]
/-- bytes of a part. -/
theorem bt_extract (s : ByteArray) (a b j : Nat) (hb : b ≤ s.size) (h : a + j < b) : bt (s.extract a b) j = bt s (a + j) := by
  have h1 : j < (s.extract a b).size := by rw [ByteArray.size_extract]; omega
  rw [← bt_at _ j h1, ← bt_at s (a + j) (by omega)]
  rw [ByteArray.getElem_extract]
theorem be_extract (s : ByteArray) (a b : Nat) (hb : b ≤ s.size) : ∀ k, a + k ≤ b → be (s.extract a b) 0 k = be s a k
  | 0, _ => rfl
  | k + 1, h => by
    simp only [be]
    rw [be_extract s a b hb k (by omega), Nat.zero_add, bt_extract s a b k hb (by omega)]
theorem sumN_ext (n : Int) (s t : ByteArray) : ∀ k, (∀ j, j < k → bt s j = bt t j) → sumN n s k = sumN n t k
  | 0, _ => rfl
  | k + 1, h => by
    simp only [sumN]
    rw [sumN_ext n s t k (fun j hj => h j (by omega)), h k (by omega)]
theorem sum_extract (s : ByteArray) (b : Nat) (hb : b ≤ s.size) : sumOf (s.extract 0 b) = sumN 2166136261 s b := by
  have h1 : (s.extract 0 b).size = b := by rw [ByteArray.size_extract]; omega
  unfold sumOf
  rw [h1]
  exact sumN_ext _ _ _ b (fun j hj => by rw [bt_extract s 0 b j hb (by omega), Nat.zero_add])

/-- What a commit says. -/
structure Com where
  num : Nat
  area : Nat
  len : Nat
  sum : Int
structure Com.Fit (c : Com) : Prop where
  num : c.num < 18446744073709551616
  area : c.area ≤ 1
  len : c.len ≤ 32512
  sum : 0 ≤ c.sum ∧ c.sum < 4294967296
/-- None. -/
def com0 : Com := ⟨0, 0, 0, 2166136261⟩
theorem com0_fit : com0.Fit := ⟨by simp [com0], by simp [com0], by simp [com0], by simp [com0]⟩
def comL (c : Com) : List UInt8 := beL c.num 8 ++ (UInt8.ofNat c.area :: (beL c.len 4 ++ beL c.sum.toNat 4))
/-- The bytes of a commit. -/
def comT (c : Com) : ByteArray := ⟨(comL c ++ beL (sumOf ⟨(comL c).toArray⟩).toNat 4).toArray⟩
/-- s is the commit c, right by itself. -/
structure IsCom (s : ByteArray) (c : Com) : Prop where
  size : s.size = 21
  num : be s 0 8 = c.num
  area : bt s 8 = c.area
  len : be s 9 4 = c.len
  sum : (be s 13 4 : Int) = c.sum
  own : (be s 17 4 : Int) = sumN 2166136261 s 17
  num0 : c.num ≠ 0
  area1 : c.area ≤ 1
  len1 : c.len ≤ 32512
theorem IsCom.fit {s : ByteArray} {c : Com} (h : IsCom s c) : c.Fit :=
  ⟨by rw [← h.num]; exact be_lt s 0 8, h.area1, h.len1, by rw [← h.sum]; have := be_lt s 13 4; omega⟩
theorem IsCom.unique {s : ByteArray} {c d : Com} (h : IsCom s c) (k : IsCom s d) : c = d := by
  obtain ⟨a1, a2, a3, a4⟩ := c
  obtain ⟨b1, b2, b3, b4⟩ := d
  have e1 := h.num.symm.trans k.num
  have e2 := h.area.symm.trans k.area
  have e3 := h.len.symm.trans k.len
  have e4 := h.sum.symm.trans k.sum
  simp only at e1 e2 e3 e4
  subst e1; subst e2; subst e3; subst e4; rfl
theorem comL_len (c : Com) : (comL c).length = 17 := by simp [comL, beL_len]
theorem comT_size (c : Com) : (comT c).size = 21 := by simp [comT, size_list, comL_len, beL_len]
theorem bt_comT (c : Com) (j : Nat) (h : j < 17) : bt (comT c) j = ((comL c)[j]'(by rw [comL_len]; exact h)).toNat := by
  unfold comT
  rw [bt_list _ j (by rw [List.length_append, comL_len]; omega), List.getElem_append_left (by rw [comL_len]; exact h)]
theorem sum_lt (s : ByteArray) : 0 ≤ sumOf s ∧ sumOf s < 4294967296 := sumN_lt _ (by omega) s _
theorem comT_is {c : Com} (hf : c.Fit) (h0 : c.num ≠ 0) : IsCom (comT c) c where
  size := comT_size c
  num := be_of _ 0 8 c.num (by have := hf.num; omega) (fun j hj => by
    rw [Nat.zero_add, bt_comT c j (by omega)]
    simp only [comL]
    rw [List.getElem_append_left (by rw [beL_len]; exact hj), beL_at _ _ _ hj])
  area := by
    rw [bt_comT c 8 (by omega)]
    simp only [comL]
    rw [List.getElem_append_right (by rw [beL_len]; omega)]
    simp only [beL_len, Nat.sub_self, List.getElem_cons_zero, UInt8.toNat_ofNat']
    have := hf.area; omega
  len := be_of _ 9 4 c.len (by have := hf.len; omega) (fun j hj => by
    rw [bt_comT c (9 + j) (by omega)]
    simp only [comL]
    rw [List.getElem_append_right (by rw [beL_len]; omega)]
    simp only [beL_len, show 9 + j - 8 = j + 1 by omega, List.getElem_cons_succ]
    rw [List.getElem_append_left (by rw [beL_len]; exact hj), beL_at _ _ _ hj])
  sum := by
    have h1 := hf.sum
    rw [be_of _ 13 4 c.sum.toNat (by omega) (fun j hj => by
      rw [bt_comT c (13 + j) (by omega)]
      simp only [comL]
      rw [List.getElem_append_right (by rw [beL_len]; omega)]
      simp only [beL_len, show 13 + j - 8 = (4 + j) + 1 by omega, List.getElem_cons_succ]
      rw [List.getElem_append_right (by rw [beL_len]; omega)]
      simp only [beL_len, show 4 + j - 4 = j by omega]
      rw [beL_at _ _ _ hj])]
    omega
  own := by
    have h1 := sum_lt ⟨(comL c).toArray⟩
    have h2 : sumN 2166136261 (comT c) 17 = sumOf ⟨(comL c).toArray⟩ := by
      unfold sumOf
      rw [size_list, comL_len]
      exact sumN_ext _ _ _ 17 (fun j hj => by rw [bt_comT c j hj, bt_list _ j (by rw [comL_len]; exact hj)])
    rw [h2, be_of _ 17 4 (sumOf ⟨(comL c).toArray⟩).toNat (by omega) (fun j hj => by
      unfold comT
      rw [bt_list _ _ (by rw [List.length_append, comL_len, beL_len]; omega), List.getElem_append_right (by rw [comL_len]; omega)]
      simp only [comL_len, show 17 + j - 17 = j by omega]
      rw [beL_at _ _ _ hj])]
    omega
  num0 := h0
  area1 := hf.area
  len1 := hf.len

/-- Byte k of an area. -/
def ab (V : List ByteArray) (a k : Nat) : Nat := bt (V.getD (2 + a * 127 + k / 256) ByteArray.empty) (k % 256)
/-- t lies in the area a. -/
def Lies (V : List ByteArray) (a : Nat) (t : ByteArray) : Prop := ∀ k, k < t.size → bt t k = ab V a k
theorem Lies.unique {V : List ByteArray} {a : Nat} {t u : ByteArray} (h : Lies V a t) (k : Lies V a u) (e : t.size = u.size) : t = u :=
  ext_bt e fun j hj => (h j hj).trans (k j (by omega)).symm
/-- The commit in sector i, and its text. -/
structure Right (V : List ByteArray) (i : Nat) (c : Com) (t : ByteArray) : Prop where
  com : IsCom (V.getD i ByteArray.empty) c
  size : t.size = c.len
  lies : Lies V c.area t
  sum : sumOf t = c.sum
/-- What rightCommit answers. -/
def Right0 (V : List ByteArray) (i : Nat) (c : Com) (t : ByteArray) : Prop := Right V i c t ∨ ((∀ c t, ¬ Right V i c t) ∧ c = com0 ∧ t = ByteArray.empty)
/-- What Open answers: the commit, and its text. -/
def Tells (V : List ByteArray) (c : Com) (t : ByteArray) : Prop := ∃ c0 t0 c1 t1, Right0 V 0 c0 t0 ∧ Right0 V 1 c1 t1 ∧ (c, t) = if c0.num < c1.num then (c1, t1) else (c0, t0)
theorem Right.unique {V : List ByteArray} {i : Nat} {c d : Com} {t u : ByteArray} (h : Right V i c t) (k : Right V i d u) : c = d ∧ t = u := by
  have e := h.com.unique k.com
  subst e
  exact ⟨rfl, h.lies.unique k.lies (h.size.trans k.size.symm)⟩
theorem Right0.unique {V : List ByteArray} {i : Nat} {c d : Com} {t u : ByteArray} (h : Right0 V i c t) (k : Right0 V i d u) : c = d ∧ t = u := by
  rcases h with h | ⟨h, rfl, rfl⟩
  · rcases k with k | ⟨k, _⟩
    · exact h.unique k
    · exact absurd h (k _ _)
  · rcases k with k | ⟨k, rfl, rfl⟩
    · exact absurd k (h _ _)
    · exact ⟨rfl, rfl⟩
theorem Tells.unique {V : List ByteArray} {c d : Com} {t u : ByteArray} (h : Tells V c t) (k : Tells V d u) : c = d ∧ t = u := by
  obtain ⟨c0, t0, c1, t1, h0, h1, e⟩ := h
  obtain ⟨d0, u0, d1, u1, k0, k1, f⟩ := k
  obtain ⟨rfl, rfl⟩ := h0.unique k0
  obtain ⟨rfl, rfl⟩ := h1.unique k1
  have := e.trans f.symm
  exact ⟨congrArg Prod.fst this, congrArg Prod.snd this⟩
theorem Right0.fit {V : List ByteArray} {i : Nat} {c : Com} {t : ByteArray} (h : Right0 V i c t) : c.Fit ∧ t.size = c.len ∧ Lies V c.area t ∧ sumOf t = c.sum := by
  rcases h with h | ⟨_, rfl, rfl⟩
  · exact ⟨h.com.fit, h.size, h.lies, h.sum⟩
  · exact ⟨com0_fit, rfl, fun k hk => absurd hk (by simp), rfl⟩
theorem Tells.fit {V : List ByteArray} {c : Com} {t : ByteArray} (h : Tells V c t) : c.Fit ∧ t.size = c.len ∧ Lies V c.area t ∧ sumOf t = c.sum := by
  obtain ⟨c0, t0, c1, t1, h0, h1, e⟩ := h
  split at e
  · cases e; exact h1.fit
  · cases e; exact h0.fit
end Go.Proofs.YtjldlmonccgopaaGreat
