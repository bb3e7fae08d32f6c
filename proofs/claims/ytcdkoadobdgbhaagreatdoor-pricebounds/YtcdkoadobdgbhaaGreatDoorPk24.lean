/- Bits, Clone. -/
import Derived.Test.YtcdkoadobdgbhaaGreatDoorPk7
import Derived.Test.YtcdkoadobdgbhaaGreatDoorPk23
/- Bits: how many binary digits a number has. -/
namespace Go.Proofs.YtcdkoadobdgbhaaGreatDoor
open Go.RowKit
set_option linter.unusedVariables false
set_option maxRecDepth 100000
set_option linter.unusedSimpArgs false

/-- b binary digits: between the two powers. -/
def Bin (m b : Nat) : Prop := m < 2 ^ b ∧ (m ≠ 0 → 2 ^ b ≤ 2 * m) ∧ (m = 0 → b = 0)
theorem Bin_uniq {m a b : Nat} (h : Bin m a) (k : Bin m b) : a = b := by
  obtain ⟨h1, h2, h3⟩ := h
  obtain ⟨k1, k2, k3⟩ := k
  by_cases h0 : m = 0
  · rw [h3 h0, k3 h0]
  · have h4 := h2 h0
    have k4 := k2 h0
    rcases Nat.lt_trichotomy a b with e | e | e
    · have : 2 ^ (a + 1) ≤ 2 ^ b := Nat.pow_le_pow_right (by omega) e
      rw [Nat.pow_succ] at this; omega
    · exact e
    · have : 2 ^ (b + 1) ≤ 2 ^ a := Nat.pow_le_pow_right (by omega) e
      rw [Nat.pow_succ] at this; omega
theorem bin_aux (f x : Nat) (h : x < 2 ^ f) : Bin x (Lib.bitLenAux f x) := by
  induction f generalizing x with
  | zero => simp at h; subst h; simp [Bin, Lib.bitLenAux]
  | succ f ih =>
    unfold Lib.bitLenAux
    split
    · rename_i h0
      subst h0
      simp [Bin]
    · rename_i h0
      have hx : x / 2 < 2 ^ f := by rw [Nat.pow_succ] at h; omega
      obtain ⟨i1, i2, i3⟩ := ih (x / 2) hx
      generalize Lib.bitLenAux f (x / 2) = b at *
      rw [Nat.add_comm 1 b]
      refine ⟨by rw [Nat.pow_succ]; omega, fun _ => ?_, fun e => absurd e h0⟩
      rw [Nat.pow_succ]
      by_cases e : x / 2 = 0
      · rw [i3 e]; omega
      · have := i2 e; omega
def binOf (x : Nat) : Nat := Lib.bitLenAux x x
theorem bin_ex (x : Nat) : Bin x (binOf x) := bin_aux x x Nat.lt_two_pow_self
theorem bin_len (x : Nat) (h : x < 4294967296) : Bin x (Lib.bitLen x) := bin_aux 64 x (Nat.lt_of_lt_of_le h (by decide))
theorem bin_val {L : List Nat} (hb : Bd L) {n b : Nat} (hn : L.length = n + 1) (ht : lg L n ≠ 0) (h : Bin (lg L n) b) : Bin (val L) (n * 32 + b) := by
  obtain ⟨h1, h2, h3⟩ := h
  have e : val L = pv L n + lg L n * 4294967296 ^ n := by unfold val; rw [hn]; rfl
  have l := pv_lt hb n
  have p : (4294967296 : Nat) ^ n = 2 ^ (n * 32) := by rw [Nat.mul_comm, Nat.pow_mul]
  rw [p] at e l
  have h2 := h2 ht
  have q := Nat.two_pow_pos (n * 32)
  rw [Bin, Nat.pow_add]
  generalize 2 ^ (n * 32) = P at *
  generalize lg L n = t at *
  have a1 : (t + 1) * P ≤ 2 ^ b * P := Nat.mul_le_mul_right _ h1
  have a2 : 2 ^ b * P ≤ 2 * t * P := Nat.mul_le_mul_right _ h2
  have a3 : 1 * P ≤ t * P := Nat.mul_le_mul_right _ (by omega)
  rw [Nat.add_mul, Nat.one_mul] at a1
  rw [Nat.mul_assoc] at a2
  rw [Nat.mul_comm P (2 ^ b)]
  exact ⟨by omega, fun _ => by omega, fun h0 => by omega⟩
theorem bin_le {m b k : Nat} (h : Bin m b) (hm : m < 2 ^ k) : b ≤ k := by
  obtain ⟨h1, h2, h3⟩ := h
  by_cases h0 : m = 0
  · rw [h3 h0]; omega
  · have h4 := h2 h0
    rcases Nat.lt_or_ge k b with e | e
    · have : 2 ^ (k + 1) ≤ 2 ^ b := Nat.pow_le_pow_right (by omega) e
      rw [Nat.pow_succ] at this; omega
    · exact e
set_option maxHeartbeats 400000 in
theorem bits_some (w : World) (g n cap b : Nat) (L : List Nat) (hb : Bd L) (hl : L.length = n + 1) (hn : n ≤ 1000000000) (hc : n + 1 ≤ cap) (hcm : cap ≤ maxLen) (hown : w.ownsRow 0 213 1 (.slice (some ⟨g, 0, none⟩) (n + 1) cap) (n + 1) (u32s L)) (hB : Lib.bitLen (lg L n) = b) :
    Calls Tryz.prog 148 #[.agg #[.slice (some ⟨g, 0, none⟩) (n + 1) cap]] w fun e w' => e = .returned (.int .i64 ((n * 32 + b : Nat) : Int)) ∧ Below w.heap.size w w' := by
  have hcell : ∀ o, (w.alloc o).cell? ⟨g, n, none⟩ = some (.int .u32 (lg L n : Int)) := fun o => u32s_at (World.ownsRow.alloc hown o) n (by omega)
  have ht := hb n
  have hb2 : b ≤ 64 := by rw [← hB]; exact Lib.bitLen_le _ 64 (by omega) (Nat.lt_of_lt_of_le ht (by decide))
  have HB := hid hB
  have e1 : (((n + 1 : Nat) : Int) == 0) = false := beq_eq_false_iff_ne.2 (by omega)
  unfold maxLen at hcm
  clear hown hl hB
  go_enter Tryz.func148, Tryz.ntmps148
  go_wp2_with fail
  refine (Tryz.bits_Len32 (lg L n : Int) _ (by omega) (by omega)).mono ?_
  rintro e w' ⟨rfl, rfl⟩
  rw [Int.toNat_natCast, HB.out]
  go_wp2
  go_ret
  exact ⟨by go_num, (Below.refl _ _).alloc (Nat.le_refl _) _⟩
set_option maxHeartbeats 400000 in
theorem bits_none (w : World) (ao : Option Addr) (cap : Nat) :
    Calls Tryz.prog 148 #[.agg #[.slice ao 0 cap]] w fun e w' => e = .returned (.int .i64 0) ∧ Below w.heap.size w w' := by
  go_enter Tryz.func148, Tryz.ntmps148
  go_wp2
  go_ret
  exact ⟨rfl, (Below.refl _ _).alloc (Nat.le_refl _) _⟩
/-- Bits: the number of binary digits. -/
theorem bits_any (w : World) (a : Value) (m K b : Nat) (hK : K ≤ 1000000000) (ha : NatIs w a m K) (hb : Bin m b) :
    Calls Tryz.prog 148 #[a] w fun e w' => e = .returned (.int .i64 (b : Int)) ∧ Below w.heap.size w w' := by
  obtain ⟨sa, A, rfl, oa, bA, tA, rfl, lA⟩ := ha
  by_cases h0 : A.length = 0
  · obtain ⟨ao, cap, rfl⟩ := oa.slice
    have e : A = [] := List.eq_nil_of_length_eq_zero h0
    rw [h0]
    refine (bits_none w ao cap).mono ?_
    rintro e w' ⟨rfl, hw⟩
    have hz : b = 0 := hb.2.2 (by rw [e]; rfl)
    exact ⟨by rw [hz]; rfl, hw⟩
  · obtain ⟨n, hn⟩ : ∃ n, A.length = n + 1 := ⟨A.length - 1, by omega⟩
    rcases oa.form with ⟨_, e⟩ | ⟨g, cap, rfl, h1, h2, _⟩
    · rw [e] at h0; exact absurd rfl h0
    have ht : lg A n ≠ 0 := by have := tA h0; rw [hn] at this; exact this
    have hu := Bin_uniq hb (bin_val bA hn ht (bin_len _ (bA n)))
    rw [hn] at oa h1 ⊢
    refine (bits_some w g n cap _ A bA hn (by omega) h1 h2 (by have := oa; unfold Limbs at this; rw [hn] at this; exact this) rfl).mono ?_
    rintro e w' ⟨rfl, hw⟩
    exact ⟨by rw [hu], hw⟩
end Go.Proofs.YtcdkoadobdgbhaaGreatDoor
/- slices.Clone of limbs. -/
namespace Go.Proofs.YtcdkoadobdgbhaaGreatDoor
open Go.RowKit
set_option linter.unusedVariables false
set_option maxRecDepth 100000
set_option linter.unusedSimpArgs false

theorem u32s_one (L : List Nat) : ∀ u ∈ u32s L, u.oneCell' = true := by
  intro u hu
  obtain ⟨_, _, rfl⟩ := List.mem_map.1 hu
  rfl
theorem clone_any (w : World) (v : Value) (L : List Nat) (hl : L.length ≤ 1000000000) (h : Limbs w v L) :
    Calls Tryz.prog 201 #[v] w fun e w' => (∃ v', e = .returned v' ∧ w'.ownsRow w.heap.size 213 1 v' L.length (u32s L)) ∧ Below w.heap.size w w' := by
  rcases h.form with ⟨rfl, rfl⟩ | ⟨g, cap, rfl, h1, h2, h3⟩
  · refine (Tryz.slices_Clone_nil 0 0 w).mono ?_
    rintro e w' ⟨rfl, rfl⟩
    exact ⟨⟨_, rfl, World.ownsRow_nil _ _ _ _⟩, Below.refl _ _⟩
  · obtain ⟨i0, hi, hz0, hz1, hz2⟩ := info_parts Tryz.info213
    refine (Tryz.slices_Clone i0 (.int .u32 0) 1 4 hi hz0 hz1 hz2 rfl (by omega) (fun w => Tryz.sizeOf213 w) g 0 L.length cap (u32s L) w (by simp [u32s]) (by unfold maxLen; omega) (by omega) ?_ (u32s_one L)).mono ?_
    · intro j u hj
      have hlt : j < L.length := by
        rcases Nat.lt_or_ge j L.length with e | e
        · exact e
        · rw [List.getElem?_eq_none (by rw [u32s_len]; exact e)] at hj; simp at hj
      rw [Nat.zero_add, u32s_at (L := L) h j hlt, ← hj]
      simp [u32s, lg, hlt]
    rintro e w' ⟨v', rfl, ho, _, hb⟩
    exact ⟨⟨v', rfl, ho⟩, hb⟩
end Go.Proofs.YtcdkoadobdgbhaaGreatDoor
