/- cert: multiples of what is dual. -/
import Derived.Test.YtbdhanlenekdhaaGreatDoorZCMidM
import Derived.Test.YtbdhanlenekdhaaGreatDoorZCLawN
namespace Go.Proofs.YtbdhanlenekdhaaGreatDoor
open Go.RowKit
set_option linter.unusedVariables false
set_option maxRecDepth 100000
set_option linter.unusedSimpArgs false

/-- The problem with so many times C. -/
def scP (P : Prb) (n : Int) : Prb := ⟨P.rows, P.rel, P.b, P.c.map (fun a => a * n)⟩
theorem byd_no {x : Int} (h : -1000000000 ≤ x) (k : x ≤ 1000000000) : byd x = false := by unfold byd; simp; omega
theorem bey_no {L : List Int} (h : ∀ x ∈ L, -1000000000 ≤ x ∧ x ≤ 1000000000) : bey L = false := by
  unfold bey
  rw [List.any_eq_false]
  intro x hx
  rw [byd_no (h x hx).1 (h x hx).2]
  simp
theorem chk_scale {P : Prb} {n : Int} (h : chk P = 0) (hc : ∀ a ∈ P.c, -1000000 ≤ a ∧ a ≤ 1000000) (h0 : 0 ≤ n) (h1 : n ≤ 255) : chk (scP P n) = 0 := by
  have ok := chk_ok h
  have hs : shp (scP P n) = true := by
    unfold shp scP
    simp only [Bool.and_eq_true, decide_eq_true_eq, List.all_eq_true, List.length_map]
    exact ⟨⟨ok.rel, ok.b⟩, ok.c⟩
  have hb : bey P.b = false ∧ P.rows.any bey = false := by
    unfold chk at h
    split at h
    · omega
    split at h
    · omega
    split at h
    · omega
    rename_i h3
    exact ⟨by cases hh : bey P.b <;> simp_all, by cases hh : P.rows.any bey <;> simp_all⟩
  have hcc : bey (P.c.map (fun a => a * n)) = false := bey_no (fun x hx => by
    obtain ⟨a, ha, rfl⟩ := List.mem_map.1 hx
    obtain ⟨a1, a2⟩ := hc a ha
    have e1 : a * n ≤ 1000000 * n := Int.mul_le_mul_of_nonneg_right a2 h0
    have e2 : -1000000 * n ≤ a * n := Int.mul_le_mul_of_nonneg_right a1 h0
    omega)
  unfold chk
  rw [hs, if_neg (by decide), if_neg (by show ¬ (64 < P.rows.length ∨ 64 < (P.c.map (fun a => a * n)).length); rw [List.length_map]; have := ok.rl; have := ok.cl; omega), if_neg]
  show ¬ (bey P.b = true ∨ bey (P.c.map (fun a => a * n)) = true ∨ P.rows.any bey = true)
  rw [hb.1, hcc, hb.2]
  simp
theorem dua_scale {P : Prb} {n : Int} {S Z : List ByteArray} {Y : List Rat} (h : chk P = 0) (hq : chk (scP P n) = 0) (hn : 0 < n) (hY : Nums S Y) (hZ : TxL Z (Y.map (fun x => x * (n : Rat)))) : DuaS P S ↔ DuaS (scP P n) Z := by
  have hn' : (0 : Rat) < (n : Rat) := Rat.intCast_pos.2 hn
  have hl : Z.length = S.length := by rw [hZ.len, List.length_map, hY.len]
  constructor
  · rintro ⟨_, h2, Y', h3, h4, h5⟩
    obtain rfl := h3.uniq hY
    exact ⟨hq, by rw [hl]; exact h2, _, hZ.nums, (sgs_scale hn').2 h4, cvs_scale hn |>.2 h5⟩
  · rintro ⟨_, h2, Y', h3, h4, h5⟩
    obtain rfl := h3.uniq hZ.nums
    exact ⟨h, by rw [← hl]; exact h2, Y, hY, (sgs_scale hn').1 h4, cvs_scale hn |>.1 h5⟩
theorem far_scale {P : Prb} {n : Int} {S Z : List ByteArray} {Y : List Rat} (h : chk P = 0) (hn : 0 < n) (hY : Nums S Y) (hZ : TxL Z (Y.map (fun x => x * (n : Rat)))) : FarS P S ↔ FarS P Z := by
  have hn' : (0 : Rat) < (n : Rat) := Rat.intCast_pos.2 hn
  have hl : Z.length = S.length := by rw [hZ.len, List.length_map, hY.len]
  have key : ∀ q : Rat, (n : Rat) * q < 0 ↔ q < 0 := fun q => Rat.mul_neg_iff_of_pos_left hn'
  constructor
  · rintro ⟨_, h2, Y', h3, ⟨h4, h5⟩, h6⟩
    obtain rfl := h3.uniq hY
    exact ⟨h, by rw [hl]; exact h2, _, hZ.nums, ⟨(sgs_scale hn').2 h4, (cvs_zero hn').2 h5⟩, by rw [dot_scale]; exact (key _).2 h6⟩
  · rintro ⟨_, h2, Y', h3, ⟨h4, h5⟩, h6⟩
    obtain rfl := h3.uniq hZ.nums
    exact ⟨h, by rw [← hl]; exact h2, Y, hY, ⟨(sgs_scale hn').1 h4, (cvs_zero hn').1 h5⟩, by rw [dot_scale] at h6; exact (key _).1 h6⟩
theorem szMN1 (S : List ByteArray) : szMN [S] = S.length + szL S := by simp [szMN, szN]
theorem Lt10.by' {n : Int} (h : 0 ≤ n) (k : n ≤ 255) : Lt10 3 (n : Rat) := ⟨by rw [Rat.num_intCast]; show n.natAbs < 1000; omega, by rw [Rat.den_intCast]; decide⟩
theorem map_at (Y : List Rat) (n : Rat) (i : Nat) (h : i < Y.length) (h' : i < (Y.map (fun x => x * n)).length) : (Y.map (fun x => x * n))[i] = Y[i] * n := by simp
theorem cmul_succ (c : List Int) (n : Int) (k : Nat) (h : k < c.length) : (c.take (k + 1)).map (fun a => a * n) = (c.take k).map (fun a => a * n) ++ [c[k] * n] := by
  rw [List.take_succ_eq_append_getElem h, List.map_append]; rfl
theorem mul_wrap {a n : Int} (h1 : -1000000 ≤ a) (h2 : a ≤ 1000000) (h3 : 0 ≤ n) (h4 : n ≤ 255) : IntKind.i64.wrap (a * n) = a * n := by
  have e1 : a * n ≤ 1000000 * n := Int.mul_le_mul_of_nonneg_right h2 h3
  have e2 : -1000000 * n ≤ a * n := Int.mul_le_mul_of_nonneg_right h1 h3
  generalize a * n = x at *
  rw [IntKind.wrap_i64]; omega
end Go.Proofs.YtbdhanlenekdhaaGreatDoor
