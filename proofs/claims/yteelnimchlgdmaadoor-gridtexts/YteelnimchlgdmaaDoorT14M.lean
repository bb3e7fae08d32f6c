/- GridTexts: plain: the text of a grid, and the grid of a text. -/
import Derived.Test.YteelnimchlgdmaaDoorLPartM
import Derived.Test.YteelnimchlgdmaaDoorLNumber
import Derived.Test.YteelnimchlgdmaaDoorIBase
import Derived.Test.YteelnimchlgdmaaDoorDigits
namespace Go.Proofs.YteelnimchlgdmaaDoor
open Go.RowKit
set_option linter.unusedVariables false
set_option linter.unusedSimpArgs false

theorem parts_bl5 (c : UInt8) (s : ByteArray) : (parts c s).map bl = cutAt c (bl s) := by
  unfold parts
  rw [List.map_map, show (bl ∘ ofL) = id from funext fun x => bl_ofL x, List.map_id]
theorem join_parts5 (s : ByteArray) : joinB (parts 32 s) = s := by
  unfold joinB
  rw [parts_bl5, jn_cutAt, ofL_bl]
/-- The text of a number. -/
def txtI (n : Int) : ByteArray := ⟨(Lib.itoa n).toArray⟩
theorem txt_dec (u : Nat) : Txt ⟨(Lib.decDigits u).toArray⟩ ∧ num ⟨(Lib.decDigits u).toArray⟩ = u := by
  have hd := Dg_dec u
  have hl : (⟨(Lib.decDigits u).toArray⟩ : ByteArray).size = (Lib.decDigits u).length := rfl
  refine ⟨⟨?_, ?_, ?_⟩, ?_⟩
  · rw [hl, dec_len]
    have := Lib.nDigits_pos u
    omega
  · intro h
    rw [hl] at h
    by_cases h0 : u = 0
    · subst h0
      rw [Lib.decDigits_one (by omega)] at h
      simp at h
    · obtain ⟨a, r, e, ha⟩ := dec_head u h0
      rw [bt_list _ 0 (by omega)]
      simp only [e, List.getElem_cons_zero]
      exact ha
  · intro k hk
    rw [hl] at hk
    rw [bt_list _ k hk]
    exact hd _ (List.getElem_mem hk)
  · unfold num
    rw [hl, dv_list _ _ (Nat.le_refl _), List.take_length, lv_dec]
theorem itoa_pos (u : Nat) : Lib.itoa (u : Int) = Lib.decDigits u := by unfold Lib.itoa; rw [if_neg (by omega)]; simp
theorem itoa_min (u : Nat) (h : 1 ≤ u) : Lib.itoa (-(u : Int)) = 45 :: Lib.decDigits u := by unfold Lib.itoa; rw [if_pos (by omega)]; simp
theorem txtI_num (n : Int) (h1 : -1000000000 ≤ n) (h2 : n ≤ 1000000000) : NumT (txtI n) ∧ numV (txtI n) = n := by
  by_cases hn : n < 0
  · obtain ⟨u, rfl⟩ : ∃ u : Nat, n = -(u : Int) := ⟨n.natAbs, by omega⟩
    have hu : 1 ≤ u := by omega
    obtain ⟨t1, t2⟩ := txt_dec u
    have e : txtI (-(u : Int)) = ⟨#[45]⟩ ++ ⟨(Lib.decDigits u).toArray⟩ := by
      unfold txtI
      rw [itoa_min u hu]
      apply bl_inj
      rw [bl_app]
      rfl
    have hz : (txtI (-(u : Int))).size = (Lib.decDigits u).length + 1 := by unfold txtI; rw [itoa_min u hu]; rfl
    have hneg : isNeg (txtI (-(u : Int))) = true := by
      unfold isNeg
      have h0 : bt (txtI (-(u : Int))) 0 = 45 := by unfold txtI; rw [itoa_min u hu, bt_list _ 0 (by simp)]; rfl
      rw [h0, hz]
      simp
    have hb : body (txtI (-(u : Int))) = ⟨(Lib.decDigits u).toArray⟩ := by
      unfold body
      rw [if_pos hneg]
      apply bl_inj
      rw [bl_extract]
      unfold txtI
      rw [itoa_min u hu]
      show ((45 :: Lib.decDigits u).take (45 :: Lib.decDigits u).length).drop 1 = Lib.decDigits u
      rw [List.take_length]; rfl
    refine ⟨⟨by rw [hb]; exact t1, by rw [hb, t2]; omega, fun _ => ?_⟩, ?_⟩
    · rw [hb]
      obtain ⟨a, r, e1, ha⟩ := dec_head u (by omega)
      have hlp : 0 < (Lib.decDigits u).length := by rw [e1]; simp
      rw [bt_list _ 0 hlp]
      simp only [e1, List.getElem_cons_zero]
      exact ha
    · unfold numV
      rw [if_pos hneg, hb, t2]
  · obtain ⟨u, rfl⟩ : ∃ u : Nat, n = (u : Int) := ⟨n.toNat, by omega⟩
    obtain ⟨t1, t2⟩ := txt_dec u
    have e : txtI (u : Int) = ⟨(Lib.decDigits u).toArray⟩ := by unfold txtI; rw [itoa_pos]
    have hneg : isNeg (txtI (u : Int)) = false := by
      unfold isNeg
      rw [e]
      have := t1.2.2 0 (by have := t1.1; omega)
      have h45 : (bt ⟨(Lib.decDigits u).toArray⟩ 0 == 45) = false := by simp; omega
      rw [h45, Bool.and_false]
    have hb : body (txtI (u : Int)) = ⟨(Lib.decDigits u).toArray⟩ := by
      unfold body
      rw [if_neg (by rw [hneg]; simp), e]
    refine ⟨⟨by rw [hb]; exact t1, by rw [hb, t2]; omega, fun h => by rw [hneg] at h; cases h⟩, ?_⟩
    unfold numV
    rw [if_neg (by rw [hneg]; simp), hb, t2]
theorem numT_inj {s t : ByteArray} (hs : NumT s) (ht : NumT t) (h : numV s = numV t) : s = t := by
  obtain ⟨s1, s2, s3⟩ := hs
  obtain ⟨t1, t2, t3⟩ := ht
  have pos : ∀ {x : ByteArray}, Txt (body x) → (isNeg x = true → bt (body x) 0 ≠ 48) → isNeg x = true → num (body x) ≠ 0 := by
    intro x h1 h3 hn h0
    have hb := h3 hn
    have hd := h1.2.2 0 (by have := h1.1; omega)
    have := dv_ge (s := body x) ((body x).size - 1) (by omega)
    rw [show (body x).size - 1 + 1 = (body x).size by have := h1.1; omega] at this
    have hp : 0 < 10 ^ ((body x).size - 1) := Nat.pow_pos (by omega)
    unfold num at h0
    omega
  have whole : ∀ {x : ByteArray}, isNeg x = true → x = ⟨#[45]⟩ ++ body x := by
    intro x hn
    unfold body
    rw [if_pos hn]
    unfold isNeg at hn
    simp only [Bool.and_eq_true, bne_iff_ne, ne_eq, beq_iff_eq] at hn
    apply bl_inj
    rw [bl_app, bl_extract]
    have hz : 0 < x.size := by omega
    have e1 : (bl x).take x.size = bl x := by rw [← bl_len]; exact List.take_length
    rw [e1]
    have hd := bl_drop x 0 hz
    rw [List.drop_zero] at hd
    have hb : x[0] = 45 := by
      have := bt_at x 0 hz
      rw [hn.2] at this
      exact UInt8.toNat.inj this
    rw [hd, hb]
    simp
    rfl
  unfold numV at h
  by_cases a : isNeg s = true <;> by_cases b : isNeg t = true
  · rw [if_pos a, if_pos b] at h
    rw [whole a, whole b, num_inj s1 t1 (by omega)]
  · rw [if_pos a, if_neg b] at h
    have := pos s1 s3 a
    omega
  · rw [if_neg a, if_pos b] at h
    have := pos t1 t3 b
    omega
  · rw [if_neg a, if_neg b] at h
    have es : body s = s := by unfold body; rw [if_neg a]
    have et : body t = t := by unfold body; rw [if_neg b]
    rw [es] at s1 h
    rw [et] at t1 h
    exact num_inj s1 t1 (by omega)
theorem numT_txt {s : ByteArray} (h : NumT s) : s = txtI (numV s) := by
  have hb : -1000000000 ≤ numV s ∧ numV s ≤ 1000000000 := by
    have := h.2.1
    unfold numV
    split <;> omega
  obtain ⟨k1, k2⟩ := txtI_num (numV s) hb.1 hb.2
  exact numT_inj h k1 k2.symm
/-- A grid's numbers. -/
def ln3 : List Ln → List Int
  | [] => []
  | l :: r => l.f :: l.t :: l.c :: ln3 r
def nms (g : Gr) : List Int := g.zones :: g.hours :: g.low :: g.high :: ln3 g.lines
def gridB : ByteArray := ⟨#[103, 114, 105, 100]⟩
def wds (L : List Int) : List ByteArray := gridB :: L.map txtI
/-- The text of a grid. -/
def prt (g : Gr) : ByteArray := joinB (wds (nms g))
/-- Lines out of numbers. -/
def lns3 : List Int → List Ln
  | a :: b :: c :: r => ⟨a, b, c⟩ :: lns3 r
  | _ => []
theorem lns3_ln3 : ∀ S : List Ln, lns3 (ln3 S) = S
  | [] => rfl
  | ⟨a, b, c⟩ :: r => by rw [ln3, lns3, lns3_ln3 r]
theorem ln3_lns3 : ∀ L : List Int, L.length % 3 = 0 → ln3 (lns3 L) = L
  | [], _ => rfl
  | [a], h => by simp at h
  | [a, b], h => by simp at h
  | a :: b :: c :: r, h => by
    rw [lns3, ln3, ln3_lns3 r (by simp only [List.length_cons] at h; omega)]
theorem ln3_len : ∀ S : List Ln, (ln3 S).length = 3 * S.length
  | [] => rfl
  | _ :: r => by rw [ln3]; simp only [List.length_cons]; rw [ln3_len r]; omega
theorem lns3_len : ∀ L : List Int, (lns3 L).length = L.length / 3
  | [] => rfl
  | [a] => by simp [lns3]
  | [a, b] => by simp [lns3]
  | a :: b :: c :: r => by rw [lns3]; simp only [List.length_cons]; rw [lns3_len r]; omega
/-- The grid of these numbers. -/
def grd (L : List Int) : Gr := ⟨L.getD 0 0, L.getD 1 0, L.getD 2 0, L.getD 3 0, lns3 (L.drop 4)⟩
theorem nms_grd {L : List Int} (h4 : 4 ≤ L.length) (h3 : (L.length - 4) % 3 = 0) : nms (grd L) = L := by
  match L, h4 with
  | a :: b :: c :: d :: r, _ =>
    show a :: b :: c :: d :: ln3 (lns3 r) = _
    rw [ln3_lns3 r (by simp only [List.length_cons] at h3; omega)]
theorem grd_nms (g : Gr) : grd (nms g) = g := by
  obtain ⟨z, h, lo, hi, S⟩ := g
  show (⟨z, h, lo, hi, lns3 (ln3 S)⟩ : Gr) = _
  rw [lns3_ln3]
theorem nms_len (g : Gr) : (nms g).length = 4 + 3 * g.lines.length := by unfold nms; simp only [List.length_cons]; rw [ln3_len]; omega
/-- What a text says: its numbers, if it is a grid's. -/
def Psr (s : ByteArray) (L : List Int) : Prop := wordsE s = 0 ∧ wordsL s = wds L ∧ (∀ n ∈ L, -1000000000 ≤ n ∧ n ≤ 1000000000) ∧ 4 ≤ L.length ∧ (L.length - 4) % 3 = 0 ∧ gok (grd L) = true
theorem Psr.prt {s : ByteArray} {L : List Int} (h : Psr s L) : prt (grd L) = s := by
  unfold Go.Proofs.YteelnimchlgdmaaDoor.prt
  rw [nms_grd h.2.2.2.1 h.2.2.2.2.1, ← h.2.1, wordsL_ok h.1]
  exact join_parts5 s
theorem txtI_inj {a b : Int} (ha : -1000000000 ≤ a ∧ a ≤ 1000000000) (hb : -1000000000 ≤ b ∧ b ≤ 1000000000) (h : txtI a = txtI b) : a = b := by
  have h1 := (txtI_num a ha.1 ha.2).2
  have h2 := (txtI_num b hb.1 hb.2).2
  rw [h] at h1
  omega
theorem map_txtI_inj : ∀ {L M : List Int}, (∀ n ∈ L, -1000000000 ≤ n ∧ n ≤ 1000000000) → (∀ n ∈ M, -1000000000 ≤ n ∧ n ≤ 1000000000) → L.map txtI = M.map txtI → L = M
  | [], [], _, _, _ => rfl
  | [], _ :: _, _, _, h => by simp at h
  | _ :: _, [], _, _, h => by simp at h
  | a :: L, b :: M, hL, hM, h => by
    simp only [List.map_cons, List.cons.injEq] at h
    rw [txtI_inj (hL a List.mem_cons_self) (hM b List.mem_cons_self) h.1, map_txtI_inj (fun n hn => hL n (List.mem_cons_of_mem _ hn)) (fun n hn => hM n (List.mem_cons_of_mem _ hn)) h.2]
theorem Psr.uniq {s : ByteArray} {L M : List Int} (h : Psr s L) (k : Psr s M) : L = M := by
  have e := h.2.1.symm.trans k.2.1
  unfold wds at e
  exact map_txtI_inj h.2.2.1 k.2.2.1 (List.cons.inj e).2
/-- Few and short numbers without a blank. -/
theorem txtI_may (n : Int) : runs may (bl (txtI n)) = true ∧ (32 : UInt8) ∉ bl (txtI n) ∧ bl (txtI n) ≠ [] := by
  have key : ∀ l : List UInt8, Dg l → runs may l = true ∧ (32 : UInt8) ∉ l := by
    intro l
    induction l with
    | nil => intro _; exact ⟨rfl, by simp⟩
    | cons a r ih =>
      intro h
      have ha := h a List.mem_cons_self
      obtain ⟨i1, i2⟩ := ih (fun b hb => h b (List.mem_cons_of_mem _ hb))
      refine ⟨?_, ?_⟩
      · rw [runs_low (by omega), i1, Bool.and_true]
        simp [may, isDig]; omega
      · intro h32
        rcases List.mem_cons.1 h32 with e | e
        · rw [← e] at ha; simp at ha
        · exact i2 e
  have hne : ∀ u, Lib.decDigits u ≠ [] := fun u e => by
    have := Lib.nDigits_pos u
    rw [← dec_len, e] at this
    simp at this
  unfold txtI
  show runs may (Lib.itoa n) = true ∧ (32 : UInt8) ∉ Lib.itoa n ∧ Lib.itoa n ≠ []
  unfold Lib.itoa
  split
  · obtain ⟨i1, i2⟩ := key _ (Dg_dec n.natAbs)
    refine ⟨?_, ?_, by simp⟩
    · rw [runs_low (by decide), i1]; rfl
    · intro h
      rcases List.mem_cons.1 h with e | e
      · exact absurd e (by decide)
      · exact i2 e
  · obtain ⟨i1, i2⟩ := key _ (Dg_dec n.toNat)
    exact ⟨i1, i2, hne _⟩
theorem jn_len5 (c : UInt8) : ∀ (L : List (List UInt8)), (jn c L).length ≤ L.length + (L.map List.length).sum
  | [] => by simp [jn]
  | [a] => by simp [jn]
  | a :: b :: r => by
    have := jn_len5 c (b :: r)
    simp only [jn, List.length_append, List.length_cons, List.map_cons, List.sum_cons] at this ⊢
    omega
theorem runs_jn : ∀ L : List (List UInt8), (∀ a ∈ L, runs may a = true) → runs may (jn 32 L) = true
  | [], _ => rfl
  | [a], h => by simpa [jn] using h a List.mem_cons_self
  | a :: b :: r, h => by
    rw [jn]
    have h1 := h a List.mem_cons_self
    have h2 := runs_jn (b :: r) (fun x hx => h x (List.mem_cons_of_mem _ hx))
    rw [(runs_app _ a _ (Nat.le_refl _) h1).1, runs_blank, h2]
theorem wds_ok {L : List Int} : parts 32 (joinB (wds L)) = wds L ∧ hole (wds L) = false ∧ runs may (bl (joinB (wds L))) = true := by
  have hg : runs may (bl gridB) = true ∧ (32 : UInt8) ∉ bl gridB ∧ bl gridB ≠ [] := by decide
  have all : ∀ a ∈ (wds L).map bl, runs may a = true ∧ (32 : UInt8) ∉ a ∧ a ≠ [] := by
    intro a ha
    obtain ⟨x, hx, rfl⟩ := List.mem_map.1 ha
    unfold wds at hx
    rcases List.mem_cons.1 hx with e | hx
    · rw [e]; exact hg
    · obtain ⟨n, _, rfl⟩ := List.mem_map.1 hx
      exact txtI_may n
  have hne : (wds L).map bl ≠ [] := by simp [wds]
  refine ⟨parts_of_bl (by rw [join_bl, cutAt_jn 32 _ hne (fun a ha => (all a ha).2.1)]), ?_, ?_⟩
  · unfold hole
    rw [List.any_eq_false]
    intro x hx h0
    have := (all (bl x) (List.mem_map.2 ⟨x, hx, rfl⟩)).2.2
    apply this
    apply List.eq_nil_of_length_eq_zero
    rw [bl_len]
    simpa using h0
  · rw [join_bl]
    exact runs_jn _ (fun a ha => (all a ha).1)
theorem itoa_len6 (n : Int) (h1 : -100000 ≤ n) (h2 : n ≤ 100000) : (txtI n).size ≤ 7 := by
  have h := txt_dec n.natAbs
  have hl : (⟨(Lib.decDigits n.natAbs).toArray⟩ : ByteArray).size = (Lib.decDigits n.natAbs).length := rfl
  have hd : (Lib.decDigits n.natAbs).length ≤ 6 := by
    apply Decidable.byContradiction
    intro hc
    have hz : 6 < (⟨(Lib.decDigits n.natAbs).toArray⟩ : ByteArray).size := by rw [hl]; omega
    have hb := h.1.2.2 0 (by omega)
    have hn := h.1.2.1 (by omega)
    have := dv_ge (s := ⟨(Lib.decDigits n.natAbs).toArray⟩) ((⟨(Lib.decDigits n.natAbs).toArray⟩ : ByteArray).size - 1) (by omega)
    rw [show (⟨(Lib.decDigits n.natAbs).toArray⟩ : ByteArray).size - 1 + 1 = (⟨(Lib.decDigits n.natAbs).toArray⟩ : ByteArray).size by omega] at this
    have h6 : 10 ^ 6 ≤ 10 ^ ((⟨(Lib.decDigits n.natAbs).toArray⟩ : ByteArray).size - 1) := Nat.pow_le_pow_right (by omega) (by omega)
    have h7 := h.2
    unfold num at h7
    omega
  unfold txtI
  show (Lib.itoa n).length ≤ 7
  unfold Lib.itoa
  split
  · rw [List.length_cons]; omega
  · rw [show n.toNat = n.natAbs by omega]; omega
theorem sum_le_mul {α : Type} (f : α → Nat) (k : Nat) : ∀ l : List α, (∀ x ∈ l, f x ≤ k) → (l.map f).sum ≤ k * l.length
  | [], _ => by simp
  | a :: r, h => by
    have h1 := h a List.mem_cons_self
    have h2 := sum_le_mul f k r (fun x hx => h x (List.mem_cons_of_mem _ hx))
    rw [List.map_cons, List.sum_cons, List.length_cons, Nat.mul_succ]
    omega
theorem ln3_mem {S : List Ln} {n : Int} (h : n ∈ ln3 S) : ∃ l ∈ S, n = l.f ∨ n = l.t ∨ n = l.c := by
  induction S with
  | nil => simp [ln3] at h
  | cons a r ih =>
    rw [ln3] at h
    simp only [List.mem_cons] at h
    rcases h with h | h | h | h
    · exact ⟨a, List.mem_cons_self, Or.inl h⟩
    · exact ⟨a, List.mem_cons_self, Or.inr (Or.inl h)⟩
    · exact ⟨a, List.mem_cons_self, Or.inr (Or.inr h)⟩
    · obtain ⟨l, hl, e⟩ := ih h
      exact ⟨l, List.mem_cons_of_mem _ hl, e⟩
/-- A grid that may be is read back. -/
theorem psr_prt {g : Gr} (h : gok g = true) : Psr (prt g) (nms g) := by
  obtain ⟨h1, h2, h3, h4, h5⟩ := gok_iff.1 h
  have hall : ∀ n ∈ nms g, -100000 ≤ n ∧ n ≤ 100000 := by
    intro n hn
    unfold nms at hn
    simp only [List.mem_cons] at hn
    rcases hn with rfl | rfl | rfl | rfl | hn
    · omega
    · omega
    · omega
    · omega
    · obtain ⟨l, hl, e⟩ := ln3_mem hn
      have := lnok_iff.1 (h5 l hl)
      omega
  obtain ⟨w1, w2, w3⟩ := wds_ok (L := nms g)
  have hlen := nms_len g
  have hwl : (wds (nms g)).length = 5 + 3 * g.lines.length := by unfold wds; rw [List.length_cons, List.length_map, hlen]; omega
  have hsz : (prt g).size ≤ 200 := by
    show (ofL (jn 32 ((wds (nms g)).map bl))).size ≤ 200
    rw [ofL_size]
    have j1 := jn_len5 32 ((wds (nms g)).map bl)
    rw [List.length_map, hwl] at j1
    have e1 : (((wds (nms g)).map bl).map List.length).sum = 4 + ((nms g).map (fun n => (txtI n).size)).sum := by
      unfold wds
      rw [List.map_cons, List.map_cons, List.sum_cons, List.map_map, List.map_map]
      rfl
    have e2 := sum_le_mul (fun n => (txtI n).size) 7 (nms g) (fun n hn => itoa_len6 n (hall n hn).1 (hall n hn).2)
    rw [hlen] at e2
    omega
  have he : wordsE (prt g) = 0 := wordsE_ok (by omega) w3 (by show hole (parts 32 (joinB (wds (nms g)))) = false; rw [w1]; exact w2) (by show ¬ 16 < (parts 32 (joinB (wds (nms g)))).length; rw [w1, hwl]; omega)
  exact ⟨he, by rw [wordsL_ok he]; exact w1, fun n hn => by have := hall n hn; omega, by rw [hlen]; omega, by rw [hlen]; omega, by rw [grd_nms]; exact h⟩
end Go.Proofs.YteelnimchlgdmaaDoor
