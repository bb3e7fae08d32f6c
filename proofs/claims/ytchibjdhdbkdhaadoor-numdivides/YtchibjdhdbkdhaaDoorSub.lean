/- Sub: the difference of two numbers. -/
import Derived.Test.YtchibjdhdbkdhaaDoorAdd
import Derived.Test.YtchibjdhdbkdhaaDoorLaws
namespace Go.Proofs.YtchibjdhdbkdhaaDoor
open Go.RowKit
set_option linter.unusedVariables false
set_option maxRecDepth 100000
set_option linter.unusedSimpArgs false
attribute [local go_sem ↓] Go.wp_at_zero Go.wp_at_succ

/-- What 'a - b - c' is as a word, and what is borrowed. -/
def subT (a b c : Nat) : Nat := if b + c ≤ a then a - b - c else 18446744073709551616 + a - b - c
theorem subT_facts {a b c : Nat} (ha : a < 4294967296) (hb : b < 4294967296) (hc : c ≤ 1) : subT a b c < 18446744073709551616 ∧ subT a b c / 9223372036854775808 ≤ 1 ∧ subT a b c % 4294967296 + b + c = a + subT a b c / 9223372036854775808 * 4294967296 := by
  unfold subT; split <;> omega
theorem subT_wrap {a b c : Nat} (ha : a < 4294967296) (hb : b < 4294967296) (hc : c ≤ 1) : IntKind.u64.wrap (IntKind.u64.wrap ((a : Int) - (b : Int)) - (c : Int)) = ((subT a b c : Nat) : Int) := by
  rw [IntKind.wrap_u64, IntKind.wrap_u64]
  by_cases h : b + c ≤ a
  · rw [subT, if_pos h]; omega
  · rw [subT, if_neg h]; omega
def SubRel (A B S : List Nat) (n k d : Nat) : Prop := S.length = n ∧ Bd S ∧ pv S k + pv B k = pv A k + d * 4294967296 ^ k
theorem sub_next (A B S : List Nat) (n k d t q : Nat) (hk : k < n) (ht : t < 4294967296) (he : t + lg B k + d = lg A k + q * 4294967296) (h : SubRel A B S n k d) : SubRel A B (S.set k t) n (k + 1) q := by
  obtain ⟨h1, h2, h3⟩ := h
  refine ⟨by simpa using h1, Bd_set h2 _ _ ht, ?_⟩
  simp only [pv]
  rw [pv_set_past S k _ k (Nat.le_refl _), lg_set_same S k _ (by omega), Nat.pow_succ]
  generalize 4294967296 ^ k = p at *
  have e1 : (t + lg B k + d) * p = (lg A k + q * 4294967296) * p := by rw [he]
  rw [Nat.add_mul, Nat.add_mul, Nat.add_mul] at e1
  have e2 : q * (p * 4294967296) = q * 4294967296 * p := by rw [Nat.mul_comm p, ← Nat.mul_assoc]
  rw [e2]
  omega
theorem sub_done (A B S : List Nat) (n d : Nat) (ha : A.length = n) (hb : B.length ≤ n) (hle : val B ≤ val A) (h : SubRel A B S n n d) : val S = val A - val B := by
  obtain ⟨h1, h2, h3⟩ := h
  rw [pv_val S n (by omega), pv_val B n hb, pv_val A n (by omega)] at h3
  have h4 := val_lt h2
  rw [h1] at h4
  rcases Nat.eq_zero_or_pos d with e | e
  · rw [e] at h3; omega
  · have : 1 * 4294967296 ^ n ≤ d * 4294967296 ^ n := Nat.mul_le_mul_right _ e
    omega
theorem len_le_of_val {A B : List Nat} (bA : Bd A) (tB : Top B) (h : val B ≤ val A) : B.length ≤ A.length := by
  rcases Nat.lt_or_ge A.length B.length with e | e
  · have := val_lt_len bA tB e; omega
  · exact e
theorem two_keep {X : World} {p q : Nat} {a b : Value} (h1 : X.cell? ⟨p, 0, none⟩ = some a) (h2 : X.cell? ⟨q, 0, none⟩ = some b) (o : Obj) : (X.alloc o).cell? ⟨p, 0, none⟩ = some a ∧ (X.alloc o).cell? ⟨q, 0, none⟩ = some b :=
  ⟨(Below.cell ((Below.refl X.heap.size X).alloc (Nat.le_refl _) o) (World.block_lt_of_cell? X _ h1)).trans h1, (Below.cell ((Below.refl X.heap.size X).alloc (Nat.le_refl _) o) (World.block_lt_of_cell? X _ h2)).trans h2⟩
set_option maxHeartbeats 1000000 in
theorem sub_walk (w : World) (aa ab : Option Addr) (na ca nb cb : Nat) (A B : List Nat) (hA : Bd A) (hB : Bd B) (tA : Top A) (tB : Top B) (hna : na ≤ 1000000000) (hnb : nb ≤ 1000000000) (hAl : A.length = na) (hBl : B.length = nb)
    (oa : Limbs w (.slice aa na ca) A) (ob : Limbs w (.slice ab nb cb) B) (hle : val B ≤ val A) :
    Calls Tryd.prog 95 #[.agg #[.slice aa na ca], .agg #[.slice ab nb cb]] w fun e w' => ∃ v, e = .returned (.tuple #[v, .int .i64 0]) ∧ NatIs w' v (val A - val B) na ∧ Below w.heap.size w w' := by
  obtain ⟨i0, hi, hz0, hz1, hz2⟩ := info_parts Tryd.info73
  have hx0 : (((w.alloc (Obj.cells #[Value.slice aa na ca] 24)).alloc (Obj.cells #[Value.slice ab nb cb] 24)).alloc (Obj.cells #[Value.slice none 0 0] 24)).heap[w.heap.size]? = some (Obj.cells #[Value.slice aa na ca] 24) := box_alloc (box_alloc (box_new _ _) _) _
  have hy0 : (((w.alloc (Obj.cells #[Value.slice aa na ca] 24)).alloc (Obj.cells #[Value.slice ab nb cb] 24)).alloc (Obj.cells #[Value.slice none 0 0] 24)).heap[w.heap.size + 1]? = some (Obj.cells #[Value.slice ab nb cb] 24) := by
    have := box_alloc (box_new (w.alloc (Obj.cells #[Value.slice aa na ca] 24)) (Obj.cells #[Value.slice ab nb cb] 24)) (Obj.cells #[Value.slice none 0 0] 24); simpa using this
  have hz0' : (((w.alloc (Obj.cells #[Value.slice aa na ca] 24)).alloc (Obj.cells #[Value.slice ab nb cb] 24)).alloc (Obj.cells #[Value.slice none 0 0] 24)).heap[w.heap.size + 1 + 1]? = some (Obj.cells #[Value.slice none 0 0] 24) := by
    have := box_new ((w.alloc (Obj.cells #[Value.slice aa na ca] 24)).alloc (Obj.cells #[Value.slice ab nb cb] 24)) (Obj.cells #[Value.slice none 0 0] 24); simpa using this
  have hw0 : Below w.heap.size w (((w.alloc (Obj.cells #[Value.slice aa na ca] 24)).alloc (Obj.cells #[Value.slice ab nb cb] 24)).alloc (Obj.cells #[Value.slice none 0 0] 24)) := (((Below.refl _ _).alloc (Nat.le_refl _) _).alloc (by simp) _).alloc (by simp; omega) _
  have na0 : NatIs w (.agg #[.slice aa na ca]) (val A) na := ⟨_, A, rfl, oa, hA, tA, rfl, by omega⟩
  have nb0 : NatIs w (.agg #[.slice ab nb cb]) (val B) nb := ⟨_, B, rfl, ob, hB, tB, rfl, by omega⟩
  have hlb := len_le_of_val hA tB hle
  have HA := hid (And.intro hAl (And.intro hlb hle))
  obtain ⟨q, hq⟩ : ∃ q, cmpI (val A) (val B) = q := ⟨_, rfl⟩
  have hq0 : ¬ q < 0 := by rw [← hq]; unfold cmpI; split <;> (try split) <;> omega
  have HQ := hid hq
  clear hAl hBl hlb hle hq
  go_enter Tryd.func95, Tryd.ntmps95
  go_wp2_with fail
  generalize ((w.alloc (Obj.cells #[Value.slice aa na ca] 24)).alloc (Obj.cells #[Value.slice ab nb cb] 24)).alloc (Obj.cells #[Value.slice none 0 0] 24) = W at *
  refine (cmp_any W _ _ _ _ _ _ (na0.below hw0) (nb0.below hw0)).mono ?_
  rintro e wc ⟨rfl, hbc⟩
  rw [HQ.out]
  have hx := box_below hbc hx0 (lt_of_block hx0)
  have hy := box_below hbc hy0 (lt_of_block hy0)
  have hz := box_below hbc hz0' (lt_of_block hz0')
  have hwc := chain2 hw0 hbc
  have lz := lt_of_block hz
  have cx := cell_of_one hx
  have cy := cell_of_one hy
  clear hx0 hy0 hz0' hw0 hbc na0 nb0
  go_wp2_with (first | (at_make; refine wpList_make_full _ rfl _ _ 22 rfl wc.heap.size 73 i0 (.int .u32 0) 1 Tryd.underlying22 hi hz0 hz1 _ _ _ _ na rfl rfl rfl rfl (by rw [hz2]; omega) (by unfold maxLen; omega) (Nat.le_refl _) ?_))
  intro w1 hown hgrow
  have hb1 : Below wc.heap.size wc w1 := (Below.refl wc.heap.size wc).grown hgrow (Nat.le_refl _) (by intro k hk; simp at hk)
  simp only [toList_madeCells_one, Value.cells, Nat.mul_one] at hown
  rw [← u32s_rep] at hown
  clear hgrow cx cy
  go_wp2
  go_loopw [7, 21] (fun c i wr => ∃ (k d : Nat) (S : List Nat), k ≤ na ∧ i = .int .i64 k ∧ c = .int .u64 d ∧ d ≤ 1 ∧ SubRel A B S na k d ∧
      wr.ownsRow wc.heap.size 73 1 (.slice (some ⟨wc.heap.size, 0, none⟩) na na) na (u32s S) ∧ Below wc.heap.size wc wr) (fun _ i _ => na - (intOf i).toNat)
  case atStart => exact ⟨0, 0, List.replicate na 0, Nat.zero_le _, rfl, rfl, by omega, ⟨by simp, Bd_rep _, by simp [pv]⟩, hown, hb1⟩
  case round =>
    obtain ⟨k, d, S, hk, rfl, rfl, hd, hR, hown', hbel⟩ := hrel
    have R := hid hR
    clear hR hown hb1
    have hbw : Below w.heap.size w wr := chain2 hwc hbel
    have e1 := cell_of_one (box_below hbel hx (lt_of_block hx))
    have e2 := cell_of_one (box_below hbel hy (lt_of_block hy))
    have hsz : w.heap.size ≤ wr.heap.size := hbw.size
    by_cases hlt : k < na
    · go_wp2
      have K0 : wr.drew.cell? ⟨w.heap.size, 0, none⟩ = some (.slice aa na ca) ∧ wr.drew.cell? ⟨w.heap.size + 1, 0, none⟩ = some (.slice ab nb cb) := ⟨e1, e2⟩
      go_region_held3 (fun w' => w'.cell? ⟨w.heap.size, 0, none⟩ = some (.slice aa na ca) ∧ w'.cell? ⟨w.heap.size + 1, 0, none⟩ = some (.slice ab nb cb)) ((first | exact K0 | exact K1 | exact K2)) (first | (go_at_call_of 80 (Value.agg #[Value.slice aa na ca]); refine (limb_at w _ _ A hA oa ?_ k).mono ?_; exact hbw.drew; rintro e w' ⟨rfl, c1, rfl⟩; have K1 := two_keep e1 e2 (Obj.cells c1 24)) | (go_at_call_of 80 (Value.agg #[Value.slice ab nb cb]); refine (limb_at w _ _ B hB ob ?_ k).mono ?_; (first | exact hbw.drew.alloc hsz _ | exact (hbw.alloc hsz _).drew); rintro e w' ⟨rfl, c2, rfl⟩; have K2 := two_keep K1.1 K1.2 (Obj.cells c2 24)))
      rw [subT_wrap (hA k) (hB k) hd]
      have F := subT_facts (hA k) (hB k) hd
      have HN := hid (sub_next A B S na k d _ _ hlt (Nat.mod_lt _ (by omega)) F.2.2 R.out)
      have hT := F.1
      have hq1 := F.2.1
      generalize subT (lg A k) (lg B k) d = T at *
      have own2 : ((wr.alloc (Obj.cells c1 24)).alloc (Obj.cells c2 24)).drew.ownsRow wc.heap.size 73 1 (.slice (some ⟨wc.heap.size, 0, none⟩) na na) na (u32s S) := ((hown'.alloc _).alloc _).drew
      have bel2 : Below wc.heap.size wc ((wr.alloc (Obj.cells c1 24)).alloc (Obj.cells c2 24)).drew := (below_alloc' (below_alloc' hbel (Nat.le_refl _) _) (Nat.le_refl _) _).drew
      clear K0 K1 K2
      generalize ((wr.alloc (Obj.cells c1 24)).alloc (Obj.cells c2 24)).drew = w2 at *
      clear hown' hbel hbw e1 e2 hsz F
      have hst := u32s_at own2 k (by rw [R.out.1]; omega)
      have hfr := own2.frozenAt k
      have own3 := own2.stored k (.int .u32 ((T % 4294967296 : Nat) : Int))
      rw [← u32s_set] at own3
      rw [show ((T % 4294967296 : Nat) : Int) = (T : Int) % 4294967296 by omega] at own3
      have HO := hid own3
      clear own3 own2
      go_wp2
      go_roundw
      case rel => exact ⟨k + 1, T / 9223372036854775808, S.set k (T % 4294967296), by omega, by go_num, by go_num, hq1, HN.out, HO.out.1, bel2.setCell (Nat.le_refl _) _⟩
      case measure => simp [intOf]; omega
    · have hk' : k = na := by omega
      have hz' := box_below hbel hz (lt_of_block hz)
      have hZ := cell_of_one hz'
      have hF := free_of_one hz'
      have HV := hid (sub_done A B S na d HA.out.1 (by have := HA.out; omega) HA.out.2.2 (by have := R.out; rw [hk'] at this; exact this))
      clear hk' e1 e2 hx hy hz
      go_wp2_with fail
      refine (trim_base wr wc.heap.size _ S R.out.2.1 ?_).mono ?_
      · rw [R.out.1]; exact hown'
      clear hown'
      rintro e w' ⟨⟨v', M, rfl, hM, bM, tM, vM, lM⟩, rfl⟩
      obtain ⟨ao, cp, hv⟩ := Limbs.slice (ownsRow_base0 hM)
      rw [hv]
      rw [hv] at hM
      clear hv
      have HM := hid vM
      clear vM
      have hM2 := ownsRow_setCell_below hM (a := ⟨w.heap.size + 1 + 1, 0, none⟩) (by exact lz) (.slice ao M.length cp)
      clear hM
      have hB2 := hbw.setCell (p := ⟨w.heap.size + 1 + 1, 0, none⟩) (by show w.heap.size ≤ w.heap.size + 1 + 1; omega) (.slice ao M.length cp)
      have hr := cell_of_one (one_setCell (u := .slice ao M.length cp) hz')
      have HRr := hid hr
      clear hr hz'
      go_wp2
      refine bodyPost_ret (v := .tuple #[.agg #[.slice ao M.length cp], .int .i64 0]) (by simp [results, Tryd.results95, go_sem, HRr.out]) rfl ⟨_, rfl, ⟨_, M, rfl, ownsRow_base0 hM2, bM, tM, ?_, ?_⟩, hB2⟩
      · rw [HM.out]; exact HV.out
      · have := R.out.1; omega
set_option maxHeartbeats 400000 in
theorem sub_below (w : World) (aa ab : Option Addr) (la ca lb cb m n K K' : Nat) (ha : NatIs w (.agg #[.slice aa la ca]) m K) (hb : NatIs w (.agg #[.slice ab lb cb]) n K') (h : m < n) :
    Calls Tryd.prog 95 #[.agg #[.slice aa la ca], .agg #[.slice ab lb cb]] w fun e w' => e = .returned (.tuple #[.agg #[.slice none 0 0], .int .i64 11]) ∧ Below w.heap.size w w' := by
  have hz0' : (((w.alloc (Obj.cells #[Value.slice aa la ca] 24)).alloc (Obj.cells #[Value.slice ab lb cb] 24)).alloc (Obj.cells #[Value.slice none 0 0] 24)).heap[w.heap.size + 1 + 1]? = some (Obj.cells #[Value.slice none 0 0] 24) := by
    have := box_new ((w.alloc (Obj.cells #[Value.slice aa la ca] 24)).alloc (Obj.cells #[Value.slice ab lb cb] 24)) (Obj.cells #[Value.slice none 0 0] 24); simpa using this
  have hw0 : Below w.heap.size w (((w.alloc (Obj.cells #[Value.slice aa la ca] 24)).alloc (Obj.cells #[Value.slice ab lb cb] 24)).alloc (Obj.cells #[Value.slice none 0 0] 24)) := (((Below.refl _ _).alloc (Nat.le_refl _) _).alloc (by simp) _).alloc (by simp; omega) _
  go_enter Tryd.func95, Tryd.ntmps95
  go_wp2_with fail
  generalize ((w.alloc (Obj.cells #[Value.slice aa la ca] 24)).alloc (Obj.cells #[Value.slice ab lb cb] 24)).alloc (Obj.cells #[Value.slice none 0 0] 24) = W at *
  refine (cmp_any W _ _ _ _ _ _ (ha.below hw0) (hb.below hw0)).mono ?_
  rintro e wc ⟨rfl, hbc⟩
  rw [cmpI_lt h]
  have hz := box_below hbc hz0' (lt_of_block hz0')
  have hwc := chain2 hw0 hbc
  have cz := cell_of_one hz
  have fz := free_of_one hz
  have hr := cell_of_one (one_setCell (u := .slice none 0 0) hz)
  have hB2 := hwc.setCell (p := ⟨w.heap.size + 1 + 1, 0, none⟩) (by show w.heap.size ≤ w.heap.size + 1 + 1; omega) (.slice none 0 0)
  have HR := hid hr
  clear hz hz0' hr
  go_wp2
  exact bodyPost_ret (v := .tuple #[.agg #[.slice none 0 0], .int .i64 11]) (by simp [results, Tryd.results95, go_sem, HR.out]) rfl ⟨rfl, hB2⟩
/-- Sub where it is not below 0: the difference. -/
theorem sub_any (w : World) (a b : Value) (m n K K' : Nat) (hK : K ≤ 1000000000) (hK' : K' ≤ 1000000000) (ha : NatIs w a m K) (hb : NatIs w b n K') (h : n ≤ m) :
    Calls Tryd.prog 95 #[a, b] w fun e w' => ∃ v, e = .returned (.tuple #[v, .int .i64 0]) ∧ NatIs w' v (m - n) K ∧ Below w.heap.size w w' := by
  obtain ⟨sa, A, rfl, oa, bA, tA, rfl, lA⟩ := ha
  obtain ⟨sb, B, rfl, ob, bB, tB, rfl, lB⟩ := hb
  obtain ⟨aa, ca, rfl⟩ := oa.slice
  obtain ⟨ab, cb, rfl⟩ := ob.slice
  refine (sub_walk w aa ab A.length ca B.length cb A B bA bB tA tB (by omega) (by omega) rfl rfl oa ob h).mono ?_
  rintro e w' ⟨v, rfl, hv, hw⟩
  exact ⟨v, rfl, hv.mono lA, hw⟩
end Go.Proofs.YtchibjdhdbkdhaaDoor
