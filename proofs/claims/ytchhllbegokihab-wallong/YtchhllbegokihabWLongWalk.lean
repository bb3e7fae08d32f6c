/- The law WalLong. -/
import Derived.Test.YtchhllbegokihabWSumS
namespace Go.Proofs.Ytchhllbegokihab
open Go.RowKit
set_option linter.unusedVariables false
set_option maxRecDepth 100000
set_option linter.unusedSimpArgs false

/-- A text of noughts. -/
def zt (n : Nat) : ByteArray := ⟨(List.replicate n (0 : UInt8)).toArray⟩
theorem zt_size (n : Nat) : (zt n).size = n := by unfold zt; rw [size_list]; simp
theorem zt_conv {w : World} {base g : Nat} (n : Nat) (h : w.ownsRow base 5 1 (.slice (some ⟨g, 0, none⟩) n n) n (List.replicate n (Value.int .u8 0))) : (convert 29 9 (.slice (some ⟨g, 0, none⟩) n n)).run Try.prog w = .ok (.string (zt n)) w := by
  have hb : Lib.byteCells (List.replicate n (0 : UInt8)) = List.replicate n (Value.int .u8 0) := by simp [Lib.byteCells]
  have := bytes_conv (l := List.replicate n (0 : UInt8)) (w := w) (base := base) (g := g) (cap := n) (by rw [List.length_replicate, hb]; exact h)
  rw [List.length_replicate] at this
  exact this
/-- What an Append makes of a log on a disk that does what it is told: OK or full. -/
theorem append_both {D : Dsk} {L : Lg} {t : ByteArray} (s : ByteArray) (h : Hl D L t) (hC : Calm D) (hn : L.c.num ≤ 1000) (hs : s.size ≤ 65536) :
    ∃ D' L' t', (L.append D s).1 = D' ∧ (L.append D s).2.1 = L' ∧ Hl D' L' t' ∧ Calm D' ∧ D'.ops ≤ D.ops + 260 ∧ L'.c.num ≤ L.c.num + 1 ∧ ((t.size + s.size ≤ 32512 ∧ (L.append D s).2.2 = 0 ∧ t' = t ++ s) ∨ (32512 < t.size + s.size ∧ (L.append D s).2.2 = 50 ∧ t' = t)) := by
  obtain ⟨n1, n2, n3, n4⟩ := h.len
  by_cases hf : 32512 < t.size + s.size
  · rw [append_full h hf]
    exact ⟨D, L, t, rfl, rfl, h, hC, by omega, by omega, Or.inr ⟨hf, rfl, rfl⟩⟩
  · have hc := append_calm (s := s) hC h.er n3 (by rw [h.tail, tailT_size, n1]) (by omega)
    have hl := chg_len (f := L.c) (tl := L.tail) (s := s) (by rw [h.tail, tailT_size]; omega)
    obtain ⟨_, _, k⟩ := h.append (s := s) (by omega) (by omega)
    refine ⟨_, _, t ++ s, rfl, rfl, ?_, hc.2.1, by rw [hc.2.2.1]; omega, ?_, Or.inl ⟨by omega, hc.1, rfl⟩⟩
    · rcases k with ⟨_, k, _⟩ | ⟨k, _⟩
      · exact k
      · exact absurd hc.1 k
    · rw [hc.2.2.2.1]
      show (L.c.num + 1) % 18446744073709551616 ≤ _
      omega
set_option maxHeartbeats 4000000 in
theorem wlong_walk (n m : Nat) (w : World) (hn : n < 65536) (hm : m < 65536) :
    Calls Try.prog 3 #[.int .u16 (n : Int), .int .u16 (m : Int)] w fun e w' => e = .returned (.bool true) ∧ Below w.heap.size w w' := by
  obtain ⟨i0, hi, hz0, hz1, hz2⟩ := info_parts info_u8
  go_enter Try.func3, Try.ntmps3
  go_wp2_with fail
  refine (new_any w).mono ?_
  rintro e w1 ⟨rfl, hd1, b1⟩
  go_wp2_with fail
  refine (s_first w w1 w.heap.size w.heap.size (Nat.le_refl _) hd1 b1).mono ?_
  rintro e w2 ⟨l, rfl, st2, hl2, _⟩
  rw [show ByteArray.empty = (⟨#[]⟩ : ByteArray) from rfl]
  clear hd1 b1
  go_wp2_with (first | (at_make; refine wpList_make_full _ rfl _ _ 29 rfl w2.heap.size 5 i0 (.int .u8 0) 1 Try.underlying29 hi hz0 hz1 _ _ _ _ n rfl rfl (by omega) (by omega) (by rw [hz2]; omega) (by unfold maxLen; omega) (by simp) ?_))
  intro w3 hown hgrow
  have b3 : Below w2.heap.size w2 w3 := (Below.refl _ _).grown hgrow (by simp) (by intro k hk; simp at hk)
  simp only [toList_madeCells_one, Value.cells, Nat.mul_one] at hown
  have hcv := zt_conv n hown
  have hzs := zt_size n
  have st3 := st2.below b3
  have HB := hid (append_both (zt n) hl2 calm_new (by show (0 : Nat) ≤ _; omega) (by omega))
  have hap := s_append st3 (zt n) com0_fit hl2.len.2.2.2 (by omega) (by show (0 : Nat) + 1000 < _; omega)
  generalize zt n = zn at *
  obtain ⟨R, hR⟩ : ∃ R, R = Lg.append ⟨com0, tailT ByteArray.empty, 0⟩ Dsk.new zn := ⟨_, rfl⟩
  rw [← hR] at hap HB
  clear hR st2 hl2 b3 hgrow hown
  obtain ⟨D1, L1, e1⟩ := R
  simp only at hap HB
  obtain ⟨D', L', t1, r1, r2, hl1, hC1, hO1, hN1, hcase⟩ := HB.out
  subst r1
  subst r2
  clear HB
  have hO1' : D1.ops ≤ 260 := hO1
  have hN1' : L1.c.num ≤ 1 := hN1
  have ht1 : t1.size ≤ 32512 ∧ ((n ≤ 32512 ∧ e1 = 0 ∧ t1.size = n) ∨ (32512 < n ∧ e1 = 50 ∧ t1.size = 0)) := by
    refine ⟨hl1.len.2.1, ?_⟩
    rcases hcase with ⟨k1, k2, k3⟩ | ⟨k1, k2, k3⟩
    · left; rw [k3, ByteArray.size_append]; have : ByteArray.empty.size = 0 := rfl; omega
    · right; rw [k3]; have : ByteArray.empty.size = 0 := rfl; omega
  clear hcase hO1 hN1
  have hlen1 := hl1.len
  go_wp2_with fail
  refine hap.mono ?_
  rintro e w4 ⟨rfl, st4⟩
  clear hap hcv st3
  have hln := s_len st4
  rw [hlen1.1] at hln
  rcases ht1 with ⟨hts, ⟨a1, a2, a3⟩ | ⟨a1, a2, a3⟩⟩
  all_goals
    subst a2
    obtain ⟨q1, hq1⟩ : ∃ q1, t1.size = q1 := ⟨_, rfl⟩
    rw [hq1] at hln hlen1 hts
    have HQ := hid (And.intro hq1 a3)
    clear hq1 a3
    go_wp2_with fail
    refine hln.mono ?_
    rintro e w' ⟨rfl, rfl⟩
    clear hln hzs
    go_wp2_with (first | (at_make; refine wpList_make_full _ rfl _ _ 29 rfl w'.heap.size 5 i0 (.int .u8 0) 1 Try.underlying29 hi hz0 hz1 _ _ _ _ m rfl rfl (by omega) (by omega) (by rw [hz2]; omega) (by unfold maxLen; omega) (by simp) ?_))
    intro w5 hown hgrow
    have b5 : Below w'.heap.size w' w5 := (Below.refl _ _).grown hgrow (by simp) (by intro k hk; simp at hk)
    simp only [toList_madeCells_one, Value.cells, Nat.mul_one] at hown
    have hcv := zt_conv m hown
    have hzs := zt_size m
    have st5 := st4.below b5
    have HB := hid (append_both (zt m) hl1 hC1 (by omega) (by omega))
    have hap := s_append st5 (zt m) hlen1.2.2.1 hlen1.2.2.2 (by omega) (by omega)
    generalize zt m = zm at *
    obtain ⟨R, hR⟩ : ∃ R, R = L1.append D1 zm := ⟨_, rfl⟩
    rw [← hR] at hap HB
    clear hR st4 b5 hgrow hown
    obtain ⟨D2, L2, e2⟩ := R
    simp only at hap HB
    obtain ⟨D', L', t2, r1, r2, hl3, hC3, hO3, hN3, hcase⟩ := HB.out
    subst r1
    subst r2
    clear HB
    rw [HQ.out.1, hzs] at hcase
    have hlen3 := hl3.len
    have hO3' : D2.ops ≤ 520 := by omega
    have hN3' : L2.c.num ≤ 2 := by omega
    go_wp2_with fail
    refine hap.mono ?_
    rintro e w6 ⟨rfl, st6⟩
    clear hap hcv st5 hl1 hC1 hlen1 hzs hO3 hN3
    have hck := s_check st6 ⟨#[115, 104, 111, 114, 116]⟩ hlen3.2.2.1 (by show (5 : Nat) ≤ _; omega) (by omega)
    have hcc := checkpoint_calm (L := L2) (s := ⟨#[115, 104, 111, 114, 116]⟩) hC3 hl3.er (by show (5 : Nat) ≤ _; omega)
    have hch := hl3.checkpoint (s := ⟨#[115, 104, 111, 114, 116]⟩) (by show (5 : Nat) ≤ _; omega) (by omega)
    obtain ⟨R, hR⟩ : ∃ R, R = L2.checkpoint D2 ⟨#[115, 104, 111, 114, 116]⟩ := ⟨_, rfl⟩
    rw [← hR] at hck hcc hch
    clear hR
    obtain ⟨D3, L3, e3⟩ := R
    simp only at hck hcc hch
    obtain ⟨he3, hC4, hO4⟩ := hcc
    subst he3
    have hl4 : Hl D3 L3 ⟨#[115, 104, 111, 114, 116]⟩ ∧ L3.c.num = L2.c.num + 1 := by
      rcases hch.2.2 with ⟨_, k, _, k2⟩ | ⟨k, _⟩
      · exact ⟨k, k2⟩
      · exact absurd rfl k
    clear hch
    have hlen4 := hl4.1.len
    have h5 : L3.c.len = 5 := hlen4.1
    have hap4 : ∀ w7, St w.heap.size w w7 w.heap.size l D3 L3 → _ := fun w7 st7 => s_append st7 ⟨#[101, 114]⟩ hlen4.2.2.1 hlen4.2.2.2 (by show (2 : Nat) ≤ _; omega) (by omega)
    have hc4 := append_calm (L := L3) (s := ⟨#[101, 114]⟩) hC4 hl4.1.er hlen4.2.2.1 (by rw [hl4.1.tail, tailT_size, hlen4.1]) (by rw [h5]; show 5 + 2 ≤ 32512; omega)
    have hl5 := hl4.1.append (s := ⟨#[101, 114]⟩) (by show 5 + 2 ≤ 32512; omega) (by omega)
    obtain ⟨R, hR⟩ : ∃ R, R = L3.append D3 ⟨#[101, 114]⟩ := ⟨_, rfl⟩
    rw [← hR] at hap4 hc4 hl5
    clear hR
    obtain ⟨D5, L5, e5⟩ := R
    simp only at hap4 hc4 hl5
    obtain ⟨he5, hC5, _⟩ := hc4
    subst he5
    have hl6 : Hl D5 L5 ⟨#[115, 104, 111, 114, 116, 101, 114]⟩ := by
      rcases hl5.2.2 with ⟨_, k, _⟩ | ⟨k, _⟩
      · exact k
      · exact absurd rfl k
    clear hl5
    have hln4 := fun w7 (st7 : St w.heap.size w w7 w.heap.size l D3 L3) => s_len st7
    rw [h5] at hln4
    have hop := fun w8 (st8 : St w.heap.size w w8 w.heap.size l D5 L5) => s_open st8 (hl6.sz.now hl6.good)
    rcases hcase with ⟨c1, c2, _⟩ | ⟨c1, c2, _⟩
    all_goals
      subst c2
      first | (have c1' : (q1 : Int) + (m : Int) ≤ 32512 := by omega) | (have c1' : ¬ ((q1 : Int) + (m : Int) ≤ 32512) := by omega)
      go_wp2_with fail
      refine hck.mono ?_
      rintro e w7 ⟨rfl, st7⟩
      clear hck
      go_wp2_with fail
      refine (hln4 _ st7).mono ?_
      rintro e w' ⟨rfl, rfl⟩
      go_wp2_with fail
      refine (hap4 _ st7).mono ?_
      rintro e w8 ⟨rfl, st8⟩
      clear hap4 hln4 st7
      go_wp2_with fail
      refine (hop _ st8).mono ?_
      rintro e w9 ⟨l9, c9, t9, rfl, hTl, st9, _⟩
      obtain ⟨rfl, rfl, _⟩ := open_hl hl6.ok hl6.good hl6.sz hTl
      clear hop st8
      have hbel := st9.bel
      go_wp2
      go_ret
      exact ⟨rfl, hbel⟩
theorem wlong_any (n m : Int) (w : World) (hn : (Lit.int .u16 n).wf = true) (hm : (Lit.int .u16 m).wf = true) :
    Calls Try.prog 3 #[.int .u16 n, .int .u16 m] w fun e w' => e = .returned (.bool true) ∧ Below w.heap.size w w' := by
  have hn' : 0 ≤ n ∧ n < 65536 := by
    simp only [Lit.wf, IntKind.min, IntKind.max, IntKind.signed, IntKind.bits] at hn
    simp at hn
    omega
  have hm' : 0 ≤ m ∧ m < 65536 := by
    simp only [Lit.wf, IntKind.min, IntKind.max, IntKind.signed, IntKind.bits] at hm
    simp at hm
    omega
  obtain ⟨p, rfl⟩ : ∃ q : Nat, n = q := ⟨n.toNat, by omega⟩
  obtain ⟨q, rfl⟩ : ∃ q : Nat, m = q := ⟨m.toNat, by omega⟩
  exact wlong_walk p q w (by omega) (by omega)
end Go.Proofs.Ytchhllbegokihab
