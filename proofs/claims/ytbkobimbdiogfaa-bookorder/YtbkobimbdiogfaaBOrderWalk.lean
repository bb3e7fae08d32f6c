/- The law BookOrder. -/
import Derived.Test.YtbkobimbdiogfaaBOrdU
import Derived.BigQuiet
import Derived.Deep.QuietTactic
import Derived.Deep.RegionWith
namespace Go.Proofs.Ytbkobimbdiogfaa
open Go.RowKit Go.MapKept
set_option linter.unusedVariables false
set_option maxRecDepth 100000
set_option linter.unusedSimpArgs false

theorem info_Errno : (Try.prog.info? 49).map (fun i => (i.zero, i.size, i.bytes)) = some (some (.int .i64 0), 1, 8) := by kernel_rfl
theorem ls_cell {K : Nat → Prop} {base : Nat} {X : World} {va : Value} {p q : Ps} {rb : Nat} {R : Rf} {vf : Value} {L : List Int} (h : LS K base X va p q rb R vf L) {g : Nat} (hv : vf.ownBlock = some g) (k : Nat) {e : Int} (he : L[k]? = some e) : X.cell? ⟨g, k, none⟩ = some (.int .i64 e) := by
  obtain ⟨Oa, P, ac, cc, h1, h2, h3, _⟩ := h
  have := h3.cells hv k (.int .i64 e) (by unfold intV; rw [List.getElem?_map, he]; rfl)
  rw [add_off, Nat.zero_add] at this
  exact this
theorem empty_rb {w : World} {rb : Nat} (h : w.heap[rb]? = some (.cells #[.slice none 0 0] 45 (0, 0))) : RBx (fun i => i = rb) w rb firstO none 0 [] :=
  ⟨h, ⟨rfl, Or.inl ⟨rfl, rfl⟩⟩, by simp, by simp, by simp, (fun i hi => by subst hi; exact lt_of_block h), rfl, (fun g hg => by cases hg), by simp⟩
theorem ls_turn {Kp Ob : Nat → Prop} {base : Nat} {X : World} {va : Value} {p q : Ps} {rb : Nat} {R : Rf} {vf v2 : Value} {L : List Int} (h : LS Kp base X va p q rb R vf L) (hOb : ∀ i, Ob i → Kp i) (o2 : X.ownsRow base 49 1 v2 0 []) (h2 : ∀ g, v2.ownBlock = some g → Kp g ∧ ¬ Ob g) :
    LS (fun i => Ob i ∨ vf.ownBlock = some i) base X va p q rb R v2 [] ∧ X.ownsRow base 49 1 vf L.length (intV L) := by
  obtain ⟨Oa, P, ac, cc, h1, hr, h3, h4, h5, h6, h7, h8⟩ := h
  refine ⟨⟨Oa, P, ac, cc, h1, hr, o2, ?_, ?_, ?_, h7, ?_⟩, h3⟩
  · intro i hi
    refine ⟨(h4 i hi).1, fun hk => ?_⟩
    rcases hk with hk | hk
    · exact (h4 i hi).2 (hOb i hk)
    · exact (h8 i hk).1 hi
  · intro i hi
    refine ⟨(h5 i hi).1, fun hk => ?_⟩
    rcases hk with hk | hk
    · exact (h5 i hi).2 (hOb i hk)
    · exact (h8 i hk).2 hi
  · intro g hg hk
    rcases hk with hk | hk
    · exact (h2 g hg).2 hk
    · exact h6 g hk (h2 g hg).1
  · intro g hg
    exact ⟨fun ho => (h4 g ho).2 (h2 g hg).1, fun hp => (h5 g hp).2 (h2 g hg).1⟩
theorem LS.keep {K K' : Nat → Prop} {base : Nat} {X : World} {va : Value} {p q : Ps} {rb : Nat} {R : Rf} {vf : Value} {L : List Int} (h : LS K base X va p q rb R vf L) (hk : ∀ i, K' i → K i) : LS K' base X va p q rb R vf L := by
  obtain ⟨Oa, P, ac, cc, h1, hr, h3, h4, h5, h6, h7, h8⟩ := h
  exact ⟨Oa, P, ac, cc, h1, hr, h3, fun i hi => ⟨(h4 i hi).1, fun x => (h4 i hi).2 (hk i x)⟩, fun i hi => ⟨(h5 i hi).1, fun x => (h5 i hi).2 (hk i x)⟩, fun g hg x => h6 g hg (hk g x), h7, h8⟩
theorem all_kind {kd : Int} {N : List ByteArray} {S : ByteArray → Ps} {x : ByteArray × Od} (h : x ∈ allO kd N S) : x.2.kind = kd := by
  unfold allO at h
  obtain ⟨who, _, h⟩ := List.mem_flatMap.1 h
  unfold ofWho at h
  obtain ⟨o, ho, rfl⟩ := List.mem_map.1 h
  unfold selO at ho
  simpa using (List.mem_filter.1 ho).2
/-- The second book, apart from what is kept. -/
def LB (K : Nat → Prop) (base : Nat) (X : World) (vb : Value) (p q : Ps) : Prop := ∃ Ob, St2 Ob X vb p q ∧ ∀ i, Ob i → base ≤ i ∧ ¬ K i
section
variable {K : Nat → Prop} {base : Nat} {X X' : World} {vb : Value} {p q : Ps}
theorem LB.below (h : LB K base X vb p q) (b : Below X.heap.size X X') : LB K base X' vb p q := by
  obtain ⟨Ob, h1, h2⟩ := h
  exact ⟨Ob, h1.below b, h2⟩
theorem lb_first (h : LB K base X vb p q) (hb : base ≤ X.heap.size) (hK : ∀ i, K i → i < X.heap.size) (z : Kb) (hz : KbFits X z) (hql : z.Q.length ≤ 1000000000) :
    Calls Try.prog 14 #[vb, .string ⟨#[102, 105, 114, 115, 116]⟩, .agg (kbC z)] X fun e X' => e = .returned (.int .i64 (mayE p z)) ∧ Kx (fun i => base ≤ i ∧ ¬ K i) X X' ∧ LB K base X' vb (nx p z) q := by
  obtain ⟨Ob, h1, h2⟩ := h
  refine (st2_first h1 z hz hql).mono ?_
  rintro e X' ⟨rfl, k, hs⟩
  exact ⟨rfl, k.mono h2, _, hs, ls_new (P := Ob) h2 hb hK _⟩
theorem lb_second (h : LB K base X vb p q) (hb : base ≤ X.heap.size) (hK : ∀ i, K i → i < X.heap.size) (z : Kb) (hz : KbFits X z) (hql : z.Q.length ≤ 1000000000) :
    Calls Try.prog 14 #[vb, .string ⟨#[115, 101, 99, 111, 110, 100]⟩, .agg (kbC z)] X fun e X' => e = .returned (.int .i64 (mayE q z)) ∧ Kx (fun i => base ≤ i ∧ ¬ K i) X X' ∧ LB K base X' vb p (nx q z) := by
  obtain ⟨Ob, h1, h2⟩ := h
  refine (st2_second h1 z hz hql).mono ?_
  rintro e X' ⟨rfl, k, hs⟩
  exact ⟨rfl, k.mono h2, _, hs, ls_new (P := Ob) h2 hb hK _⟩
end
set_option maxHeartbeats 32000000 in
theorem bookOrder_any (a1 : Option Addr) (l1 c1 : Nat) (z1 : Nat → Kb) (a2 : Option Addr) (l2 c2 : Nat) (z2 : Nat → Kb) (a3 : Option Addr) (l3 c3 : Nat) (pk : Nat → Bool) (w : World) (h1 : IsKbs w a1 l1 c1 z1) (h2 : IsKbs w a2 l2 c2 z2) (h3 : IsBools w a3 l3 c3 pk) :
    Calls Try.prog 4 #[.slice a1 l1 c1, .slice a2 l2 c2, .slice a3 l3 c3] w fun e w' => e = .returned (.bool true) ∧ Below w.heap.size w w' := by
  obtain ⟨i0, hi0, hz0, hz1, hz2⟩ := info_parts info_Errno
  have hlen1 := h1.len
  have hlen2 := h2.len
  have hlen3 := h3.len
  have H1 := hid h1
  have H2 := hid h2
  have H3 := hid h3
  clear h1 h2 h3
  go_enter Try.func4, Try.ntmps4
  go_wp2_with fail
  refine (heavy10_any w a1 l1 c1 z1 H1.out).mono ?_
  rintro e w1 ⟨hr, b1⟩
  rcases hr with rfl | ⟨rfl, hl1, hq1⟩
  · go_wp2
    go_ret
    exact ⟨rfl, b1⟩
  have HQ1 := hid (show ∀ n, n < l1 → (z1 n).Q.length ≤ 1000000000 from fun n hn => Nat.le_trans (hq1 n hn) (by decide))
  clear hq1
  go_wp2_with fail
  refine (heavy10_any w1 a2 l2 c2 z2 (H2.out.below b1)).mono ?_
  rintro e w2 ⟨hr, b2⟩
  have B2 := chain2 b1 b2
  clear b1 b2
  rcases hr with rfl | ⟨rfl, hl2, hq2⟩
  · go_wp2
    go_ret
    exact ⟨rfl, B2⟩
  have HQ2 := hid (show ∀ n, n < l2 → (z2 n).Q.length ≤ 1000000000 from fun n hn => Nat.le_trans (hq2 n hn) (by decide))
  clear hq2
  by_cases hp : (512 : Int) < (l3 : Int)
  · have hp' : decide ((512 : Int) < (l3 : Int)) = true := by simpa using hp
    go_wp2
    go_ret
    exact ⟨rfl, B2⟩
  have hp' : decide ((512 : Int) < (l3 : Int)) = false := by simpa using hp
  go_wp2_with fail
  refine (new_any w2).mono ?_
  rintro e w3 ⟨va, rfl, b3, hbk3⟩
  go_wp2_with fail
  refine (new_any w3).mono ?_
  rintro e w4 ⟨vb, rfl, b4, hbk4⟩
  have qa0 : St2 (fun i => w2.heap.size ≤ i ∧ i < w3.heap.size) w3 va ps0 ps0 := ⟨_, _, hbk3, rfl, rfl, fun _ _ _ => rfl, fun x hx => by cases hx⟩
  have qb0 : St2 (fun i => w3.heap.size ≤ i ∧ i < w4.heap.size) w4 vb ps0 ps0 := ⟨_, _, hbk4, rfl, rfl, fun _ _ _ => rfl, fun x hx => by cases hx⟩
  have B4 := chain2 (chain2 B2 b3) b4
  have s23 := b3.size
  have s34 := b4.size
  have hB2 := B2.size
  have qa1 := qa0.below b4
  obtain ⟨vab, rfl⟩ : ∃ x, va = .pointer x := by obtain ⟨C, bb, lb, ab, el, ea, cl, ca, hv, hb⟩ := hbk3; exact ⟨_, hv⟩
  obtain ⟨vbb, rfl⟩ : ∃ x, vb = .pointer x := by obtain ⟨C, bb, lb, ab, el, ea, cl, ca, hv, hb⟩ := hbk4; exact ⟨_, hv⟩
  clear hbk3 hbk4 b3 b4 qa0
  have B5 : Below w4.heap.size w4 (((w4.alloc (.cells #[.slice none 0 0] 45)).alloc (.cells #[] 49)).alloc (.cells #[] 49)) := three_below w4 _ _ _
  have e5 : (((w4.alloc (.cells #[.slice none 0 0] 45)).alloc (.cells #[] 49)).alloc (.cells #[] 49)).heap[w4.heap.size]? = some (.cells #[.slice none 0 0] 45 (0, 0)) := (heap_alloc_old _ _ (by simp; omega)).trans ((heap_alloc_old _ _ (by simp)).trans (heap_alloc_last w4 _))
  have o51 : (((w4.alloc (.cells #[.slice none 0 0] 45)).alloc (.cells #[] 49)).alloc (.cells #[] 49)).ownsRow w2.heap.size 49 1 (.slice (some ⟨w4.heap.size + 1, 0, none⟩) 0 0) 0 [] := by
    have := (World.ownsRow_made (base := w2.heap.size) (e := 49) (size := 1) (w4.alloc (.cells #[.slice none 0 0] 45)) #[] 0 (by simp; omega) (Nat.zero_le _) (by simp)).alloc (.cells #[] 49)
    simpa using this
  have o52 : (((w4.alloc (.cells #[.slice none 0 0] 45)).alloc (.cells #[] 49)).alloc (.cells #[] 49)).ownsRow w2.heap.size 49 1 (.slice (some ⟨w4.heap.size + 1 + 1, 0, none⟩) 0 0) 0 [] := by
    have := World.ownsRow_made (base := w2.heap.size) (e := 49) (size := 1) ((w4.alloc (.cells #[.slice none 0 0] 45)).alloc (.cells #[] 49)) #[] 0 (by simp; omega) (Nat.zero_le _) (by simp)
    simpa using this
  have s5 : (((w4.alloc (.cells #[.slice none 0 0] 45)).alloc (.cells #[] 49)).alloc (.cells #[] 49)).heap.size = w4.heap.size + 3 := by simp
  have S5 := hid s5
  clear s5
  go_wp2
  generalize (((w4.alloc (.cells #[.slice none 0 0] 45)).alloc (.cells #[] 49)).alloc (.cells #[] 49)) = W5 at *
  have BW5 := chain2 B4 B5
  have QA := hid (qa1.below B5)
  have QB := hid (qb0.below B5)
  have O52 := hid o52
  obtain ⟨Kp, HKP⟩ : ∃ Kp : Nat → Prop, Hid (∀ i, Kp i ↔ ((w3.heap.size ≤ i ∧ i < w4.heap.size) ∨ i = w4.heap.size + 1 + 1)) := ⟨fun i => (w3.heap.size ≤ i ∧ i < w4.heap.size) ∨ i = w4.heap.size + 1 + 1, hid (fun i => Iff.rfl)⟩
  have HLS0 : LS Kp w2.heap.size W5 (.pointer vab) ps0 ps0 w4.heap.size [] (.slice (some ⟨w4.heap.size + 1, 0, none⟩) 0 0) [] := by
    refine ⟨_, _, none, 0, QA.out, empty_rb e5, o51, ?_, ?_, ?_, ?_, ?_⟩
    · intro i hi
      exact ⟨hi.1, fun hk => by have := (HKP.out i).1 hk; omega⟩
    · intro i hi
      subst hi
      exact ⟨by omega, fun hk => by have := (HKP.out _).1 hk; omega⟩
    · intro g hg hk
      simp only [Value.ownBlock, Option.some.injEq] at hg
      have := (HKP.out g).1 hk
      omega
    · intro i hi hp
      omega
    · intro g hg
      simp only [Value.ownBlock, Option.some.injEq] at hg
      exact ⟨fun hk => by omega, fun hk => by omega⟩
  have HKL := hid (show ∀ i, Kp i → i < W5.heap.size from fun i hi => by have := (HKP.out i).1 hi; have := S5.out; omega)
  have HKD2 := hid (show Kp (w4.heap.size + 1 + 1) from (HKP.out _).2 (Or.inr rfl))
  obtain ⟨Ob0, QN, HKD, HOB2, HOB3⟩ : ∃ Ob0 : Nat → Prop, Hid (St2 Ob0 W5 (.pointer vbb) ps0 ps0) ∧ Hid (∀ i, Ob0 i → Kp i) ∧ Hid (¬ Ob0 (w4.heap.size + 1 + 1)) ∧ Hid (∀ i, Ob0 i → w2.heap.size ≤ i) := ⟨_, QB, hid (fun i hi => (HKP.out i).2 (Or.inl hi)), hid (fun hh => by omega), hid (fun i hi => by omega)⟩
  have hbase : w2.heap.size ≤ W5.heap.size := by have := S5.out; omega
  generalize w2.heap.size = bs at *
  generalize w4.heap.size = rb at *
  have HREF0 := hid ref0
  have hbsw : w.heap.size ≤ bs := hB2
  clear e5 o51 o52 qa1 qb0 B4 B5 HKP S5 QA QB
  go_loopw [10, 12] (fun f i wr => ∃ (k : Nat) (R : Rf), k ≤ l1 ∧ i = .int .i64 (k : Int) ∧ Hid (LS Kp bs wr (.pointer vab) (runN z1 k) ps0 rb R f (errN z1 k)) ∧ Hid (Ref R (runN z1 k)) ∧ Kx (fun i => bs ≤ i ∧ ¬ Kp i) W5 wr) (fun _ i _ => l1 - (intOf i).toNat)
  case atStart => exact ⟨0, [], Nat.zero_le _, rfl, HLS0, HREF0, Kx.refl _ _⟩
  case round =>
    obtain ⟨k, R, hk, rfl, HLS, HRF, KW⟩ := hrel
    have bw : Below w.heap.size w wr := BW5.trans (KW.below BW5.size (fun i hi => by have := hi.1; omega))
    by_cases hlt : k < l1
    · have HEN2 := hid (errN_succ z1 k)
      have HSN := hid HLS.out.sane.1
      obtain ⟨b, off, rfl, hst, hfit, hl, hc, hbl⟩ := H1.out.at k hlt
      have hst2 := hst.kx (S := fun _ => False) (Kx.of_below bw) (fun h => h)
      obtain ⟨va, vc, hv, hv1, hv2⟩ := hfit.ints.slice
      unfold maxLen at hv2
      have hk : kbC (z1 k) = #[.int .i64 (z1 k).kind, .int .i64 (z1 k).cents, .int .i64 (z1 k).seq, .string (z1 k).swho, .int .i64 (z1 k).sseq, .int .i64 (z1 k).szone, .int .i64 (z1 k).shour, .bool (z1 k).sbuy, .int .i64 (z1 k).sqty, .int .i64 (z1 k).sprice, .string (z1 k).bwho, .int .i64 (z1 k).bseq, .int .i64 (z1 k).bzone, .bool (z1 k).bbuy, .int .i64 (z1 k).bprice, .slice va (z1 k).Q.length vc, .int .i64 (z1 k).parent, .int .i64 (z1 k).group] := by unfold kbC; rw [hv]
      have k0 : wr.cell? ⟨b, off + k * 19 + 1, none⟩ = some (.int .i64 (z1 k).kind) := hst2.ask 0 (.int .i64 (z1 k).kind) (by rw [hk]; rfl)
      have k1 : wr.cell? ⟨b, off + k * 19 + 2, none⟩ = some (.int .i64 (z1 k).cents) := hst2.ask 1 (.int .i64 (z1 k).cents) (by rw [hk]; rfl)
      have k2 : wr.cell? ⟨b, off + k * 19 + 3, none⟩ = some (.int .i64 (z1 k).seq) := hst2.ask 2 (.int .i64 (z1 k).seq) (by rw [hk]; rfl)
      have k3 : wr.cell? ⟨b, off + k * 19 + 4, none⟩ = some (.string (z1 k).swho) := hst2.ask 3 (.string (z1 k).swho) (by rw [hk]; rfl)
      have k4 : wr.cell? ⟨b, off + k * 19 + 5, none⟩ = some (.int .i64 (z1 k).sseq) := hst2.ask 4 (.int .i64 (z1 k).sseq) (by rw [hk]; rfl)
      have k5 : wr.cell? ⟨b, off + k * 19 + 6, none⟩ = some (.int .i64 (z1 k).szone) := hst2.ask 5 (.int .i64 (z1 k).szone) (by rw [hk]; rfl)
      have k6 : wr.cell? ⟨b, off + k * 19 + 7, none⟩ = some (.int .i64 (z1 k).shour) := hst2.ask 6 (.int .i64 (z1 k).shour) (by rw [hk]; rfl)
      have k7 : wr.cell? ⟨b, off + k * 19 + 8, none⟩ = some (.bool (z1 k).sbuy) := hst2.ask 7 (.bool (z1 k).sbuy) (by rw [hk]; rfl)
      have k8 : wr.cell? ⟨b, off + k * 19 + 9, none⟩ = some (.int .i64 (z1 k).sqty) := hst2.ask 8 (.int .i64 (z1 k).sqty) (by rw [hk]; rfl)
      have k9 : wr.cell? ⟨b, off + k * 19 + 10, none⟩ = some (.int .i64 (z1 k).sprice) := hst2.ask 9 (.int .i64 (z1 k).sprice) (by rw [hk]; rfl)
      have k10 : wr.cell? ⟨b, off + k * 19 + 11, none⟩ = some (.string (z1 k).bwho) := hst2.ask 10 (.string (z1 k).bwho) (by rw [hk]; rfl)
      have k11 : wr.cell? ⟨b, off + k * 19 + 12, none⟩ = some (.int .i64 (z1 k).bseq) := hst2.ask 11 (.int .i64 (z1 k).bseq) (by rw [hk]; rfl)
      have k12 : wr.cell? ⟨b, off + k * 19 + 13, none⟩ = some (.int .i64 (z1 k).bzone) := hst2.ask 12 (.int .i64 (z1 k).bzone) (by rw [hk]; rfl)
      have k13 : wr.cell? ⟨b, off + k * 19 + 14, none⟩ = some (.bool (z1 k).bbuy) := hst2.ask 13 (.bool (z1 k).bbuy) (by rw [hk]; rfl)
      have k14 : wr.cell? ⟨b, off + k * 19 + 15, none⟩ = some (.int .i64 (z1 k).bprice) := hst2.ask 14 (.int .i64 (z1 k).bprice) (by rw [hk]; rfl)
      have k15 : wr.cell? ⟨b, off + k * 19 + 16, none⟩ = some (.slice va (z1 k).Q.length vc) := hst2.ask 15 (.slice va (z1 k).Q.length vc) (by rw [hk]; rfl)
      have k16 : wr.cell? ⟨b, off + k * 19 + 17, none⟩ = some (.int .i64 (z1 k).parent) := hst2.ask 16 (.int .i64 (z1 k).parent) (by rw [hk]; rfl)
      have k17 : wr.cell? ⟨b, off + k * 19 + 18, none⟩ = some (.int .i64 (z1 k).group) := hst2.ask 17 (.int .i64 (z1 k).group) (by rw [hk]; rfl)
      have HKB := hid hk
      have HFW := hid (hfit.below bw)
      have hgr := great10_any (z1 k) wr (hfit.below bw).ints
      rw [hk] at hgr
      clear hst hst2 hk hv hfit
      go_wp2_with fail
      refine hgr.mono ?_
      clear hgr
      rintro e X1 ⟨hr, bX1⟩
      have BX1 := bw.trans (bX1.mono bw.size)
      rcases hr with rfl | ⟨rfl, hnear⟩
      · go_wp2
        go_ret
        exact ⟨rfl, BX1⟩
      have hql := hnear.len
      have m0 := (Kx.of_below (S := fun _ => False) bX1).cell k0 (fun h => h)
      have m1 := (Kx.of_below (S := fun _ => False) bX1).cell k1 (fun h => h)
      have m2 := (Kx.of_below (S := fun _ => False) bX1).cell k2 (fun h => h)
      have m3 := (Kx.of_below (S := fun _ => False) bX1).cell k3 (fun h => h)
      have m4 := (Kx.of_below (S := fun _ => False) bX1).cell k4 (fun h => h)
      have m5 := (Kx.of_below (S := fun _ => False) bX1).cell k5 (fun h => h)
      have m6 := (Kx.of_below (S := fun _ => False) bX1).cell k6 (fun h => h)
      have m7 := (Kx.of_below (S := fun _ => False) bX1).cell k7 (fun h => h)
      have m8 := (Kx.of_below (S := fun _ => False) bX1).cell k8 (fun h => h)
      have m9 := (Kx.of_below (S := fun _ => False) bX1).cell k9 (fun h => h)
      have m10 := (Kx.of_below (S := fun _ => False) bX1).cell k10 (fun h => h)
      have m11 := (Kx.of_below (S := fun _ => False) bX1).cell k11 (fun h => h)
      have m12 := (Kx.of_below (S := fun _ => False) bX1).cell k12 (fun h => h)
      have m13 := (Kx.of_below (S := fun _ => False) bX1).cell k13 (fun h => h)
      have m14 := (Kx.of_below (S := fun _ => False) bX1).cell k14 (fun h => h)
      have m15 := (Kx.of_below (S := fun _ => False) bX1).cell k15 (fun h => h)
      have m16 := (Kx.of_below (S := fun _ => False) bX1).cell k16 (fun h => h)
      have m17 := (Kx.of_below (S := fun _ => False) bX1).cell k17 (fun h => h)
      clear k0 k1 k2 k3 k4 k5 k6 k7 k8 k9 k10 k11 k12 k13 k14 k15 k16 k17 hnear
      have HL1 := hid (HLS.out.below bX1)
      have hb1 : bs ≤ X1.heap.size := by have := KW.size; have := bX1.size; omega
      have hK1 : ∀ i, Kp i → i < X1.heap.size := fun i hi => by have := HKL.out i hi; have := KW.size; have := bX1.size; omega
      have had := ls_first HL1.out hb1 hK1 (z1 k) (HFW.out.below bX1) (by omega)
      rw [HKB.out] at had
      go_wp2_with fail
      refine had.mono ?_
      clear had
      rintro e X2 ⟨rfl, kX2, hL2⟩
      have KW2 := (KW.trans (Kx.of_below bX1)).trans kX2
      have BX2 : Below w.heap.size w X2 := BX1.trans (kX2.below BX1.size (fun i hi => by have := hi.1; omega))
      have HL2 := hid hL2
      obtain ⟨Oa2, P2, ac2, cc2, st2, rb2, ow2, y4, y5, y6, y7, y8⟩ := HL2.out
      clear hL2 HL1 kX2 m0 m1 m2 m3 m4 m5 m6 m7 m8 m9 m10 m11 m12 m13 m14 m15 m16 m17 bX1 BX1 hb1 hK1
      have HEN := hid (errN_succ z1 k)
      have HEL := hid (errN_len z1 k)
      rw [HEL.out] at ow2
      obtain ⟨fa, fc, rfl⟩ := own_slice ow2
      generalize hE : mayE (runN z1 k) (z1 k) = E at *
      have HEE := hid hE
      clear hE
      go_wp2_with (at_builtin; refine wpList_append_own_at _ rfl _ _ 46 rfl bs 49 i0 (.int .i64 0) 1 8 Try.underlying46 hi0 hz0 hz1 hz2 rfl (by decide) _ _ _ rfl (ow2.alloc _) ⟨X2.heap.size, 0, none⟩ 1 1 [.int .i64 E] rfl rfl (by intro j u hu; match j, hu with | 0, hu => simp at hu; subst hu; simp [Addr.add]) (by intro u hu; simp at hu; subst hu; rfl) (by unfold maxLen; omega) (by omega) (by simp; have := KW2.size; omega) ?_)
      intro v' X3 o3 hg3 _ hat3
      have bA := (Below.refl X2.heap.size X2).alloc (Nat.le_refl _) (Obj.cells #[.int .i64 E] 49)
      have HLA := hid (HL2.out.below bA)
      have hpush := ls_push (e := E) HLA.out (by simp; have := KW2.size; omega) (fun i hi => by have := HKL.out i hi; have := KW2.size; simp; omega) (by rw [HEL.out]; exact o3) hg3 (by simpa using hat3)
      obtain ⟨kX3, hL3⟩ := hpush
      rw [← HEN.out] at hL3
      have KW3 := (KW2.trans (Kx.of_below bA)).trans kX3
      have BX3 : Below w.heap.size w X3 := (BX2.alloc BX2.size _).trans (kX3.below (by simp; have := BX2.size; omega) (fun i hi => by have := hi.1; omega))
      have HL3 := hid hL3
      obtain ⟨sa3, sc3, rfl⟩ := own_slice o3
      have hcap3 : k + 1 ≤ sc3 ∧ sc3 ≤ 9223372036854775807 := by
        rcases o3.2 with ⟨e, h0⟩ | ⟨g, cap, cur, e, _, _, q1, q2, _⟩
        · omega
        · simp only [Value.slice.injEq] at e
          unfold maxLen at q2
          omega
      have hcell3 : ∃ g, sa3 = some ⟨g, 0, none⟩ ∧ X3.cell? ⟨g, k, none⟩ = some (.int .i64 E) := by
        rcases o3.2 with ⟨e, h0⟩ | ⟨g, cap, cur, e, _, _, q1, q2, _⟩
        · omega
        · simp only [Value.slice.injEq] at e
          obtain ⟨rfl, _, rfl⟩ := e
          refine ⟨g, rfl, ?_⟩
          rw [o3.cellAt k (by omega), List.getElem?_append_right (by rw [intV_len, HEL.out]; omega), intV_len, HEL.out, Nat.sub_self]
          rfl
      obtain ⟨gf, rfl, cf⟩ := hcell3
      clear hL3 o3 hg3 hat3 bA HLA kX3 ow2 st2 rb2 y4 y5 y6 y7 y8 KW2 HL2 HLS
      obtain ⟨b', off', hbo, hst, hfit, hl, hc, hbl⟩ := H1.out.at k hlt
      have hst2 := hst.kx (S := fun _ => False) (Kx.of_below BX3) (fun h => h)
      simp only [Option.some.injEq, Addr.mk.injEq, and_true] at hbo
      obtain ⟨rfl, rfl⟩ := hbo
      have hk := HKB.out
      have n0 : X3.cell? ⟨b, off + k * 19 + 1, none⟩ = some (.int .i64 (z1 k).kind) := hst2.ask 0 (.int .i64 (z1 k).kind) (by rw [hk]; rfl)
      have n1 : X3.cell? ⟨b, off + k * 19 + 2, none⟩ = some (.int .i64 (z1 k).cents) := hst2.ask 1 (.int .i64 (z1 k).cents) (by rw [hk]; rfl)
      have n2 : X3.cell? ⟨b, off + k * 19 + 3, none⟩ = some (.int .i64 (z1 k).seq) := hst2.ask 2 (.int .i64 (z1 k).seq) (by rw [hk]; rfl)
      have n3 : X3.cell? ⟨b, off + k * 19 + 4, none⟩ = some (.string (z1 k).swho) := hst2.ask 3 (.string (z1 k).swho) (by rw [hk]; rfl)
      have n4 : X3.cell? ⟨b, off + k * 19 + 5, none⟩ = some (.int .i64 (z1 k).sseq) := hst2.ask 4 (.int .i64 (z1 k).sseq) (by rw [hk]; rfl)
      have n5 : X3.cell? ⟨b, off + k * 19 + 6, none⟩ = some (.int .i64 (z1 k).szone) := hst2.ask 5 (.int .i64 (z1 k).szone) (by rw [hk]; rfl)
      have n6 : X3.cell? ⟨b, off + k * 19 + 7, none⟩ = some (.int .i64 (z1 k).shour) := hst2.ask 6 (.int .i64 (z1 k).shour) (by rw [hk]; rfl)
      have n7 : X3.cell? ⟨b, off + k * 19 + 8, none⟩ = some (.bool (z1 k).sbuy) := hst2.ask 7 (.bool (z1 k).sbuy) (by rw [hk]; rfl)
      have n8 : X3.cell? ⟨b, off + k * 19 + 9, none⟩ = some (.int .i64 (z1 k).sqty) := hst2.ask 8 (.int .i64 (z1 k).sqty) (by rw [hk]; rfl)
      have n9 : X3.cell? ⟨b, off + k * 19 + 10, none⟩ = some (.int .i64 (z1 k).sprice) := hst2.ask 9 (.int .i64 (z1 k).sprice) (by rw [hk]; rfl)
      have n10 : X3.cell? ⟨b, off + k * 19 + 11, none⟩ = some (.string (z1 k).bwho) := hst2.ask 10 (.string (z1 k).bwho) (by rw [hk]; rfl)
      have n11 : X3.cell? ⟨b, off + k * 19 + 12, none⟩ = some (.int .i64 (z1 k).bseq) := hst2.ask 11 (.int .i64 (z1 k).bseq) (by rw [hk]; rfl)
      have n12 : X3.cell? ⟨b, off + k * 19 + 13, none⟩ = some (.int .i64 (z1 k).bzone) := hst2.ask 12 (.int .i64 (z1 k).bzone) (by rw [hk]; rfl)
      have n13 : X3.cell? ⟨b, off + k * 19 + 14, none⟩ = some (.bool (z1 k).bbuy) := hst2.ask 13 (.bool (z1 k).bbuy) (by rw [hk]; rfl)
      have n14 : X3.cell? ⟨b, off + k * 19 + 15, none⟩ = some (.int .i64 (z1 k).bprice) := hst2.ask 14 (.int .i64 (z1 k).bprice) (by rw [hk]; rfl)
      have n15 : X3.cell? ⟨b, off + k * 19 + 16, none⟩ = some (.slice va (z1 k).Q.length vc) := hst2.ask 15 (.slice va (z1 k).Q.length vc) (by rw [hk]; rfl)
      have n16 : X3.cell? ⟨b, off + k * 19 + 17, none⟩ = some (.int .i64 (z1 k).parent) := hst2.ask 16 (.int .i64 (z1 k).parent) (by rw [hk]; rfl)
      have n17 : X3.cell? ⟨b, off + k * 19 + 18, none⟩ = some (.int .i64 (z1 k).group) := hst2.ask 17 (.int .i64 (z1 k).group) (by rw [hk]; rfl)
      have HF3 := hid (hfit.below BX3)
      have HTH := hid (fun (Y : World) (bY : Below X3.heap.size X3 Y) => theirs10_any (z1 k) Y ((HF3.out.below bY).ints))
      rw [hk] at HTH
      have HAD := hid (fun (Y : World) (bY : Below X3.heap.size X3 Y) => ls_ref (HL3.out.below bY) (show bs ≤ Y.heap.size by have := KW3.size; have := bY.size; omega) (fun i hi => by have := HKL.out i hi; have := KW3.size; have := bY.size; omega) (z1 k) (HF3.out.below bY) (by omega))
      rw [hk] at HAD
      have HMR := hid (show mayR R (z1 k) = E by rw [mayR_eq HRF.out (z1 k)]; exact HEE.out)
      rw [HMR.out] at HAD
      clear hst hst2 hk hfit HFW HKB
      clear hl hc hbl
      go_wp2_with fail
      go_region_with (first
        | (go_at_call 16; refine (HTH.out _ (by first | exact Below.refl _ _ | exact below_dn (Below.refl _ _) _ | exact (Below.refl _ _).drew)).mono ?_; rintro e X4 ⟨rfl, bX4⟩; have bX4' : Below X3.heap.size X3 X4 := ⟨bX4.os, bX4.tape, bX4.output, bX4.size, bX4.block⟩; have cf4 := (Kx.of_below (S := fun _ => False) bX4').cell cf (fun h => h); clear bX4)
        | (go_at_call 15; refine (HAD.out _ (by first | exact bX4' | exact below_dn bX4' _ | exact bX4'.drew)).mono ?_; rintro e X5 ⟨rfl, kX5, hR5⟩; have kX5' : Kx (fun i => bs ≤ i ∧ ¬ Kp i) X4 X5 := ⟨kX5.os, kX5.tape, kX5.output, kX5.size, kX5.block⟩; clear kX5; obtain ⟨R5, hL5, x5, x6⟩ := hR5; have cf5 : X5.cell? ⟨gf, k, none⟩ = some (.int .i64 E) := ls_cell hL5 rfl k (by rw [HEN2.out]; simp [errN_len])))
      all_goals
        have KW5 := (KW3.trans (Kx.of_below bX4')).trans kX5'
        have HRF5 := hid (ref_next HRF.out HSN.out (by rw [HMR.out]; exact x5) (by rw [HMR.out]; exact x6))
        have HL5 := hid hL5
        clear hL5 x5 x6 kX5'
        go_wp2
        go_roundw
        case rel => exact ⟨k + 1, R5, by omega, by go_num, by first | exact HL5.out | exact HL5.out.below (Below.refl _ _).drew | exact HL5.out.below (below_dn (Below.refl _ _) _), HRF5, by first | exact KW5 | exact KW5.trans (Kx.of_below (Below.refl _ _).drew) | exact KW5.trans (Kx.of_below (below_dn (Below.refl _ _) _))⟩
        case measure => simp [intOf]; omega

    · obtain rfl : k = l1 := by omega
      have KW1 := hid KW
      have HW := hid HLS
      obtain ⟨Oa1, P1, ac1, cc1, st1, rbx1, ow1, y4, y5, y6, y7, y8⟩ := HLS.out
      have HOF := hid ow1
      rw [errN_len] at ow1
      obtain ⟨fa, fc, rfl⟩ := own_slice ow1
      have HDIS := hid (show ∀ i, (Value.slice fa k fc).ownBlock = some i → ¬ Ob0 i from fun i hi ho => y6 i hi (HKD.out i ho))
      have o2r := own_kx2 O52.out KW (fun g hg hh => by
        simp only [Value.ownBlock, Option.some.injEq] at hg
        subst hg
        exact hh.2 HKD2.out)
      have HT := ls_turn (Ob := Ob0) HLS.out HKD.out o2r (fun g hg => by
        simp only [Value.ownBlock, Option.some.injEq] at hg
        subst hg
        exact ⟨HKD2.out, HOB2.out⟩)
      have QB1 := hid (QN.out.kx KW (fun i hi hh => hh.2 (HKD.out i hi)))
      obtain ⟨K2, HK2⟩ : ∃ K2 : Nat → Prop, Hid (∀ i, K2 i ↔ (Ob0 i ∨ (Value.slice fa k fc).ownBlock = some i)) := ⟨fun i => Ob0 i ∨ (Value.slice fa k fc).ownBlock = some i, hid (fun i => Iff.rfl)⟩
      have HT1 := hid (HT.1.keep (K' := K2) (fun i hi => (HK2.out i).1 hi))
      have HKL2 := hid (show ∀ i, K2 i → i < wr.heap.size from fun i hi => by
        rcases (HK2.out i).1 hi with hi | hi
        · exact QB1.out.lt i hi
        · exact (HOF.out.lt i hi).2)
      have hbase2 : bs ≤ wr.heap.size := by have := KW.size; omega
      have hcapf : k ≤ fc ∧ fc ≤ 9223372036854775807 := by
        rcases ow1.2 with ⟨e, h0⟩ | ⟨g, cap, cur, e, _, _, q1, q2, _⟩
        · simp only [Value.slice.injEq] at e; omega
        · simp only [Value.slice.injEq] at e
          unfold maxLen at q2
          omega
      clear HT o2r ow1 st1 rbx1 y4 y5 y6 y7 y8 KW HLS O52 HKD HKD2 QN HLS0 HKL HOB2 HREF0 HRF
      have BW6 := bw
      clear bw
      go_wp2
      generalize wr = W6 at *
      go_loopw [11, 13] (fun f i wr => ∃ q : Nat, q ≤ l2 ∧ i = .int .i64 (q : Int) ∧ Hid (LS K2 bs wr (.pointer vab) (runN z1 k) (runN z2 q) rb R f (errN z2 q)) ∧ Kx (fun i => bs ≤ i ∧ ¬ K2 i) W6 wr) (fun _ i _ => l2 - (intOf i).toNat)
      case atStart => exact ⟨0, Nat.zero_le _, rfl, HT1, Kx.refl _ _⟩
      case round =>
        obtain ⟨q, hq, rfl, HLS, KW⟩ := hrel
        have bw : Below w.heap.size w wr := BW6.trans (KW.below BW6.size (fun i hi => by have := hi.1; omega))
        by_cases hlt : q < l2
        · skip
          obtain ⟨b, off, rfl, hst, hfit, hl, hc, hbl⟩ := H2.out.at q hlt
          have hst2 := hst.kx (S := fun _ => False) (Kx.of_below bw) (fun h => h)
          obtain ⟨va, vc, hv, hv1, hv2⟩ := hfit.ints.slice
          unfold maxLen at hv2
          have hk : kbC (z2 q) = #[.int .i64 (z2 q).kind, .int .i64 (z2 q).cents, .int .i64 (z2 q).seq, .string (z2 q).swho, .int .i64 (z2 q).sseq, .int .i64 (z2 q).szone, .int .i64 (z2 q).shour, .bool (z2 q).sbuy, .int .i64 (z2 q).sqty, .int .i64 (z2 q).sprice, .string (z2 q).bwho, .int .i64 (z2 q).bseq, .int .i64 (z2 q).bzone, .bool (z2 q).bbuy, .int .i64 (z2 q).bprice, .slice va (z2 q).Q.length vc, .int .i64 (z2 q).parent, .int .i64 (z2 q).group] := by unfold kbC; rw [hv]
          have k0 : wr.cell? ⟨b, off + q * 19 + 1, none⟩ = some (.int .i64 (z2 q).kind) := hst2.ask 0 (.int .i64 (z2 q).kind) (by rw [hk]; rfl)
          have k1 : wr.cell? ⟨b, off + q * 19 + 2, none⟩ = some (.int .i64 (z2 q).cents) := hst2.ask 1 (.int .i64 (z2 q).cents) (by rw [hk]; rfl)
          have k2 : wr.cell? ⟨b, off + q * 19 + 3, none⟩ = some (.int .i64 (z2 q).seq) := hst2.ask 2 (.int .i64 (z2 q).seq) (by rw [hk]; rfl)
          have k3 : wr.cell? ⟨b, off + q * 19 + 4, none⟩ = some (.string (z2 q).swho) := hst2.ask 3 (.string (z2 q).swho) (by rw [hk]; rfl)
          have k4 : wr.cell? ⟨b, off + q * 19 + 5, none⟩ = some (.int .i64 (z2 q).sseq) := hst2.ask 4 (.int .i64 (z2 q).sseq) (by rw [hk]; rfl)
          have k5 : wr.cell? ⟨b, off + q * 19 + 6, none⟩ = some (.int .i64 (z2 q).szone) := hst2.ask 5 (.int .i64 (z2 q).szone) (by rw [hk]; rfl)
          have k6 : wr.cell? ⟨b, off + q * 19 + 7, none⟩ = some (.int .i64 (z2 q).shour) := hst2.ask 6 (.int .i64 (z2 q).shour) (by rw [hk]; rfl)
          have k7 : wr.cell? ⟨b, off + q * 19 + 8, none⟩ = some (.bool (z2 q).sbuy) := hst2.ask 7 (.bool (z2 q).sbuy) (by rw [hk]; rfl)
          have k8 : wr.cell? ⟨b, off + q * 19 + 9, none⟩ = some (.int .i64 (z2 q).sqty) := hst2.ask 8 (.int .i64 (z2 q).sqty) (by rw [hk]; rfl)
          have k9 : wr.cell? ⟨b, off + q * 19 + 10, none⟩ = some (.int .i64 (z2 q).sprice) := hst2.ask 9 (.int .i64 (z2 q).sprice) (by rw [hk]; rfl)
          have k10 : wr.cell? ⟨b, off + q * 19 + 11, none⟩ = some (.string (z2 q).bwho) := hst2.ask 10 (.string (z2 q).bwho) (by rw [hk]; rfl)
          have k11 : wr.cell? ⟨b, off + q * 19 + 12, none⟩ = some (.int .i64 (z2 q).bseq) := hst2.ask 11 (.int .i64 (z2 q).bseq) (by rw [hk]; rfl)
          have k12 : wr.cell? ⟨b, off + q * 19 + 13, none⟩ = some (.int .i64 (z2 q).bzone) := hst2.ask 12 (.int .i64 (z2 q).bzone) (by rw [hk]; rfl)
          have k13 : wr.cell? ⟨b, off + q * 19 + 14, none⟩ = some (.bool (z2 q).bbuy) := hst2.ask 13 (.bool (z2 q).bbuy) (by rw [hk]; rfl)
          have k14 : wr.cell? ⟨b, off + q * 19 + 15, none⟩ = some (.int .i64 (z2 q).bprice) := hst2.ask 14 (.int .i64 (z2 q).bprice) (by rw [hk]; rfl)
          have k15 : wr.cell? ⟨b, off + q * 19 + 16, none⟩ = some (.slice va (z2 q).Q.length vc) := hst2.ask 15 (.slice va (z2 q).Q.length vc) (by rw [hk]; rfl)
          have k16 : wr.cell? ⟨b, off + q * 19 + 17, none⟩ = some (.int .i64 (z2 q).parent) := hst2.ask 16 (.int .i64 (z2 q).parent) (by rw [hk]; rfl)
          have k17 : wr.cell? ⟨b, off + q * 19 + 18, none⟩ = some (.int .i64 (z2 q).group) := hst2.ask 17 (.int .i64 (z2 q).group) (by rw [hk]; rfl)
          have HKB := hid hk
          have HFW := hid (hfit.below bw)
          have hgr := great10_any (z2 q) wr (hfit.below bw).ints
          rw [hk] at hgr
          clear hst hst2 hk hv hfit
          go_wp2_with fail
          refine hgr.mono ?_
          clear hgr
          rintro e X1 ⟨hr, bX1⟩
          have BX1 := bw.trans (bX1.mono bw.size)
          rcases hr with rfl | ⟨rfl, hnear⟩
          · go_wp2
            go_ret
            exact ⟨rfl, BX1⟩
          have hql := hnear.len
          have m0 := (Kx.of_below (S := fun _ => False) bX1).cell k0 (fun h => h)
          have m1 := (Kx.of_below (S := fun _ => False) bX1).cell k1 (fun h => h)
          have m2 := (Kx.of_below (S := fun _ => False) bX1).cell k2 (fun h => h)
          have m3 := (Kx.of_below (S := fun _ => False) bX1).cell k3 (fun h => h)
          have m4 := (Kx.of_below (S := fun _ => False) bX1).cell k4 (fun h => h)
          have m5 := (Kx.of_below (S := fun _ => False) bX1).cell k5 (fun h => h)
          have m6 := (Kx.of_below (S := fun _ => False) bX1).cell k6 (fun h => h)
          have m7 := (Kx.of_below (S := fun _ => False) bX1).cell k7 (fun h => h)
          have m8 := (Kx.of_below (S := fun _ => False) bX1).cell k8 (fun h => h)
          have m9 := (Kx.of_below (S := fun _ => False) bX1).cell k9 (fun h => h)
          have m10 := (Kx.of_below (S := fun _ => False) bX1).cell k10 (fun h => h)
          have m11 := (Kx.of_below (S := fun _ => False) bX1).cell k11 (fun h => h)
          have m12 := (Kx.of_below (S := fun _ => False) bX1).cell k12 (fun h => h)
          have m13 := (Kx.of_below (S := fun _ => False) bX1).cell k13 (fun h => h)
          have m14 := (Kx.of_below (S := fun _ => False) bX1).cell k14 (fun h => h)
          have m15 := (Kx.of_below (S := fun _ => False) bX1).cell k15 (fun h => h)
          have m16 := (Kx.of_below (S := fun _ => False) bX1).cell k16 (fun h => h)
          have m17 := (Kx.of_below (S := fun _ => False) bX1).cell k17 (fun h => h)
          clear k0 k1 k2 k3 k4 k5 k6 k7 k8 k9 k10 k11 k12 k13 k14 k15 k16 k17 hnear
          have HL1 := hid (HLS.out.below bX1)
          have hb1 : bs ≤ X1.heap.size := by have := KW.size; have := bX1.size; omega
          have hK1 : ∀ i, K2 i → i < X1.heap.size := fun i hi => by have := HKL2.out i hi; have := KW.size; have := bX1.size; omega
          have had := ls_second HL1.out hb1 hK1 (z2 q) (HFW.out.below bX1) (by omega)
          rw [HKB.out] at had
          go_wp2_with fail
          refine had.mono ?_
          clear had
          rintro e X2 ⟨rfl, kX2, hL2⟩
          have KW2 := (KW.trans (Kx.of_below bX1)).trans kX2
          have BX2 : Below w.heap.size w X2 := BX1.trans (kX2.below BX1.size (fun i hi => by have := hi.1; omega))
          have HL2 := hid hL2
          obtain ⟨Oa2, P2, ac2, cc2, st2, rb2, ow2, y4, y5, y6, y7, y8⟩ := HL2.out
          clear hL2 HL1 kX2 m0 m1 m2 m3 m4 m5 m6 m7 m8 m9 m10 m11 m12 m13 m14 m15 m16 m17 bX1 BX1 hb1 hK1
          have HEN := hid (errN_succ z2 q)
          have HEL := hid (errN_len z2 q)
          rw [HEL.out] at ow2
          obtain ⟨fa2, fc2, rfl⟩ := own_slice ow2
          generalize hE : mayE (runN z2 q) (z2 q) = E at *
          clear hE
          go_wp2_with (at_builtin; refine wpList_append_own_at _ rfl _ _ 46 rfl bs 49 i0 (.int .i64 0) 1 8 Try.underlying46 hi0 hz0 hz1 hz2 rfl (by decide) _ _ _ rfl (ow2.alloc _) ⟨X2.heap.size, 0, none⟩ 1 1 [.int .i64 E] rfl rfl (by intro j u hu; match j, hu with | 0, hu => simp at hu; subst hu; simp [Addr.add]) (by intro u hu; simp at hu; subst hu; rfl) (by unfold maxLen; omega) (by omega) (by simp; have := KW2.size; omega) ?_)
          intro v' X3 o3 hg3 _ hat3
          have bA := (Below.refl X2.heap.size X2).alloc (Nat.le_refl _) (Obj.cells #[.int .i64 E] 49)
          have HLA := hid (HL2.out.below bA)
          have hpush := ls_push (e := E) HLA.out (by simp; have := KW2.size; omega) (fun i hi => by have := HKL2.out i hi; have := KW2.size; simp; omega) (by rw [HEL.out]; exact o3) hg3 (by simpa using hat3)
          obtain ⟨kX3, hL3⟩ := hpush
          rw [← HEN.out] at hL3
          have KW3 := (KW2.trans (Kx.of_below bA)).trans kX3
          have HL3 := hid hL3
          clear hL3 o3 hg3 hat3 bA HLA kX3 ow2 st2 rb2 y4 y5 y6 y7 y8 KW2 HL2 HLS
          go_wp2
          go_roundw
          case rel => exact ⟨q + 1, by omega, by go_num, HL3, KW3⟩
          case measure => simp [intOf]; omega

        · obtain rfl : q = l2 := by omega
          obtain ⟨Oa1, P1, ac1, cc1, st1, rbx1, ow1, y4, y5, y6, y7, y8⟩ := HLS.out
          have HOS := hid ow1
          rw [errN_len] at ow1
          obtain ⟨sa, sc, rfl⟩ := own_slice ow1
          have hcaps : q ≤ sc ∧ sc ≤ 9223372036854775807 := by
            rcases ow1.2 with ⟨e, h0⟩ | ⟨g, cap, cur, e, _, _, q1, q2, _⟩
            · simp only [Value.slice.injEq] at e; omega
            · simp only [Value.slice.injEq] at e
              unfold maxLen at q2
              omega
          have HOF2 := hid (own_kx2 HOF.out KW (fun g hg hh => hh.2 ((HK2.out g).2 (Or.inr hg))))
          have QB2 := hid (QB1.out.kx KW (fun i hi hh => hh.2 ((HK2.out i).2 (Or.inl hi))))
          obtain ⟨K3, HK3⟩ : ∃ K3 : Nat → Prop, Hid (∀ i, K3 i ↔ (Oa1 i ∨ (Value.slice fa k fc).ownBlock = some i ∨ (Value.slice sa q sc).ownBlock = some i)) := ⟨fun i => Oa1 i ∨ (Value.slice fa k fc).ownBlock = some i ∨ (Value.slice sa q sc).ownBlock = some i, hid (fun i => Iff.rfl)⟩
          have HOA3 := hid (show ∀ i, Oa1 i → K3 i from fun i hi => (HK3.out i).2 (Or.inl hi))
          have HSA := hid st1
          have HLB0 : LB K3 bs wr (.pointer vbb) ps0 ps0 := ⟨Ob0, QB2.out, fun i hi => ⟨HOB3.out i hi, fun hk => by
            rcases (HK3.out i).1 hk with h | h | h
            · exact (y4 i h).2 ((HK2.out i).2 (Or.inl hi))
            · exact HDIS.out i h hi
            · exact y6 i h ((HK2.out i).2 (Or.inl hi))⟩⟩
          have HF1 := hid (show ∀ x, x < k → ∃ g, Value.slice fa k fc = .slice (some ⟨g, 0, none⟩) k fc ∧ wr.cell? ⟨g, x, none⟩ = some (.int .i64 (mayE (runN z1 x) (z1 x))) ∧ K3 g from fun x hx => by
            rcases HOF2.out.2 with ⟨e, h0⟩ | ⟨g, cap, cur, e, _, _, q1, q2, _⟩
            · rw [errN_len] at h0; omega
            · have e' := e
              rw [errN_len] at e'
              simp only [Value.slice.injEq] at e'
              have hob : (Value.slice fa k fc).ownBlock = some g := by rw [e'.1]; rfl
              refine ⟨g, by rw [e'.1], ?_, (HK3.out g).2 (Or.inr (Or.inl hob))⟩
              have := HOF2.out.cells hob x (.int .i64 (mayE (runN z1 x) (z1 x))) (by unfold intV; rw [List.getElem?_map, errN_at z1 k x hx]; rfl)
              rw [add_off, Nat.zero_add] at this
              exact this)
          have HF2 := hid (show ∀ y, y < q → ∃ g, Value.slice sa q sc = .slice (some ⟨g, 0, none⟩) q sc ∧ wr.cell? ⟨g, y, none⟩ = some (.int .i64 (mayE (runN z2 y) (z2 y))) ∧ K3 g from fun y hy => by
            rcases HOS.out.2 with ⟨e, h0⟩ | ⟨g, cap, cur, e, _, _, q1, q2, _⟩
            · rw [errN_len] at h0; omega
            · have e' := e
              rw [errN_len] at e'
              simp only [Value.slice.injEq] at e'
              have hob : (Value.slice sa q sc).ownBlock = some g := by rw [e'.1]; rfl
              refine ⟨g, by rw [e'.1], ?_, (HK3.out g).2 (Or.inr (Or.inr hob))⟩
              have := HOS.out.cells hob y (.int .i64 (mayE (runN z2 y) (z2 y))) (by unfold intV; rw [List.getElem?_map, errN_at z2 q y hy]; rfl)
              rw [add_off, Nat.zero_add] at this
              exact this)
          have HKL3 := hid (show ∀ i, K3 i → i < wr.heap.size from fun i hi => by
            rcases (HK3.out i).1 hi with h | h | h
            · exact st1.lt i h
            · exact (HOF2.out.lt i h).2
            · exact (HOS.out.lt i h).2)
          have hbase3 : bs ≤ wr.heap.size := by have := KW.size; omega
          clear ow1 st1 rbx1 y4 y5 y6 y7 y8 HOS HOF HOF2 QB1 QB2 HK2 HKL2 HLS KW HOB3 HT1
          have BW7 := bw
          clear bw
          have HLB0' := hid HLB0
          clear HLB0
          go_wp2
          generalize wr = W7 at *
          go_loopw [14, 15, 16] (fun f g i wr => ∃ x y j : Nat, x ≤ k ∧ y ≤ q ∧ j ≤ x + y ∧ f = .int .i64 (x : Int) ∧ g = .int .i64 (y : Int) ∧ i = .int .i64 (j : Int) ∧ Hid (LB K3 bs wr (.pointer vbb) (runN z1 x) (runN z2 y)) ∧ Kx (fun i => bs ≤ i ∧ ¬ K3 i) W7 wr) (fun f g _ _ => (k - (intOf f).toNat) + (q - (intOf g).toNat))
          case atStart => exact ⟨0, 0, 0, Nat.zero_le _, Nat.zero_le _, Nat.le_refl _, rfl, rfl, rfl, HLB0', Kx.refl _ _⟩
          case round =>
            obtain ⟨x, y, j, hxl, hyl0, hjl, rfl, rfl, rfl, HLB, KW⟩ := hrel
            have bw : Below w.heap.size w wr := BW7.trans (KW.below BW7.size (fun i hi => by have := hi.1; omega))
            by_cases hx : x < k
            · have hx' : decide ((x : Int) < (k : Int)) = true := by simp; omega
              by_cases hy : y < q
              · have hy1 : ((y : Int) == (q : Int)) = false := beq_eq_false_iff_ne.2 (by omega)
                have hy2 : ¬ (y : Int) = (q : Int) := by omega
                have hy3 : decide ((y : Int) = (q : Int)) = false := by simp; omega
                by_cases hj : j < l3
                · have hj' : decide ((j : Int) < (l3 : Int)) = true := by simp; omega
                  obtain ⟨px, hpx, cpk⟩ := H3.out.at j hj
                  subst hpx
                  have cpk' : wr.cell? (px.add j) = some (.bool (pk j)) := by rw [← cpk]; exact bw.cell (World.block_lt_of_cell? w _ cpk)
                  clear cpk
                  cases hpk : pk j with
                  | true =>
                    rw [hpk] at cpk'
                    have hlt := hx
                    obtain ⟨b, off, rfl, hst, hfit, hl, hc, hbl⟩ := H1.out.at x hlt
                    have hst2 := hst.kx (S := fun _ => False) (Kx.of_below bw) (fun h => h)
                    obtain ⟨va, vc, hv, hv1, hv2⟩ := hfit.ints.slice
                    unfold maxLen at hv2
                    have hk : kbC (z1 x) = #[.int .i64 (z1 x).kind, .int .i64 (z1 x).cents, .int .i64 (z1 x).seq, .string (z1 x).swho, .int .i64 (z1 x).sseq, .int .i64 (z1 x).szone, .int .i64 (z1 x).shour, .bool (z1 x).sbuy, .int .i64 (z1 x).sqty, .int .i64 (z1 x).sprice, .string (z1 x).bwho, .int .i64 (z1 x).bseq, .int .i64 (z1 x).bzone, .bool (z1 x).bbuy, .int .i64 (z1 x).bprice, .slice va (z1 x).Q.length vc, .int .i64 (z1 x).parent, .int .i64 (z1 x).group] := by unfold kbC; rw [hv]
                    have k0 : wr.cell? ⟨b, off + x * 19 + 1, none⟩ = some (.int .i64 (z1 x).kind) := hst2.ask 0 (.int .i64 (z1 x).kind) (by rw [hk]; rfl)
                    have k1 : wr.cell? ⟨b, off + x * 19 + 2, none⟩ = some (.int .i64 (z1 x).cents) := hst2.ask 1 (.int .i64 (z1 x).cents) (by rw [hk]; rfl)
                    have k2 : wr.cell? ⟨b, off + x * 19 + 3, none⟩ = some (.int .i64 (z1 x).seq) := hst2.ask 2 (.int .i64 (z1 x).seq) (by rw [hk]; rfl)
                    have k3 : wr.cell? ⟨b, off + x * 19 + 4, none⟩ = some (.string (z1 x).swho) := hst2.ask 3 (.string (z1 x).swho) (by rw [hk]; rfl)
                    have k4 : wr.cell? ⟨b, off + x * 19 + 5, none⟩ = some (.int .i64 (z1 x).sseq) := hst2.ask 4 (.int .i64 (z1 x).sseq) (by rw [hk]; rfl)
                    have k5 : wr.cell? ⟨b, off + x * 19 + 6, none⟩ = some (.int .i64 (z1 x).szone) := hst2.ask 5 (.int .i64 (z1 x).szone) (by rw [hk]; rfl)
                    have k6 : wr.cell? ⟨b, off + x * 19 + 7, none⟩ = some (.int .i64 (z1 x).shour) := hst2.ask 6 (.int .i64 (z1 x).shour) (by rw [hk]; rfl)
                    have k7 : wr.cell? ⟨b, off + x * 19 + 8, none⟩ = some (.bool (z1 x).sbuy) := hst2.ask 7 (.bool (z1 x).sbuy) (by rw [hk]; rfl)
                    have k8 : wr.cell? ⟨b, off + x * 19 + 9, none⟩ = some (.int .i64 (z1 x).sqty) := hst2.ask 8 (.int .i64 (z1 x).sqty) (by rw [hk]; rfl)
                    have k9 : wr.cell? ⟨b, off + x * 19 + 10, none⟩ = some (.int .i64 (z1 x).sprice) := hst2.ask 9 (.int .i64 (z1 x).sprice) (by rw [hk]; rfl)
                    have k10 : wr.cell? ⟨b, off + x * 19 + 11, none⟩ = some (.string (z1 x).bwho) := hst2.ask 10 (.string (z1 x).bwho) (by rw [hk]; rfl)
                    have k11 : wr.cell? ⟨b, off + x * 19 + 12, none⟩ = some (.int .i64 (z1 x).bseq) := hst2.ask 11 (.int .i64 (z1 x).bseq) (by rw [hk]; rfl)
                    have k12 : wr.cell? ⟨b, off + x * 19 + 13, none⟩ = some (.int .i64 (z1 x).bzone) := hst2.ask 12 (.int .i64 (z1 x).bzone) (by rw [hk]; rfl)
                    have k13 : wr.cell? ⟨b, off + x * 19 + 14, none⟩ = some (.bool (z1 x).bbuy) := hst2.ask 13 (.bool (z1 x).bbuy) (by rw [hk]; rfl)
                    have k14 : wr.cell? ⟨b, off + x * 19 + 15, none⟩ = some (.int .i64 (z1 x).bprice) := hst2.ask 14 (.int .i64 (z1 x).bprice) (by rw [hk]; rfl)
                    have k15 : wr.cell? ⟨b, off + x * 19 + 16, none⟩ = some (.slice va (z1 x).Q.length vc) := hst2.ask 15 (.slice va (z1 x).Q.length vc) (by rw [hk]; rfl)
                    have k16 : wr.cell? ⟨b, off + x * 19 + 17, none⟩ = some (.int .i64 (z1 x).parent) := hst2.ask 16 (.int .i64 (z1 x).parent) (by rw [hk]; rfl)
                    have k17 : wr.cell? ⟨b, off + x * 19 + 18, none⟩ = some (.int .i64 (z1 x).group) := hst2.ask 17 (.int .i64 (z1 x).group) (by rw [hk]; rfl)
                    obtain ⟨gf, hfe, cf⟩ := HF1.out x hlt
                    have cfw : wr.cell? ⟨gf, x, none⟩ = some (.int .i64 (mayE (runN z1 x) (z1 x))) := KW.cell cf.1 (fun hh => hh.2 cf.2)
                    simp only [Value.slice.injEq] at hfe
                    obtain ⟨hfe, _⟩ := hfe
                    subst hfe
                    have HNK := hid cf.2
                    have HFW := hid (hfit.below bw)
                    have HQL := hid (HQ1.out x hlt)
                    have HAD := hid (fun (Y : World) (bY : Below wr.heap.size wr Y) => lb_first (HLB.out.below bY) (show bs ≤ Y.heap.size by have := KW.size; have := bY.size; omega) (fun i hi => by have := HKL3.out i hi; have := KW.size; have := bY.size; omega) (z1 x) (HFW.out.below bY) HQL.out)
                    rw [hk] at HAD
                    generalize hE : mayE (runN z1 x) (z1 x) = E at *
                    clear hE cf hst hst2 hk hv hfit
                    go_wp2_with fail
                    go_region_with ((go_at_call 14; refine (HAD.out _ (by first | exact Below.refl _ _ | exact below_dn (Below.refl _ _) _ | exact (Below.refl _ _).drew)).mono ?_; rintro e X1 ⟨rfl, kX1, hB1⟩; have kX1' : Kx (fun i => bs ≤ i ∧ ¬ K3 i) wr X1 := ⟨kX1.os, kX1.tape, kX1.output, kX1.size, kX1.block⟩; clear kX1; have cf1 := kX1'.cell cfw (fun hh => hh.2 HNK.out)))
                    all_goals
                      have KW1 := KW.trans kX1'
                      have HB1 := hid hB1
                      clear hB1 kX1'
                      go_wp2
                      go_roundw
                      case rel => exact ⟨x + 1, y, j + 1, by omega, by omega, by omega, by go_num, by go_num, by go_num, by first | exact HB1.out | exact HB1.out.below (Below.refl _ _).drew | exact HB1.out.below (below_dn (Below.refl _ _) _), by first | exact KW1 | exact KW1.trans (Kx.of_below (Below.refl _ _).drew) | exact KW1.trans (Kx.of_below (below_dn (Below.refl _ _) _))⟩
                      case measure => simp [intOf]; omega
                  | false =>
                    rw [hpk] at cpk'
                    have hlt := hy
                    obtain ⟨b, off, rfl, hst, hfit, hl, hc, hbl⟩ := H2.out.at y hlt
                    have hst2 := hst.kx (S := fun _ => False) (Kx.of_below bw) (fun h => h)
                    obtain ⟨va, vc, hv, hv1, hv2⟩ := hfit.ints.slice
                    unfold maxLen at hv2
                    have hk : kbC (z2 y) = #[.int .i64 (z2 y).kind, .int .i64 (z2 y).cents, .int .i64 (z2 y).seq, .string (z2 y).swho, .int .i64 (z2 y).sseq, .int .i64 (z2 y).szone, .int .i64 (z2 y).shour, .bool (z2 y).sbuy, .int .i64 (z2 y).sqty, .int .i64 (z2 y).sprice, .string (z2 y).bwho, .int .i64 (z2 y).bseq, .int .i64 (z2 y).bzone, .bool (z2 y).bbuy, .int .i64 (z2 y).bprice, .slice va (z2 y).Q.length vc, .int .i64 (z2 y).parent, .int .i64 (z2 y).group] := by unfold kbC; rw [hv]
                    have k0 : wr.cell? ⟨b, off + y * 19 + 1, none⟩ = some (.int .i64 (z2 y).kind) := hst2.ask 0 (.int .i64 (z2 y).kind) (by rw [hk]; rfl)
                    have k1 : wr.cell? ⟨b, off + y * 19 + 2, none⟩ = some (.int .i64 (z2 y).cents) := hst2.ask 1 (.int .i64 (z2 y).cents) (by rw [hk]; rfl)
                    have k2 : wr.cell? ⟨b, off + y * 19 + 3, none⟩ = some (.int .i64 (z2 y).seq) := hst2.ask 2 (.int .i64 (z2 y).seq) (by rw [hk]; rfl)
                    have k3 : wr.cell? ⟨b, off + y * 19 + 4, none⟩ = some (.string (z2 y).swho) := hst2.ask 3 (.string (z2 y).swho) (by rw [hk]; rfl)
                    have k4 : wr.cell? ⟨b, off + y * 19 + 5, none⟩ = some (.int .i64 (z2 y).sseq) := hst2.ask 4 (.int .i64 (z2 y).sseq) (by rw [hk]; rfl)
                    have k5 : wr.cell? ⟨b, off + y * 19 + 6, none⟩ = some (.int .i64 (z2 y).szone) := hst2.ask 5 (.int .i64 (z2 y).szone) (by rw [hk]; rfl)
                    have k6 : wr.cell? ⟨b, off + y * 19 + 7, none⟩ = some (.int .i64 (z2 y).shour) := hst2.ask 6 (.int .i64 (z2 y).shour) (by rw [hk]; rfl)
                    have k7 : wr.cell? ⟨b, off + y * 19 + 8, none⟩ = some (.bool (z2 y).sbuy) := hst2.ask 7 (.bool (z2 y).sbuy) (by rw [hk]; rfl)
                    have k8 : wr.cell? ⟨b, off + y * 19 + 9, none⟩ = some (.int .i64 (z2 y).sqty) := hst2.ask 8 (.int .i64 (z2 y).sqty) (by rw [hk]; rfl)
                    have k9 : wr.cell? ⟨b, off + y * 19 + 10, none⟩ = some (.int .i64 (z2 y).sprice) := hst2.ask 9 (.int .i64 (z2 y).sprice) (by rw [hk]; rfl)
                    have k10 : wr.cell? ⟨b, off + y * 19 + 11, none⟩ = some (.string (z2 y).bwho) := hst2.ask 10 (.string (z2 y).bwho) (by rw [hk]; rfl)
                    have k11 : wr.cell? ⟨b, off + y * 19 + 12, none⟩ = some (.int .i64 (z2 y).bseq) := hst2.ask 11 (.int .i64 (z2 y).bseq) (by rw [hk]; rfl)
                    have k12 : wr.cell? ⟨b, off + y * 19 + 13, none⟩ = some (.int .i64 (z2 y).bzone) := hst2.ask 12 (.int .i64 (z2 y).bzone) (by rw [hk]; rfl)
                    have k13 : wr.cell? ⟨b, off + y * 19 + 14, none⟩ = some (.bool (z2 y).bbuy) := hst2.ask 13 (.bool (z2 y).bbuy) (by rw [hk]; rfl)
                    have k14 : wr.cell? ⟨b, off + y * 19 + 15, none⟩ = some (.int .i64 (z2 y).bprice) := hst2.ask 14 (.int .i64 (z2 y).bprice) (by rw [hk]; rfl)
                    have k15 : wr.cell? ⟨b, off + y * 19 + 16, none⟩ = some (.slice va (z2 y).Q.length vc) := hst2.ask 15 (.slice va (z2 y).Q.length vc) (by rw [hk]; rfl)
                    have k16 : wr.cell? ⟨b, off + y * 19 + 17, none⟩ = some (.int .i64 (z2 y).parent) := hst2.ask 16 (.int .i64 (z2 y).parent) (by rw [hk]; rfl)
                    have k17 : wr.cell? ⟨b, off + y * 19 + 18, none⟩ = some (.int .i64 (z2 y).group) := hst2.ask 17 (.int .i64 (z2 y).group) (by rw [hk]; rfl)
                    obtain ⟨gs, hfe, cf⟩ := HF2.out y hlt
                    have cfw : wr.cell? ⟨gs, y, none⟩ = some (.int .i64 (mayE (runN z2 y) (z2 y))) := KW.cell cf.1 (fun hh => hh.2 cf.2)
                    simp only [Value.slice.injEq] at hfe
                    obtain ⟨hfe, _⟩ := hfe
                    subst hfe
                    have HNK := hid cf.2
                    have HFW := hid (hfit.below bw)
                    have HQL := hid (HQ2.out y hlt)
                    have HAD := hid (fun (Y : World) (bY : Below wr.heap.size wr Y) => lb_second (HLB.out.below bY) (show bs ≤ Y.heap.size by have := KW.size; have := bY.size; omega) (fun i hi => by have := HKL3.out i hi; have := KW.size; have := bY.size; omega) (z2 y) (HFW.out.below bY) HQL.out)
                    rw [hk] at HAD
                    generalize hE : mayE (runN z2 y) (z2 y) = E at *
                    clear hE cf hst hst2 hk hv hfit
                    go_wp2_with fail
                    go_region_with ((go_at_call 14; refine (HAD.out _ (by first | exact Below.refl _ _ | exact below_dn (Below.refl _ _) _ | exact (Below.refl _ _).drew)).mono ?_; rintro e X1 ⟨rfl, kX1, hB1⟩; have kX1' : Kx (fun i => bs ≤ i ∧ ¬ K3 i) wr X1 := ⟨kX1.os, kX1.tape, kX1.output, kX1.size, kX1.block⟩; clear kX1; have cf1 := kX1'.cell cfw (fun hh => hh.2 HNK.out)))
                    all_goals
                      have KW1 := KW.trans kX1'
                      have HB1 := hid hB1
                      clear hB1 kX1'
                      go_wp2
                      go_roundw
                      case rel => exact ⟨x, y + 1, j + 1, by omega, by omega, by omega, by go_num, by go_num, by go_num, by first | exact HB1.out | exact HB1.out.below (Below.refl _ _).drew | exact HB1.out.below (below_dn (Below.refl _ _) _), by first | exact KW1 | exact KW1.trans (Kx.of_below (Below.refl _ _).drew) | exact KW1.trans (Kx.of_below (below_dn (Below.refl _ _) _))⟩
                      case measure => simp [intOf]; omega
                · have hj' : decide ((j : Int) < (l3 : Int)) = false := by simp; omega
                  have hlt := hy
                  obtain ⟨b, off, rfl, hst, hfit, hl, hc, hbl⟩ := H2.out.at y hlt
                  have hst2 := hst.kx (S := fun _ => False) (Kx.of_below bw) (fun h => h)
                  obtain ⟨va, vc, hv, hv1, hv2⟩ := hfit.ints.slice
                  unfold maxLen at hv2
                  have hk : kbC (z2 y) = #[.int .i64 (z2 y).kind, .int .i64 (z2 y).cents, .int .i64 (z2 y).seq, .string (z2 y).swho, .int .i64 (z2 y).sseq, .int .i64 (z2 y).szone, .int .i64 (z2 y).shour, .bool (z2 y).sbuy, .int .i64 (z2 y).sqty, .int .i64 (z2 y).sprice, .string (z2 y).bwho, .int .i64 (z2 y).bseq, .int .i64 (z2 y).bzone, .bool (z2 y).bbuy, .int .i64 (z2 y).bprice, .slice va (z2 y).Q.length vc, .int .i64 (z2 y).parent, .int .i64 (z2 y).group] := by unfold kbC; rw [hv]
                  have k0 : wr.cell? ⟨b, off + y * 19 + 1, none⟩ = some (.int .i64 (z2 y).kind) := hst2.ask 0 (.int .i64 (z2 y).kind) (by rw [hk]; rfl)
                  have k1 : wr.cell? ⟨b, off + y * 19 + 2, none⟩ = some (.int .i64 (z2 y).cents) := hst2.ask 1 (.int .i64 (z2 y).cents) (by rw [hk]; rfl)
                  have k2 : wr.cell? ⟨b, off + y * 19 + 3, none⟩ = some (.int .i64 (z2 y).seq) := hst2.ask 2 (.int .i64 (z2 y).seq) (by rw [hk]; rfl)
                  have k3 : wr.cell? ⟨b, off + y * 19 + 4, none⟩ = some (.string (z2 y).swho) := hst2.ask 3 (.string (z2 y).swho) (by rw [hk]; rfl)
                  have k4 : wr.cell? ⟨b, off + y * 19 + 5, none⟩ = some (.int .i64 (z2 y).sseq) := hst2.ask 4 (.int .i64 (z2 y).sseq) (by rw [hk]; rfl)
                  have k5 : wr.cell? ⟨b, off + y * 19 + 6, none⟩ = some (.int .i64 (z2 y).szone) := hst2.ask 5 (.int .i64 (z2 y).szone) (by rw [hk]; rfl)
                  have k6 : wr.cell? ⟨b, off + y * 19 + 7, none⟩ = some (.int .i64 (z2 y).shour) := hst2.ask 6 (.int .i64 (z2 y).shour) (by rw [hk]; rfl)
                  have k7 : wr.cell? ⟨b, off + y * 19 + 8, none⟩ = some (.bool (z2 y).sbuy) := hst2.ask 7 (.bool (z2 y).sbuy) (by rw [hk]; rfl)
                  have k8 : wr.cell? ⟨b, off + y * 19 + 9, none⟩ = some (.int .i64 (z2 y).sqty) := hst2.ask 8 (.int .i64 (z2 y).sqty) (by rw [hk]; rfl)
                  have k9 : wr.cell? ⟨b, off + y * 19 + 10, none⟩ = some (.int .i64 (z2 y).sprice) := hst2.ask 9 (.int .i64 (z2 y).sprice) (by rw [hk]; rfl)
                  have k10 : wr.cell? ⟨b, off + y * 19 + 11, none⟩ = some (.string (z2 y).bwho) := hst2.ask 10 (.string (z2 y).bwho) (by rw [hk]; rfl)
                  have k11 : wr.cell? ⟨b, off + y * 19 + 12, none⟩ = some (.int .i64 (z2 y).bseq) := hst2.ask 11 (.int .i64 (z2 y).bseq) (by rw [hk]; rfl)
                  have k12 : wr.cell? ⟨b, off + y * 19 + 13, none⟩ = some (.int .i64 (z2 y).bzone) := hst2.ask 12 (.int .i64 (z2 y).bzone) (by rw [hk]; rfl)
                  have k13 : wr.cell? ⟨b, off + y * 19 + 14, none⟩ = some (.bool (z2 y).bbuy) := hst2.ask 13 (.bool (z2 y).bbuy) (by rw [hk]; rfl)
                  have k14 : wr.cell? ⟨b, off + y * 19 + 15, none⟩ = some (.int .i64 (z2 y).bprice) := hst2.ask 14 (.int .i64 (z2 y).bprice) (by rw [hk]; rfl)
                  have k15 : wr.cell? ⟨b, off + y * 19 + 16, none⟩ = some (.slice va (z2 y).Q.length vc) := hst2.ask 15 (.slice va (z2 y).Q.length vc) (by rw [hk]; rfl)
                  have k16 : wr.cell? ⟨b, off + y * 19 + 17, none⟩ = some (.int .i64 (z2 y).parent) := hst2.ask 16 (.int .i64 (z2 y).parent) (by rw [hk]; rfl)
                  have k17 : wr.cell? ⟨b, off + y * 19 + 18, none⟩ = some (.int .i64 (z2 y).group) := hst2.ask 17 (.int .i64 (z2 y).group) (by rw [hk]; rfl)
                  obtain ⟨gs, hfe, cf⟩ := HF2.out y hlt
                  have cfw : wr.cell? ⟨gs, y, none⟩ = some (.int .i64 (mayE (runN z2 y) (z2 y))) := KW.cell cf.1 (fun hh => hh.2 cf.2)
                  simp only [Value.slice.injEq] at hfe
                  obtain ⟨hfe, _⟩ := hfe
                  subst hfe
                  have HNK := hid cf.2
                  have HFW := hid (hfit.below bw)
                  have HQL := hid (HQ2.out y hlt)
                  have HAD := hid (fun (Y : World) (bY : Below wr.heap.size wr Y) => lb_second (HLB.out.below bY) (show bs ≤ Y.heap.size by have := KW.size; have := bY.size; omega) (fun i hi => by have := HKL3.out i hi; have := KW.size; have := bY.size; omega) (z2 y) (HFW.out.below bY) HQL.out)
                  rw [hk] at HAD
                  generalize hE : mayE (runN z2 y) (z2 y) = E at *
                  clear hE cf hst hst2 hk hv hfit
                  go_wp2_with fail
                  go_region_with ((go_at_call 14; refine (HAD.out _ (by first | exact Below.refl _ _ | exact below_dn (Below.refl _ _) _ | exact (Below.refl _ _).drew)).mono ?_; rintro e X1 ⟨rfl, kX1, hB1⟩; have kX1' : Kx (fun i => bs ≤ i ∧ ¬ K3 i) wr X1 := ⟨kX1.os, kX1.tape, kX1.output, kX1.size, kX1.block⟩; clear kX1; have cf1 := kX1'.cell cfw (fun hh => hh.2 HNK.out)))
                  all_goals
                    have KW1 := KW.trans kX1'
                    have HB1 := hid hB1
                    clear hB1 kX1'
                    go_wp2
                    go_roundw
                    case rel => exact ⟨x, y + 1, j + 1, by omega, by omega, by omega, by go_num, by go_num, by go_num, by first | exact HB1.out | exact HB1.out.below (Below.refl _ _).drew | exact HB1.out.below (below_dn (Below.refl _ _) _), by first | exact KW1 | exact KW1.trans (Kx.of_below (Below.refl _ _).drew) | exact KW1.trans (Kx.of_below (below_dn (Below.refl _ _) _))⟩
                    case measure => simp [intOf]; omega
              · have hyl : y = q := by omega
                subst hyl
                have hy1 : ((y : Int) == (y : Int)) = true := by simp
                have hlt := hx
                obtain ⟨b, off, rfl, hst, hfit, hl, hc, hbl⟩ := H1.out.at x hlt
                have hst2 := hst.kx (S := fun _ => False) (Kx.of_below bw) (fun h => h)
                obtain ⟨va, vc, hv, hv1, hv2⟩ := hfit.ints.slice
                unfold maxLen at hv2
                have hk : kbC (z1 x) = #[.int .i64 (z1 x).kind, .int .i64 (z1 x).cents, .int .i64 (z1 x).seq, .string (z1 x).swho, .int .i64 (z1 x).sseq, .int .i64 (z1 x).szone, .int .i64 (z1 x).shour, .bool (z1 x).sbuy, .int .i64 (z1 x).sqty, .int .i64 (z1 x).sprice, .string (z1 x).bwho, .int .i64 (z1 x).bseq, .int .i64 (z1 x).bzone, .bool (z1 x).bbuy, .int .i64 (z1 x).bprice, .slice va (z1 x).Q.length vc, .int .i64 (z1 x).parent, .int .i64 (z1 x).group] := by unfold kbC; rw [hv]
                have k0 : wr.cell? ⟨b, off + x * 19 + 1, none⟩ = some (.int .i64 (z1 x).kind) := hst2.ask 0 (.int .i64 (z1 x).kind) (by rw [hk]; rfl)
                have k1 : wr.cell? ⟨b, off + x * 19 + 2, none⟩ = some (.int .i64 (z1 x).cents) := hst2.ask 1 (.int .i64 (z1 x).cents) (by rw [hk]; rfl)
                have k2 : wr.cell? ⟨b, off + x * 19 + 3, none⟩ = some (.int .i64 (z1 x).seq) := hst2.ask 2 (.int .i64 (z1 x).seq) (by rw [hk]; rfl)
                have k3 : wr.cell? ⟨b, off + x * 19 + 4, none⟩ = some (.string (z1 x).swho) := hst2.ask 3 (.string (z1 x).swho) (by rw [hk]; rfl)
                have k4 : wr.cell? ⟨b, off + x * 19 + 5, none⟩ = some (.int .i64 (z1 x).sseq) := hst2.ask 4 (.int .i64 (z1 x).sseq) (by rw [hk]; rfl)
                have k5 : wr.cell? ⟨b, off + x * 19 + 6, none⟩ = some (.int .i64 (z1 x).szone) := hst2.ask 5 (.int .i64 (z1 x).szone) (by rw [hk]; rfl)
                have k6 : wr.cell? ⟨b, off + x * 19 + 7, none⟩ = some (.int .i64 (z1 x).shour) := hst2.ask 6 (.int .i64 (z1 x).shour) (by rw [hk]; rfl)
                have k7 : wr.cell? ⟨b, off + x * 19 + 8, none⟩ = some (.bool (z1 x).sbuy) := hst2.ask 7 (.bool (z1 x).sbuy) (by rw [hk]; rfl)
                have k8 : wr.cell? ⟨b, off + x * 19 + 9, none⟩ = some (.int .i64 (z1 x).sqty) := hst2.ask 8 (.int .i64 (z1 x).sqty) (by rw [hk]; rfl)
                have k9 : wr.cell? ⟨b, off + x * 19 + 10, none⟩ = some (.int .i64 (z1 x).sprice) := hst2.ask 9 (.int .i64 (z1 x).sprice) (by rw [hk]; rfl)
                have k10 : wr.cell? ⟨b, off + x * 19 + 11, none⟩ = some (.string (z1 x).bwho) := hst2.ask 10 (.string (z1 x).bwho) (by rw [hk]; rfl)
                have k11 : wr.cell? ⟨b, off + x * 19 + 12, none⟩ = some (.int .i64 (z1 x).bseq) := hst2.ask 11 (.int .i64 (z1 x).bseq) (by rw [hk]; rfl)
                have k12 : wr.cell? ⟨b, off + x * 19 + 13, none⟩ = some (.int .i64 (z1 x).bzone) := hst2.ask 12 (.int .i64 (z1 x).bzone) (by rw [hk]; rfl)
                have k13 : wr.cell? ⟨b, off + x * 19 + 14, none⟩ = some (.bool (z1 x).bbuy) := hst2.ask 13 (.bool (z1 x).bbuy) (by rw [hk]; rfl)
                have k14 : wr.cell? ⟨b, off + x * 19 + 15, none⟩ = some (.int .i64 (z1 x).bprice) := hst2.ask 14 (.int .i64 (z1 x).bprice) (by rw [hk]; rfl)
                have k15 : wr.cell? ⟨b, off + x * 19 + 16, none⟩ = some (.slice va (z1 x).Q.length vc) := hst2.ask 15 (.slice va (z1 x).Q.length vc) (by rw [hk]; rfl)
                have k16 : wr.cell? ⟨b, off + x * 19 + 17, none⟩ = some (.int .i64 (z1 x).parent) := hst2.ask 16 (.int .i64 (z1 x).parent) (by rw [hk]; rfl)
                have k17 : wr.cell? ⟨b, off + x * 19 + 18, none⟩ = some (.int .i64 (z1 x).group) := hst2.ask 17 (.int .i64 (z1 x).group) (by rw [hk]; rfl)
                obtain ⟨gf, hfe, cf⟩ := HF1.out x hlt
                have cfw : wr.cell? ⟨gf, x, none⟩ = some (.int .i64 (mayE (runN z1 x) (z1 x))) := KW.cell cf.1 (fun hh => hh.2 cf.2)
                simp only [Value.slice.injEq] at hfe
                obtain ⟨hfe, _⟩ := hfe
                subst hfe
                have HNK := hid cf.2
                have HFW := hid (hfit.below bw)
                have HQL := hid (HQ1.out x hlt)
                have HAD := hid (fun (Y : World) (bY : Below wr.heap.size wr Y) => lb_first (HLB.out.below bY) (show bs ≤ Y.heap.size by have := KW.size; have := bY.size; omega) (fun i hi => by have := HKL3.out i hi; have := KW.size; have := bY.size; omega) (z1 x) (HFW.out.below bY) HQL.out)
                rw [hk] at HAD
                generalize hE : mayE (runN z1 x) (z1 x) = E at *
                clear hE cf hst hst2 hk hv hfit
                go_wp2_with fail
                go_region_with ((go_at_call 14; refine (HAD.out _ (by first | exact Below.refl _ _ | exact below_dn (Below.refl _ _) _ | exact (Below.refl _ _).drew)).mono ?_; rintro e X1 ⟨rfl, kX1, hB1⟩; have kX1' : Kx (fun i => bs ≤ i ∧ ¬ K3 i) wr X1 := ⟨kX1.os, kX1.tape, kX1.output, kX1.size, kX1.block⟩; clear kX1; have cf1 := kX1'.cell cfw (fun hh => hh.2 HNK.out)))
                all_goals
                  have KW1 := KW.trans kX1'
                  have HB1 := hid hB1
                  clear hB1 kX1'
                  go_wp2
                  go_roundw
                  case rel => exact ⟨x + 1, y, j + 1, by omega, by omega, by omega, by go_num, by go_num, by go_num, by first | exact HB1.out | exact HB1.out.below (Below.refl _ _).drew | exact HB1.out.below (below_dn (Below.refl _ _) _), by first | exact KW1 | exact KW1.trans (Kx.of_below (Below.refl _ _).drew) | exact KW1.trans (Kx.of_below (below_dn (Below.refl _ _) _))⟩
                  case measure => simp [intOf]; omega
            · have hx' : decide ((x : Int) < (k : Int)) = false := by simp; omega
              by_cases hy : y < q
              · have hy' : decide ((y : Int) < (q : Int)) = true := by simp; omega
                have hy1 : ((y : Int) == (q : Int)) = false := beq_eq_false_iff_ne.2 (by omega)
                have hy2 : ¬ (y : Int) = (q : Int) := by omega
                have hy3 : decide ((y : Int) = (q : Int)) = false := by simp; omega
                have hlt := hy
                obtain ⟨b, off, rfl, hst, hfit, hl, hc, hbl⟩ := H2.out.at y hlt
                have hst2 := hst.kx (S := fun _ => False) (Kx.of_below bw) (fun h => h)
                obtain ⟨va, vc, hv, hv1, hv2⟩ := hfit.ints.slice
                unfold maxLen at hv2
                have hk : kbC (z2 y) = #[.int .i64 (z2 y).kind, .int .i64 (z2 y).cents, .int .i64 (z2 y).seq, .string (z2 y).swho, .int .i64 (z2 y).sseq, .int .i64 (z2 y).szone, .int .i64 (z2 y).shour, .bool (z2 y).sbuy, .int .i64 (z2 y).sqty, .int .i64 (z2 y).sprice, .string (z2 y).bwho, .int .i64 (z2 y).bseq, .int .i64 (z2 y).bzone, .bool (z2 y).bbuy, .int .i64 (z2 y).bprice, .slice va (z2 y).Q.length vc, .int .i64 (z2 y).parent, .int .i64 (z2 y).group] := by unfold kbC; rw [hv]
                have k0 : wr.cell? ⟨b, off + y * 19 + 1, none⟩ = some (.int .i64 (z2 y).kind) := hst2.ask 0 (.int .i64 (z2 y).kind) (by rw [hk]; rfl)
                have k1 : wr.cell? ⟨b, off + y * 19 + 2, none⟩ = some (.int .i64 (z2 y).cents) := hst2.ask 1 (.int .i64 (z2 y).cents) (by rw [hk]; rfl)
                have k2 : wr.cell? ⟨b, off + y * 19 + 3, none⟩ = some (.int .i64 (z2 y).seq) := hst2.ask 2 (.int .i64 (z2 y).seq) (by rw [hk]; rfl)
                have k3 : wr.cell? ⟨b, off + y * 19 + 4, none⟩ = some (.string (z2 y).swho) := hst2.ask 3 (.string (z2 y).swho) (by rw [hk]; rfl)
                have k4 : wr.cell? ⟨b, off + y * 19 + 5, none⟩ = some (.int .i64 (z2 y).sseq) := hst2.ask 4 (.int .i64 (z2 y).sseq) (by rw [hk]; rfl)
                have k5 : wr.cell? ⟨b, off + y * 19 + 6, none⟩ = some (.int .i64 (z2 y).szone) := hst2.ask 5 (.int .i64 (z2 y).szone) (by rw [hk]; rfl)
                have k6 : wr.cell? ⟨b, off + y * 19 + 7, none⟩ = some (.int .i64 (z2 y).shour) := hst2.ask 6 (.int .i64 (z2 y).shour) (by rw [hk]; rfl)
                have k7 : wr.cell? ⟨b, off + y * 19 + 8, none⟩ = some (.bool (z2 y).sbuy) := hst2.ask 7 (.bool (z2 y).sbuy) (by rw [hk]; rfl)
                have k8 : wr.cell? ⟨b, off + y * 19 + 9, none⟩ = some (.int .i64 (z2 y).sqty) := hst2.ask 8 (.int .i64 (z2 y).sqty) (by rw [hk]; rfl)
                have k9 : wr.cell? ⟨b, off + y * 19 + 10, none⟩ = some (.int .i64 (z2 y).sprice) := hst2.ask 9 (.int .i64 (z2 y).sprice) (by rw [hk]; rfl)
                have k10 : wr.cell? ⟨b, off + y * 19 + 11, none⟩ = some (.string (z2 y).bwho) := hst2.ask 10 (.string (z2 y).bwho) (by rw [hk]; rfl)
                have k11 : wr.cell? ⟨b, off + y * 19 + 12, none⟩ = some (.int .i64 (z2 y).bseq) := hst2.ask 11 (.int .i64 (z2 y).bseq) (by rw [hk]; rfl)
                have k12 : wr.cell? ⟨b, off + y * 19 + 13, none⟩ = some (.int .i64 (z2 y).bzone) := hst2.ask 12 (.int .i64 (z2 y).bzone) (by rw [hk]; rfl)
                have k13 : wr.cell? ⟨b, off + y * 19 + 14, none⟩ = some (.bool (z2 y).bbuy) := hst2.ask 13 (.bool (z2 y).bbuy) (by rw [hk]; rfl)
                have k14 : wr.cell? ⟨b, off + y * 19 + 15, none⟩ = some (.int .i64 (z2 y).bprice) := hst2.ask 14 (.int .i64 (z2 y).bprice) (by rw [hk]; rfl)
                have k15 : wr.cell? ⟨b, off + y * 19 + 16, none⟩ = some (.slice va (z2 y).Q.length vc) := hst2.ask 15 (.slice va (z2 y).Q.length vc) (by rw [hk]; rfl)
                have k16 : wr.cell? ⟨b, off + y * 19 + 17, none⟩ = some (.int .i64 (z2 y).parent) := hst2.ask 16 (.int .i64 (z2 y).parent) (by rw [hk]; rfl)
                have k17 : wr.cell? ⟨b, off + y * 19 + 18, none⟩ = some (.int .i64 (z2 y).group) := hst2.ask 17 (.int .i64 (z2 y).group) (by rw [hk]; rfl)
                obtain ⟨gs, hfe, cf⟩ := HF2.out y hlt
                have cfw : wr.cell? ⟨gs, y, none⟩ = some (.int .i64 (mayE (runN z2 y) (z2 y))) := KW.cell cf.1 (fun hh => hh.2 cf.2)
                simp only [Value.slice.injEq] at hfe
                obtain ⟨hfe, _⟩ := hfe
                subst hfe
                have HNK := hid cf.2
                have HFW := hid (hfit.below bw)
                have HQL := hid (HQ2.out y hlt)
                have HAD := hid (fun (Y : World) (bY : Below wr.heap.size wr Y) => lb_second (HLB.out.below bY) (show bs ≤ Y.heap.size by have := KW.size; have := bY.size; omega) (fun i hi => by have := HKL3.out i hi; have := KW.size; have := bY.size; omega) (z2 y) (HFW.out.below bY) HQL.out)
                rw [hk] at HAD
                generalize hE : mayE (runN z2 y) (z2 y) = E at *
                clear hE cf hst hst2 hk hv hfit
                go_wp2_with fail
                go_region_with ((go_at_call 14; refine (HAD.out _ (by first | exact Below.refl _ _ | exact below_dn (Below.refl _ _) _ | exact (Below.refl _ _).drew)).mono ?_; rintro e X1 ⟨rfl, kX1, hB1⟩; have kX1' : Kx (fun i => bs ≤ i ∧ ¬ K3 i) wr X1 := ⟨kX1.os, kX1.tape, kX1.output, kX1.size, kX1.block⟩; clear kX1; have cf1 := kX1'.cell cfw (fun hh => hh.2 HNK.out)))
                all_goals
                  have KW1 := KW.trans kX1'
                  have HB1 := hid hB1
                  clear hB1 kX1'
                  go_wp2
                  go_roundw
                  case rel => exact ⟨x, y + 1, j + 1, by omega, by omega, by omega, by go_num, by go_num, by go_num, by first | exact HB1.out | exact HB1.out.below (Below.refl _ _).drew | exact HB1.out.below (below_dn (Below.refl _ _) _), by first | exact KW1 | exact KW1.trans (Kx.of_below (Below.refl _ _).drew) | exact KW1.trans (Kx.of_below (below_dn (Below.refl _ _) _))⟩
                  case measure => simp [intOf]; omega
              · obtain rfl : x = k := by omega
                obtain rfl : y = q := by omega
                have HA := hid (HSA.out.kx KW (fun i hi hh => hh.2 (HOA3.out i hi)))
                obtain ⟨Ob, hb, _⟩ := HLB.out
                obtain ⟨N, S, k1, e1, e2, e3, e4⟩ := HA.out
                obtain ⟨M, T, m1, f1, f2, f3, f4⟩ := hb
                have hpr := pair2 k1 e1 e2 e3 e4 m1 f1 f2 f3 f4
                have HAL := hid hpr.all
                have hTS := hpr.eq
                subst hTS
                have hN := hpr.len
                have hM := hpr.len2
                have hNM := hpr.perm.length_eq
                have HKA := hid k1
                have HKB := hid m1
                clear k1 e1 e2 e3 e4 m1 f1 f2 f3 f4 hpr HA
                go_wp2_with fail
                refine (steps_any HKA.out (by omega)).mono ?_
                rintro e X1 ⟨r1, b1, T1, rfl, _, hT1, hTk, bX1⟩
                have BX1 := bw.trans (bX1.mono bw.size)
                have HB1 := hid (HKB.out.below bX1)
                have HA1 := hid (HKA.out.below bX1)
                clear HKA HKB bX1
                go_wp2_with fail
                refine (steps_any HB1.out (by omega)).mono ?_
                rintro e X2 ⟨r2, b2, T2, rfl, _, hT2, hTq, bX2⟩
                have BX2 := BX1.trans (bX2.mono BX1.size)
                have HB2 := hid (HB1.out.below bX2)
                have HA2 := hid (HA1.out.below bX2)
                have hT1' := hT1.below bX2
                clear HA1 HB1 bX2 BX1 hT1
                have heq : T1.map (fun t => (t.who, t.o)) = T2.map (fun t => (t.who, t.o)) := by rw [hTk, hTq]; exact HAL.out 2
                go_wp2_with fail
                refine (sameSteps_any X2 r1 r2 b1 b2 T1 T2 hT1' hT2 heq).mono ?_
                rintro e X3 ⟨rfl, bX3⟩
                have BX3 := BX2.trans (bX3.mono BX2.size)
                have HB3 := hid (HB2.out.below bX3)
                have HA3 := hid (HA2.out.below bX3)
                clear HA2 HB2 bX3 BX2 hT1' hT2 heq hTk hTq
                go_wp2_with fail
                refine (blocks_any HA3.out (by omega)).mono ?_
                rintro e X4 ⟨r3, b3, T3, rfl, _, hT3, hTl3, bX4⟩
                have BX4 := BX3.trans (bX4.mono BX3.size)
                have HB4 := hid (HB3.out.below bX4)
                have HA4 := hid (HA3.out.below bX4)
                clear HA3 HB3 bX4 BX3
                go_wp2_with fail
                refine (blocks_any HB4.out (by omega)).mono ?_
                rintro e X5 ⟨r4, b4, T4, rfl, _, hT4, hTl4, bX5⟩
                have BX5 := BX4.trans (bX5.mono BX4.size)
                have HB5 := hid (HB4.out.below bX5)
                have HA5 := hid (HA4.out.below bX5)
                have hT3' := hT3.below bX5
                clear HA4 HB4 bX5 BX4 hT3
                have heq2 : T3.map (fun t => (t.who, t.o)) = T4.map (fun t => (t.who, t.o)) := by rw [hTl3, hTl4]; exact HAL.out 3
                have hkd : ∀ t ∈ T3, t.o.kind = 3 := fun t ht => by
                  have : (t.who, t.o) ∈ allO 3 N S := by rw [← hTl3]; exact List.mem_map.2 ⟨t, ht, rfl⟩
                  exact all_kind this
                go_wp2_with fail
                refine (sameBlocks_any X5 r3 r4 b3 b4 T3 T4 hT3' hT4 heq2 hkd).mono ?_
                rintro e X6 ⟨rfl, bX6⟩
                have BX6 := BX5.trans (bX6.mono BX5.size)
                have HB6 := hid (HB5.out.below bX6)
                have HA6 := hid (HA5.out.below bX6)
                clear HA5 HB5 bX6 BX5 hT3' hT4 heq2 hTl3 hTl4 hkd
                go_wp2_with fail
                refine (owes_any HA6.out firstO firstO_size).mono ?_
                rintro e X7 ⟨rfl, bX7⟩
                have BX7 := BX6.trans (bX7.mono BX6.size)
                have HB7 := hid (HB6.out.below bX7)
                have HA7 := hid (HA6.out.below bX7)
                clear HA6 HB6 bX7 BX6
                go_wp2_with fail
                refine (owes_any HB7.out firstO firstO_size).mono ?_
                rintro e X8 ⟨rfl, bX8⟩
                have BX8 := BX7.trans (bX8.mono BX7.size)
                have HB8 := hid (HB7.out.below bX8)
                have HA8 := hid (HA7.out.below bX8)
                clear HA7 HB7 bX8 BX7
                go_wp2_with fail
                refine (asks_any HA8.out secondO secondO_size).mono ?_
                rintro e X9 ⟨rfl, hX9⟩
                subst hX9
                go_wp2_with fail
                refine (asks_any HB8.out secondO secondO_size).mono ?_
                rintro e X9 ⟨rfl, hX9⟩
                subst hX9
                go_wp2_with fail
                refine (who_any HA8.out (by omega)).mono ?_
                rintro e X10 ⟨r5, rfl, hT5, bX10⟩
                have BX10 := BX8.trans (bX10.mono BX8.size)
                have HB10 := hid (HB8.out.below bX10)
                clear HA8 HB8 bX10 BX8
                obtain ⟨a5, c5, rfl⟩ := own_slice hT5
                go_wp2_with fail
                refine (who_any HB10.out (by omega)).mono ?_
                rintro e X11 ⟨r6, rfl, hT6, bX11⟩
                have BX11 := BX10.trans (bX11.mono BX10.size)
                clear HB10 bX11 BX10
                obtain ⟨a6, c6, rfl⟩ := own_slice hT6
                clear hT5 hT6
                rw [← hNM]
                clear hNM
                go_wp2
                go_ret
                exact ⟨by first | rfl | simp, BX11⟩

end Go.Proofs.Ytbkobimbdiogfaa
