/- TableauOne: the walk. -/
import Derived.Test.YtgojlegknlalpaaGreatDoorZUOneM
import Derived.Test.YtgojlegknlalpaaGreatDoorZUBackM
import Derived.Test.YtgojlegknlalpaaGreatDoorPk36
import Derived.Test.YtgojlegknlalpaaGreatDoorPk34
import Derived.Test.YtgojlegknlalpaaGreatDoorZGNewB
import Derived.Maps.AppendAt
import Derived.Deep.QuietTactic
namespace Go.Proofs.YtgojlegknlalpaaGreatDoor
open Go.RowKit
set_option linter.unusedVariables false
set_option maxRecDepth 100000
set_option linter.unusedSimpArgs false

theorem vmade (n : Nat) : madeCells (Value.cells (.int .i64 0)) (n * 1) = (intV (List.replicate n 0)).toArray := by
  apply Array.toList_inj.1
  have : (madeCells (Value.cells (.int .i64 0)) (n * 1)).toList = List.replicate (n * 1) (Value.int .i64 0) := toList_madeCells_one _ _
  rw [this]
  simp [intV]
theorem vmake (n : Nat) (hn : n ≤ 1000) (V : World) : (Instr.makeSlice 23 (.int .i64 (n : Int)) (.int .i64 (n : Int))).run Tryz.prog V = .ok (.slice (some ⟨V.heap.size, 0, none⟩) n n) (V.alloc (.cells (intV (List.replicate n 0)).toArray 3)) := by
  obtain ⟨i0, hi0, hz0, hz1, hz2⟩ := info_parts info_intU
  have := run_make (P := Tryz.prog) (w := V) 23 3 i0 (.int .i64 0) Tryz.underlying23 hi0 hz0 .i64 .i64 (n : Int) (n : Int) (by omega) (by omega) (by rw [hz2]; omega) (by omega)
  rw [hz1] at this
  simp only [Int.toNat_natCast] at this
  rw [vmade] at this
  exact this
theorem info_intsV : (Tryz.prog.info? 23).map (fun i => (i.zero, i.size, i.bytes)) = some (some (.slice none 0 0), 1, 24) := by kernel_rfl
theorem intV_set (L : List Int) (i : Nat) (x : Int) : (intV L).set i (.int .i64 x) = intV (L.set i x) := by simp [intV]
/-- A number of a row of one's own is another one. -/
theorem IO.put {w : World} {base g n c : Nat} {L : List Int} (h : IO w base (.slice (some ⟨g, 0, none⟩) n c) L) (hl : L.length = n) (i : Nat) (hi : i < n) (x : Int) :
    (∃ u, w.cell? ⟨g, i, none⟩ = some (.int .i64 u)) ∧ w.frozen? ⟨g, i, none⟩ = false ∧ IO (w.setCell ⟨g, i, none⟩ (.int .i64 x)) base (.slice (some ⟨g, 0, none⟩) n c) (L.set i x) := by
  have h' : w.ownsRow base 3 1 (.slice (some ⟨g, 0, none⟩) n c) n (intV L) := by have := h; unfold IO at this; rw [hl] at this; exact this
  refine ⟨⟨L[i]'(by omega), ?_⟩, h'.frozenAt i, ?_⟩
  · rw [h'.cellAt i (by omega)]
    rw [List.getElem?_eq_getElem (by rw [intV_len]; omega), intV_at L i (by omega)]
  · have := (h'.stored i (.int .i64 x)).1
    rw [intV_set] at this
    unfold IO
    rw [List.length_set, hl]
    exact this
theorem slice_newV (X : World) (u : Value) (t : TypeId) : ∀ j v, [u][j]? = some v → (X.alloc (.cells #[u] t)).cell? ((⟨X.heap.size, 0, none⟩ : Addr).add j) = some v := by
  intro j v hj
  rw [add_off, Nat.zero_add]
  exact cell_at (L := [u]) (box_new X _) j v hj
theorem UTg.fit {w : World} {base tb g : Nat} {A : List URw} {K c m : Nat} (h : UTg w base tb g A K) (hI : PInv A c m) (hm : m ≠ 0) : UTg w base tb g A (m / 9 + 1) := by
  obtain ⟨rc, C, h1, h2⟩ := h
  refine ⟨rc, C, h1, h2.own, h2.len, h2.six, fun i k1 k2 => ?_⟩
  obtain ⟨tv, p1, p2, p3, p4, e, hl⟩ := h2.is_ i k1 k2
  have ab := hI.abs _ (List.getElem_mem k2)
  exact ⟨tv, p1, p2, p3, p4, e, hl.fit hm ab.1 ab.2⟩
set_option maxHeartbeats 25600000 in
theorem tabOne_any (w : World) (rv : Value) (M : List (List Int)) (h : IntRows w rv M) (htab : Tab w) (hM : M.length ≤ 1152921504606846976) :
    Calls Tryz.prog 4 #[rv] w fun e w' => e = .returned (.bool true) ∧ Below w.heap.size w w' := by
  have HI := hid h
  have HTB := hid htab
  have HV := hid (heavy12_any w rv (.slice none 0 0) none 0 0 M [] h (Row1.nil w) (Nat.le_refl _) (Nat.zero_le _))
  have HSZ := hid hM
  obtain ⟨ra, rc, rfl, rl, rm⟩ := h.slice
  unfold maxLen at rm
  clear h htab hM
  go_enter Tryz.func4, Tryz.ntmps4
  go_wp2_with fail
  refine HV.out.mono ?_
  rintro e X0 ⟨⟨hvB, rfl, hv⟩, hX⟩
  subst hX
  clear hv HV HSZ
  cases hvB with
  | true =>
    go_wp2
    go_ret
    exact ⟨rfl, Below.refl _ _⟩
  | false =>
  by_cases hR12 : M.length ≤ 12
  case neg =>
    have h2 : decide ((12 : Int) < (M.length : Int)) = true := decide_eq_true (by omega)
    go_wp2
    go_ret
    exact ⟨rfl, Below.refl _ _⟩
  have h2 : decide ((12 : Int) < (M.length : Int)) = false := decide_eq_false (by omega)
  have HR12 := hid hR12
  have o1 := World.ownsRow_made (e := 23) (size := 1) X0 #[] 0 (Nat.le_refl X0.heap.size) (Nat.zero_le _) (by simp)
  have o2 := World.ownsRow_made (e := 3) (size := 1) (base := X0.heap.size) (X0.alloc (Obj.cells #[] 23)) #[] 0 (by simp) (Nat.zero_le _) (by simp)
  have bA := ((Below.refl X0.heap.size X0).alloc (Nat.le_refl _) (Obj.cells #[] 23)).alloc (by simp) (Obj.cells #[] 3)
  have o1' := o1.alloc (Obj.cells #[] 3)
  simp only [World.size_alloc] at o2
  have HPV0 : Hid (PV ((X0.alloc (Obj.cells #[] 23)).alloc (Obj.cells #[] 3)) X0.heap.size [] ⟨[], [], [], []⟩ (.slice (some ⟨X0.heap.size, 0, none⟩) 0 0) (.slice (some ⟨X0.heap.size + 1, 0, none⟩) 0 0) (.slice none 0 0) (.slice none 0 0)) :=
    hid ⟨by simpa using o1', rfl, fun i h1 h2 => by simp at h1, by simpa [IO, intV] using o2, ⟨rfl, .inl ⟨rfl, rfl⟩⟩, ⟨rfl, .inl ⟨rfl, rfl⟩⟩, fun g h e => by simp [Value.ownBlock] at e, fun g h e => by simp [Value.ownBlock] at e, fun g h => by simp [Value.ownBlock] at h⟩
  clear o1 o2 o1' hR12
  go_wp2_with fail
  generalize (X0.alloc (Obj.cells #[] 23)).alloc (Obj.cells #[] 3) = W2 at *
  have HBA := hid bA
  clear bA h2
  go_loopw [5, 6] (fun nv iv wr => ∃ k : Nat, k ≤ M.length ∧ nv = .int .i64 ((capN (M.take k) : Nat) : Int) ∧ iv = .int .i64 (k : Int) ∧ wr = W2) (fun _ iv _ => M.length - (intOf iv).toNat)
  case atStart => exact ⟨0, Nat.zero_le _, by simp [capN], by first | rfl | trivial, by first | rfl | trivial⟩
  case round =>
    obtain ⟨k, hk, rfl, rfl, rfl⟩ := hrel
    by_cases hlt : k < M.length
    · obtain ⟨rb, ro, rcc, u, e, hc, hu⟩ := (HI.out.below HBA.out).at k hlt
      simp only [Value.slice.injEq] at e
      obtain ⟨rfl, -, rfl⟩ := e
      obtain ⟨ua, uc, rfl, ul, um⟩ := hu.slice
      unfold maxLen at um
      have HS := hid (capN_succ M k hlt)
      have HL := hid (capN_le M k hk)
      clear hu
      generalize M[k].length = q at *
      obtain ⟨cn, HCN⟩ : ∃ cn, Hid (capN (M.take k) = cn) := ⟨_, hid rfl⟩
      rw [HCN.out] at HS HL ⊢
      have hcn : cn ≤ 60 := HL.out
      go_wp2
      all_goals
        go_roundw
        case rel => exact ⟨k + 1, by omega, by rw [HS.out]; congr 1; omega, by go_num, by first | rfl | trivial⟩
        case measure => simp [intOf]; omega
    · obtain rfl : k = M.length := by omega
      rw [List.take_length]
      have HN60 : Hid (capN M ≤ 60) := hid (by have := capN_le M M.length (Nat.le_refl _); rw [List.take_length] at this; exact this)
      generalize capN M = n at *
      have hn60 : n ≤ 60 := HN60.out
      go_wp2_with fail
      obtain ⟨R, HR⟩ : ∃ R, Hid (M.length = R) := ⟨_, hid rfl⟩
      rw [HR.out] at HR12 rl
      simp only [HR.out]
      have hR12 : R ≤ 12 := HR12.out
      clear hk hlt
      go_loopw [3, 4, 7] (fun wv bv iv W => ∃ k : Nat, k ≤ R ∧ iv = .int .i64 (k : Int) ∧ (∃ vs, Hid (PV W X0.heap.size vs ⟨wM n R M k, wB n k, [], []⟩ wv bv (.slice none 0 0) (.slice none 0 0))) ∧ Below X0.heap.size X0 W) (fun _ _ iv _ => R - (intOf iv).toNat)
      case atStart => exact ⟨0, Nat.zero_le _, rfl, ⟨[], HPV0⟩, HBA.out⟩
      case round =>
        clear HPV0
        obtain ⟨W, hWE⟩ : ∃ W, W = wr := ⟨_, rfl⟩
        subst hWE
        obtain ⟨k, hk, rfl, ⟨vs, HPV⟩, bW⟩ := hrel
        by_cases hlt : k < R
        · have hltM : k < M.length := by rw [HR.out]; exact hlt
          obtain ⟨rb, ro, rcc, u, e, hc, hu⟩ := (HI.out.below bW).at k hltM
          simp only [Value.slice.injEq] at e
          obtain ⟨rfl, -, rfl⟩ := e
          obtain ⟨ua, uc, rfl, ul, um⟩ := hu.slice
          unfold maxLen at um
          have HWS := hid (wM_succ n R M k hltM)
          have HU := hid hu
          have HC := hid (fun (Y : World) (b : Below W.heap.size W Y) => kcU b hc)
          clear hu
          generalize hrow : M[k]'hltM = row at *
          clear hrow
          have hr := HPV.out.rows
          simp only [wM_len] at hr
          have he := HPV.out.rel
          simp only [IO, wB_len] at he
          obtain ⟨wa, wc, hwe⟩ := own_form4 hr
          obtain ⟨ba, bc, hbe⟩ := own_form4 he
          subst hwe hbe
          have HLT := hid (And.intro (fun g hg => (hr.lt g hg).2) (fun g hg => (he.lt g hg).2))
          clear hr he
          have HMK := vmake (n + R) (by omega)
          simp only [Int.natCast_add] at HMK
          have hbs : X0.heap.size ≤ W.heap.size := bW.size
          have bM := (Below.refl W.heap.size W).alloc (Nat.le_refl _) (Obj.cells (intV (List.replicate (n + R) 0)).toArray 3)
          have HIO0 : Hid (IO (W.alloc (Obj.cells (intV (List.replicate (n + R) 0)).toArray 3)) X0.heap.size (.slice (some ⟨W.heap.size, 0, none⟩) (n + R) (n + R)) (wr0 n R row 0)) := hid (by
            have := World.ownsRow_lit (e := 3) (size := 1) W (intV (List.replicate (n + R) 0)).toArray (n + R) hbs (by unfold maxLen; omega) (by simp [intV])
            unfold IO
            rw [wr0_zero, List.length_replicate]
            simpa using this)
          go_wp2_with fail
          generalize W.alloc (Obj.cells (intV (List.replicate (n + R) 0)).toArray 3) = W1 at *
          have HBM := hid bM
          obtain ⟨g, HGE⟩ : ∃ g, Hid (W.heap.size = g) := ⟨_, hid rfl⟩
          rw [HGE.out] at HIO0
          simp only [HGE.out]
          clear HMK bM
          go_loopw [9] (fun jv wr => ∃ q : Nat, q ≤ min row.length n ∧ jv = .int .i64 (q : Int) ∧ Hid (IO wr X0.heap.size (.slice (some ⟨g, 0, none⟩) (n + R) (n + R)) (wr0 n R row q)) ∧ Below W.heap.size W wr) (fun jv _ => row.length - (intOf jv).toNat)
          case atStart => exact ⟨0, Nat.zero_le _, rfl, HIO0, HBM.out⟩
          case round =>
            clear HIO0 HBM
            obtain ⟨q, hq, rfl, HIO, bq⟩ := hrel
            have hcw := HC.out wr bq
            by_cases hql : q < min row.length n
            · obtain ⟨xb, xo, xc, e, _, _, hx⟩ := (HU.out.below bq).at q (by omega)
              simp only [Value.slice.injEq] at e
              obtain ⟨rfl, -, rfl⟩ := e
              have HSU := hid (wr0_succ (n := n) (R := R) (k := q) (row := row) (by omega) (by omega))
              obtain ⟨⟨v0, hv0⟩, hf0, hio⟩ := HIO.out.put (wr0_len (by omega) (by omega)) q (by omega) (f1k (row[q]'(by omega)))
              rw [HSU.out] at hio
              have HIO1 := hid hio
              have bq1 := bq.setCell (p := ⟨g, q, none⟩) (by rw [← HGE.out]; exact Nat.le_refl _) (.int .i64 (f1k (row[q]'(by omega))))
              have hfl := f1k_lt (row[q]'(by omega))
              have hff : (row[q]'(by omega)).tmod 1000 = f1k (row[q]'(by omega)) := rfl
              generalize row[q]'_ = x at *
              have h1 : (q : Int) < (row.length : Int) := by omega
              have h2 : (q : Int) < (n : Int) := by omega
              have h3 : q < n + R := by omega
              generalize f1k x = y at *
              have hw1 : IntKind.i64.wrap y = y := by rw [IntKind.wrap_i64]; omega
              have hw2 : wrap64 y = y := by simp only [wrap64]; omega
              clear hio
              go_wp2
              all_goals
                go_roundw
                case rel => exact ⟨q + 1, by omega, by go_num, HIO1, bq1⟩
                case measure => simp [intOf]; omega
            · obtain rfl : q = min row.length n := by omega
              obtain ⟨⟨v0, hv0⟩, hf0, hio⟩ := HIO.out.put (wr0_len (by omega) (by omega)) (n + k) (by omega) 1
              have HIO1 := hid (show IO (wr.setCell ⟨g, n + k, none⟩ (.int .i64 1)) X0.heap.size (.slice (some ⟨g, 0, none⟩) (n + R) (n + R)) (wrow n R k row) from hio)
              have bq1 := hid (bq.setCell (p := ⟨g, n + k, none⟩) (by rw [← HGE.out]; exact Nat.le_refl _) (.int .i64 1))
              obtain ⟨j0, hj0, jz0, jz1, jz2⟩ := info_parts info_intsV
              obtain ⟨i0, hi0, iz0, iz1, iz2⟩ := info_parts info_intU
              clear hio bq
              have key : ∀ (W3 : World), Below W.heap.size W W3 → IO W3 X0.heap.size (.slice (some ⟨g, 0, none⟩) (n + R) (n + R)) (wrow n R k row) → PV W3 X0.heap.size vs ⟨wM n R M k, wB n k, [], []⟩ (.slice wa k wc) (.slice ba k bc) (.slice none 0 0) (.slice none 0 0) := fun W3 b _ => HPV.out.below b
              have HPV3 := hid (key _ bq1.out HIO1.out)
              clear key
              have hown1 : ((wr.setCell ⟨g, n + k, none⟩ (.int .i64 1)).alloc (Obj.cells #[.slice (some ⟨g, 0, none⟩) (n + R) (n + R)] 23)).ownsRow X0.heap.size 23 1 (.slice wa k wc) k vs := by
                have := HPV3.out.rows
                simp only [wM_len] at this
                exact this.alloc _
              have hbs3 : X0.heap.size ≤ (wr.setCell ⟨g, n + k, none⟩ (.int .i64 1)).heap.size := by have := bq1.out.size; omega
              have HQ2 := hid hq
              generalize hqe : min row.length n = q at *
              have hqc : (¬ (q : Int) < (row.length : Int)) ∨ ((q : Int) < (row.length : Int) ∧ ¬ (q : Int) < (n : Int)) := by omega
              clear hqe hq HQ2
              have hsz : (wr.setCell ⟨g, n + k, none⟩ (.int .i64 1)).heap.size = wr.heap.size := by simp [World.setCell]
              rcases hqc with hq1 | ⟨hq1, hq2⟩
              all_goals
                go_wp2_with (first | (at_builtin; refine wpList_append_own_at _ rfl _ _ 22 rfl X0.heap.size 23 j0 (.slice none 0 0) 1 24 Tryz.underlying22 hj0 jz0 jz1 jz2 rfl (by decide) (.slice wa k wc) k vs rfl hown1 ⟨wr.heap.size, 0, none⟩ 1 1 [.slice (some ⟨g, 0, none⟩) (n + R) (n + R)] rfl rfl (by rw [← hsz]; exact slice_newV _ _ _) (by intro u hu; simp at hu; subst hu; rfl) (by unfold maxLen; omega) (by omega) (by rw [World.size_alloc]; omega) ?_) | fail)
                intro v' Y5 o5 hg5 _ hat5
                obtain ⟨wa', wc', rfl⟩ := own_form4 o5
                have hpa := HPV3.out.alloc (Obj.cells #[.slice (some ⟨g, 0, none⟩) (n + R) (n + R)] 23)
                have hua : IO ((wr.setCell ⟨g, n + k, none⟩ (.int .i64 1)).alloc (Obj.cells #[.slice (some ⟨g, 0, none⟩) (n + R) (n + R)] 23)) X0.heap.size (.slice (some ⟨g, 0, none⟩) (n + R) (n + R)) (wrow n R k row) := World.ownsRow.alloc HIO1.out _
                have hpr := hpa.push_r (L := wrow n R k row) hua (DB.new (v := .slice (some ⟨g, 0, none⟩) (n + R) (n + R)) rfl (fun x hx => by have := HLT.out.2 x hx; rw [HGE.out] at this; exact this)).symm (fun x _ e => by simp [Value.ownBlock] at e) (fun x _ e => by simp [Value.ownBlock] at e) (by rw [wM_len]; exact o5) hg5
                rw [← HWS.out] at hpr
                have HPR := hid hpr
                have B5 : Below X0.heap.size X0 Y5 := ((bW.trans (bq1.out.mono hbs)).alloc (by omega) _).grown hg5 (by rw [World.size_alloc]; omega) (fun x hx => (hown1.lt x hx).1)
                have HB5 := hid B5
                have hown2 : (Y5.alloc (Obj.cells #[.int .i64 ((n : Int) + (k : Int))] 3)).ownsRow X0.heap.size 3 1 (.slice ba k bc) k (intV (wB n k)) := by
                  have := HPR.out.rel
                  simp only [IO, wB_len] at this
                  exact World.ownsRow.alloc this _
                have hbs5 : X0.heap.size ≤ Y5.heap.size := by have := hg5.size; rw [World.size_alloc] at this; omega
                clear o5 hg5 hat5 hpa hua hpr B5 hown1
                go_wp2_with (first | (at_builtin; refine wpList_append_own_at _ rfl _ _ 23 rfl X0.heap.size 3 i0 (.int .i64 0) 1 8 Tryz.underlying23 hi0 iz0 iz1 iz2 rfl (by decide) (.slice ba k bc) k (intV (wB n k)) rfl hown2 ⟨Y5.heap.size, 0, none⟩ 1 1 [.int .i64 ((n : Int) + (k : Int))] rfl rfl (slice_newV _ _ _) (by intro u hu; simp at hu; subst hu; rfl) (by unfold maxLen; omega) (by omega) (by rw [World.size_alloc]; omega) ?_) | fail)
                intro v6 Y6 o6 hg6 _ hat6
                obtain ⟨ba', bc', rfl⟩ := own_form4 o6
                have hpb := HPR.out.alloc (Obj.cells #[.int .i64 ((n : Int) + (k : Int))] 3)
                have hpe := hpb.push_e (x := (n : Int) + (k : Int)) (by rw [wB_len]; exact o6) hg6 (by rw [World.size_alloc]; exact hat6)
                rw [show wB n k ++ [(n : Int) + (k : Int)] = wB n (k + 1) by rw [wB_succ, Int.natCast_add]] at hpe
                have HPE := hid hpe
                have B6 : Below X0.heap.size X0 Y6 := (HB5.out.alloc (by omega) _).grown hg6 (by rw [World.size_alloc]; omega) (fun x hx => (hown2.lt x hx).1)
                clear o6 hg6 hat6 hpb hpe hown2
                go_wp2_with fail
                go_roundw
                case rel => exact ⟨k + 1, by omega, by go_num, ⟨_, HPE⟩, B6⟩
                case measure => simp [intOf]; omega
        · obtain rfl : k = R := by omega
          have hr := HPV.out.rows
          simp only [wM_len] at hr
          have he := HPV.out.rel
          simp only [IO, wB_len] at he
          obtain ⟨wa, wc, hwe⟩ := own_form4 hr
          obtain ⟨ba, bc, hbe⟩ := own_form4 he
          subst hwe hbe
          have HIR := hid HPV.out.prb.rows
          have HIB := hid HPV.out.prb.rel
          have HUN := hid (one_unw (M := M) hn60 hR12)
          have HBW := hid bW
          clear hr he HPV hlt bW hk
          go_wp2_with fail
          refine (uNewB_any W _ _ (wM n k M k) (wB n k) HIR.out HIB.out).mono ?_
          rintro e X1 ⟨hr1, bX1⟩
          rcases hr1 with ⟨hne, _⟩ | ⟨_, tb, rfl, htb, hT⟩
          · exact absurd HUN.out hne
          have HT := hid hT
          have HIR1 := hid (HIR.out.below bX1)
          have HIB1 := hid (HIB.out.below bX1)
          clear hT htb
          go_wp2_with fail
          refine (gNewB_any X1 _ _ (wM n k M k) (wB n k) HIR1.out HIB1.out).mono ?_
          rintro e X2 ⟨hr2, bX2⟩
          rcases hr2 with ⟨hne, _⟩ | ⟨_, gb, rfl, hgb, hG⟩
          · exact absurd HUN.out hne
          have HT2 := hid (HT.out.below bX2)
          have HG2 := hid hG
          obtain ⟨u1, u2, u3, u4, u5, u6⟩ := uzip_ok HUN.out
          have HIN := hid (uzip_inv HUN.out)
          have HOY := hid (fun (i : Nat) (hi : i < k) (nn : Int) (A' : List URw) (h : PivS (uzip (wM n k M k) (wB n k)) (i : Int) ((n : Int) + (i : Int)) nn A') => one_yes hi HIN.out (by rw [Int.natCast_add]; exact h))
          have HLE : Hid ((uzip (wM n k M k) (wB n k)).length = k) := hid (by rw [u4, wM_len])
          have HU2 := hid u2
          have HU3 := hid u3
          have HSM := hid (fun (Y : World) (ht : UTn Y W.heap.size tb (uzip (wM n k M k) (wB n k)) 3) (hg : GTc Y gb (ratM (wM n k M k)) (wB n k) 3) (b : Below X0.heap.size X0 Y) => same12_any Y tb gb _ _ _ 3 3 (by omega) (by omega) ht.tb hg.tb u6 u3 u1 u2 (HTB.out.below b))
          have HB2 : Hid (Below X0.heap.size X0 X2) := hid (HBW.out.trans ((chain2 bX1 bX2).mono HBW.out.size))
          have HWS : Hid (X0.heap.size ≤ W.heap.size) := hid HBW.out.size
          clear HT HIR HIB HIR1 HIB1 HUN hG hgb bX1 bX2 u1 u2 u3 u4 u5 u6 HBW HTB HI
          generalize uzip (wM n k M k) (wB n k) = A at *
          generalize ratM (wM n k M k) = X at *
          generalize wB n k = Bz at *
          go_wp2_with fail
          refine (HSM.out X2 HT2.out HG2.out HB2.out).mono ?_
          rintro e X3 ⟨rfl, bX3⟩
          have HT3 := hid (HT2.out.below bX3)
          have HG3 := hid (HG2.out.below bX3)
          have HB3 := hid (HB2.out.trans (bX3.mono HB2.out.size))
          clear HT2 HG2 HB2 bX3
          go_wp2_with fail
          go_loopw [14] (fun iv wr => ∃ i : Nat, i ≤ k ∧ iv = .int .i64 (i : Int) ∧ Hid (UTn wr W.heap.size tb A 3) ∧ Hid (GTc wr gb X Bz 3) ∧ Hid (Below X0.heap.size X0 wr)) (fun iv _ => k - (intOf iv).toNat)
          case atStart => exact ⟨0, Nat.zero_le _, rfl, HT3, HG3, HB3⟩
          case round =>
            clear HT3 HG3 HB3
            obtain ⟨i, hi, rfl, HTn, HGn, HBn⟩ := hrel
            by_cases hlt : i < k
            · obtain ⟨g, hg1, hg2, hg3⟩ := HTn.out.tg (by rw [HLE.out]; omega)
              have HGG := hid hg3
              have HGB := hid hg1
              clear hg1 hg2 hg3
              go_wp2_with fail
              refine (uPivotG_any wr W.heap.size tb g A 19 3 5 (by decide) (by decide) (by decide) (by decide) HGG.out HIN.out HU2.out HU3.out (i : Int) ((n : Int) + (i : Int))).mono ?_
              rintro e X4 ⟨nn, A', rfl, hp, hG4, g4⟩
              obtain ⟨rfl, hAA⟩ := HOY.out i hlt _ _ hp
              rw [hAA] at hG4
              have HT4 : Hid (UTn X4 W.heap.size tb A 3) := hid ((hG4.fit HIN.out (by decide)).tn)
              have HG4 := hid (HGn.out.bg g4 HGG.out.cells)
              have HB4 : Hid (Below X0.heap.size X0 X4) := hid (HBn.out.trans (g4.below (by have h1 := HWS.out; have h2 := HGB.out; omega) HBn.out.size))
              clear hp hG4 g4 hAA HTn HGn HBn HGG HGB
              go_wp2
              go_roundw
              case rel => exact ⟨i + 1, by omega, by go_num, HT4, HG4, HB4⟩
              case measure => simp [intOf]; omega
            · obtain rfl : i = k := by omega
              go_wp2_with fail
              refine (HSM.out _ HTn.out HGn.out HBn.out).mono ?_
              rintro e X5 ⟨rfl, b5⟩
              have BF := HBn.out.trans (b5.mono HBn.out.size)
              go_wp2
              go_ret
              exact ⟨rfl, BF⟩
end Go.Proofs.YtgojlegknlalpaaGreatDoor
