/- CertScales, for every input: whatever problem, texts and number it is called with, the call returns true. -/
import Derived.Test.YtbdhanlenekdhaaGreatDoorCards
import Derived.Test.YtbdhanlenekdhaaGreatDoorTie
import Derived.Test.YtbdhanlenekdhaaGreatDoorZCScalesWalk
import Derived.Test.YtbdhanlenekdhaaGreatDoorPk43
import Derived.ProofKit
import Derived.OpenShut
import Derived.ShutString
import Derived.ChangeOld
import Derived.Below
import Derived.LaidMore
import Derived.Shelf.Vars
import Derived.Deep.DeepHandedRow
namespace Go.Proofs.YtbdhanlenekdhaaGreatDoor
open Go.ChangeShapes Go.WideShapes Go.ChangeAt Go.RowKit
open Go.ChangeMaps (open_string shut_string)
set_option linter.unusedVariables false

theorem csc_own : ownKnob Tryz.prog.godebug = none := by kernel_rfl
theorem csc_laidOut : laidOutB Tryz.prog = true := by kernel_rfl
theorem csc_type : (Tryz.prog.globals[2]?).map (·.type) = some 209 := by kernel_rfl
theorem csc_cells : Tryz.prog.cellsOf 209 = 20 := by kernel_rfl
theorem csc_cell : Tryz.prog.cellsOf 109 = 1 := by kernel_rfl
theorem csc_data : Rows.laid_internal_strconv_uint64pow10 (H := Unit) = Lib.tabData .u64 Lib.pow10Tab := by kernel_rfl
theorem csc_rglob : Tryz.prog.globalNamed "noonbell/cert.relations" = some 0 := by kernel_rfl
theorem csc_rtype : (Tryz.prog.globals[0]?).map (·.type) = some 101 := by kernel_rfl
theorem csc_block {P : Program} {w : World} {n : String} {g : Nat} {cs : Array Value} (hg : P.globalNamed n = some g) (h : w.var? P n = some cs) : ∃ t fz, w.heap[g]? = some (.cells cs t fz) := by
  unfold World.var? at h
  rw [hg] at h
  simp only [Option.bind_some] at h
  split at h
  · rename_i c t fz hb
    simp only [Option.some.injEq] at h
    subst h
    exact ⟨t, fz, hb⟩
  · cases h
theorem csc_tab {W : World} (h : laidMetH Tryz.prog Rows.certScalesRow.laid W) : Tab W ∧ Rl W := by
  have h' : laidMet Tryz.prog [("math/bits.deBruijn32tab", Rows.laid_math_bits_deBruijn32tab), ("math/bits.deBruijn64tab", Rows.laid_math_bits_deBruijn64tab), ("internal/strconv.uint64pow10", Rows.laid_internal_strconv_uint64pow10), ("noonbell/cert.relations", Rows.laid_noonbell_cert_relations)] W := h
  obtain ⟨ps, ⟨_, _, _, _, _, _, _, _, _, _, ⟨_, _, _, _, _, _, _, _, _, _, ⟨g', t', cs, fuel, p, q, hg', ht', hvar, hd, ⟨g2, t2, cs2, fuel2, p2, q2, hg2, ht2, hvar2, hd2, _⟩, _⟩, _⟩, _⟩, _⟩ := h'
  constructor
  · obtain rfl := Option.some.inj (tab_global.symm.trans hg')
    obtain rfl := Option.some.inj (csc_type.symm.trans ht')
    rw [csc_data] at hd
    unfold Tab Lib.TabIs
    rw [hvar, ← Lib.cells_of_tab Tryz.underlying209 Tryz.underlying109 csc_cell csc_cells hd]
  · obtain rfl := Option.some.inj (csc_rglob.symm.trans hg2)
    obtain rfl := Option.some.inj (csc_rtype.symm.trans ht2)
    have e := rel18 hd2
    obtain ⟨t, fz, hb⟩ := csc_block csc_rglob hvar2
    obtain ⟨cl⟩ := cs2
    simp only at e
    subst e
    exact rl_of hb
set_option maxRecDepth 100000 in
theorem csc_met (os : Os) : laidMet Tryz.prog Rows.certScalesRow.laid ((World.doorLaid Tryz.prog 38 os).forCall (fun _ _ => 0) ⟨#[], #[.agg #[.slice none 0 0, .slice none 0 0, .slice none 0 0, .slice none 0 0], .slice none 0 0, .int .u8 0], []⟩).memory :=
  laidMet_of_run' 8 (by kernel_rfl) (by kernel_rfl)
set_option maxRecDepth 100000 in
theorem csc_lifted (os : Os) (started : os.Started) (H : Type) (enc : TypeId × Value → H) (F : Stop.Interp) :
    ReturnsInHanded {} Tryz.checked os 3 .any ((OpenSpec.ofChange Rows.certScalesSpec).preRow enc Tryz.prog Tryz.f3 Rows.certScalesRow.domain false Rows.certScalesRow.laid) (((OpenSpec.ofChange Rows.certScalesSpec).at F).post enc Tryz.prog Tryz.f3 false true false false) := by
  obtain ⟨places, hx⟩ : ∃ places, DataW.whole enc Tryz.prog ((World.doorLaid Tryz.prog 38 os).forCall (fun _ _ => 0) ⟨#[], #[.agg #[.slice none 0 0, .slice none 0 0, .slice none 0 0, .slice none 0 0], .slice none 0 0, .int .u8 0], []⟩).memory Tryz.f3.params.toList Rows.certScalesSpec.vars false (#[.agg #[.slice none 0 0, .slice none 0 0, .slice none 0 0, .slice none 0 0], .slice none 0 0, .int .u8 0] : Array Value).toList 8 = some ([.agg [.nil, .nil, .nil, .nil], .nil, .lit (.int .u8 0)], [], places) :=
    ⟨[], by kernel_rfl⟩
  refine returnsInHanded_of_row (C := Tryz.checked) (s := OpenSpec.ofChange Rows.certScalesSpec) csc_own started (by kernel_rfl) Tryz.func3
    (witness_row_at (enc := enc) (C := Tryz.checked) false (World.doorLaid Tryz.prog 38 os) #[.agg #[.slice none 0 0, .slice none 0 0, .slice none 0 0, .slice none 0 0], .slice none 0 0, .int .u8 0] rfl (by kernel_rfl) (by kernel_rfl) (by kernel_rfl)
      (OpenSpec.preRow_of_cond 8 hx (by kernel_rfl) (fun k hk => by cases hk) (by kernel_rfl) (csc_met os))) ?_
  intro W base args ds gs before hval0 hW _ _ _ hL hSh _
  have hval : ∀ (j : Nat) t v, Tryz.f3.params[j]? = some t → args[j]? = some v → Value.okWide Tryz.prog W .any base t v := hval0
  have hW' := hW
  obtain ⟨p, q, hA0, hV, rfl, hfz, hnd⟩ := hW
  have hA : DataW.TrodAll enc Tryz.prog W 0 (fun _ => true) true Tryz.f3.params.toList args.toList ds p := hA0
  rw [Tryz.params3] at hA hval
  obtain ⟨v0, vs0, d0, ds0, p0, q0, hargs, rfl, rfl, h0, r0⟩ := trodAll_cons hA
  obtain ⟨v1, vs1, d1, ds1, p1, q1, rfl, rfl, rfl, h1, r1⟩ := trodAll_cons r0
  obtain ⟨v2, vs2, d2, ds2, p2, q2, rfl, rfl, rfl, h2, r2⟩ := trodAll_cons r1
  obtain ⟨rfl, rfl, rfl⟩ := trodAll_nil r2
  obtain rfl : args = #[v0, v1, v2] := by cases args; simp_all
  obtain ⟨rfl, rfl⟩ := trodVars_none hV
  have k0 := h0
  have lt0 : ∀ x ∈ p0, x.block < W.heap.size := by obtain ⟨m, hm⟩ := k0; exact DataW.trod_lt m _ _ _ hm
  obtain ⟨P0, rv0, ev0, bv0, cv0, rfl, w0⟩ := prb_of (hval 0 25 v0 rfl rfl) h0
  obtain ⟨a1, len1, cap1, rfl⟩ := okWide_slice Tryz.underlying26 (hval 1 26 v1 rfl rfl)
  have k1 := h1
  have lt1 : ∀ x ∈ p1, x.block < W.heap.size := by obtain ⟨m, hm⟩ := k1; exact DataW.trod_lt m _ _ _ hm
  obtain ⟨z1, w1⟩ := strs_of (a := a1) (len := len1) (cap := cap1) h1
  obtain ⟨a2, rfl, rfl, rfl, w2⟩ := open_int Tryz.underlying5 (hval 2 5 v2 rfl rfl) h2
  clear hA0 hval0
  simp only [List.append_nil] at hW'
  have hMx : Mx W := cell_of_shapedOpen_int (P := Tryz.prog) (g := 1) (t := 3) (zero := #[.int .i64 0]) hSh (of_decide_eq_true (by kernel_rfl)) (by kernel_rfl) rfl (by kernel_rfl) (by kernel_rfl) Tryz.underlying3
  refine (cscales_any W _ _ _ _ _ P0 z1 w0 w1 hMx (csc_tab hL).1 (csc_tab hL).2 a2 w2).mono fun e W' ⟨he, bel⟩ => ?_
  subst he
  exact ⟨_, rfl, _, _, _, [], _, [], hW', trodAll_cons_mk (shut_bool Tryz.underlying4 _) trodAll_mk0, (trodAll_cons_mk (Below.trod csc_laidOut (by kernel_rfl) (of_decide_eq_true (by kernel_rfl)) k0 bel lt0) (trodAll_cons_mk (Below.trod csc_laidOut (by kernel_rfl) (of_decide_eq_true (by kernel_rfl)) k1 bel lt1) (trodAll_cons_mk (shut_int Tryz.underlying5 w2) trodAll_mk0))), rfl, bel.frame _, fun h => by cases h⟩
theorem csc_said : Rows.CertScalesSaid :=
  OpenClaim.holds_of_cond 3 Tryz.f3 rfl rfl rfl rfl rfl rfl rfl ⟨rfl, rfl, rfl, rfl, rfl⟩ rfl rfl rfl rfl rfl (by kernel_rfl) Tryz.func3 (by kernel_rfl)
    (of_decide_eq_true (by kernel_rfl)) (by unfold Func.isWrapper; first | (rw [if_pos (by decide +kernel)]; kernel_rfl) | (rw [if_neg (by decide +kernel)]; exact ⟨rfl, rfl⟩))
    (fun os started H enc _ F => by rw [OpenClaim.pre_eq_preRow]; exact csc_lifted os started H enc F)
theorem csc_plain (f : FuncId) (fn : Func) (hf : Tryz.pinned.checked.prog.funcNamed "noonbell/noonbelllaw11.CertScales" = some f) (hfn : Tryz.pinned.checked.prog.funcs[f]? = some fn) :
    false = Tryz.pinned.checked.prog.looks [] ∧ ∀ (j : Nat) t, fn.params[j]? = some t → Tryz.pinned.checked.prog.wantsStandIn t = false := by
  obtain rfl : f = 3 := Option.some.inj ((show Tryz.prog.funcNamed "noonbell/noonbelllaw11.CertScales" = some 3 by kernel_rfl).symm.trans hf) |>.symm
  obtain rfl : fn = Tryz.f3 := (Option.some.inj (Tryz.func3.symm.trans hfn)).symm
  refine ⟨by kernel_rfl, fun j t ht => ?_⟩
  rw [Tryz.params3] at ht
  have hm : t ∈ [25, 26, 5] := by simpa using Array.mem_of_getElem? ht
  have hall : ([25, 26, 5].all fun u => !Tryz.prog.wantsStandIn u) = true := by kernel_rfl
  exact (show Tryz.prog.wantsStandIn t = false by simpa using List.all_eq_true.1 hall t hm)
theorem certScales_proved : Rows.CertScalesCardSaid :=
  Claim7.holds_tied_plain_at .later [] _ _ _ _ csc_said (fun _ h => by cases h) (by kernel_rfl) (fun _ h => by cases h) certScales_row_tie rfl ⟨rfl, rfl⟩ (by kernel_rfl) rfl csc_plain (by kernel_rfl)
end Go.Proofs.YtbdhanlenekdhaaGreatDoor
