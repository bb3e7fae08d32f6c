/- append(b, make([]byte, n)...) onto a row of one's own. -/
import Derived.Test.YtjldlmonccgopaaGreatZWSmall
import Derived.Lib.AppendZerosOnto
namespace Go.Proofs.YtjldlmonccgopaaGreat
open Go.RowKit
set_option linter.unusedVariables false
set_option linter.unusedSimpArgs false

theorem zeroCells_u8 (k : Nat) : Builtin.zeroCells (Value.int .u8 0).cells k = (List.replicate k (Value.int .u8 0)).toArray := by
  apply Array.ext
  · simp [Builtin.zeroCells, Value.cells]
  · intro i h1 h2
    simp [Builtin.zeroCells, Value.cells, Nat.mod_one]
theorem run_append_zeros (w : World) (base g n cap k : Nat) (ty : TypeId) (xs : List Value) (hown : w.ownsRow base 5 1 (.slice (some ⟨g, 0, none⟩) n cap) n xs) (hnk : n + k ≤ 1000000) (hbase : base ≤ w.heap.size) :
    ∃ v' w', (Builtin.append_ #[102, 3] ty #[.slice (some ⟨g, 0, none⟩) n cap, .int .i64 (k : Int)]).run Tryz.prog w = .ok v' w' ∧ w'.ownsRow base 5 1 v' (n + k) (xs ++ List.replicate k (.int .u8 0)) ∧ w.grownBy w' (some g) ∧ ∃ g' c', v' = .slice (some ⟨g', 0, none⟩) (n + k) c' := by
  obtain ⟨i, hi, hz, hs, hb⟩ := info_parts info_u8
  have hlen : (xs ++ List.replicate k (Value.int .u8 0)).length = (n + k) * 1 := by rw [List.length_append, hown.1, List.length_replicate, Nat.add_mul, Nat.mul_one, Nat.mul_one]
  have hx := hown.1
  rcases hown.2 with ⟨h0, _⟩ | ⟨g0, cap0, cur, he, hbg, hg, hnc, hcm, hcs, htake⟩
  · simp at h0
  simp only [Value.slice.injEq, Option.some.injEq, Addr.mk.injEq, and_true, true_and] at he
  obtain ⟨rfl, rfl⟩ := he
  rw [Nat.mul_one] at hx hcs
  have hw : IntKind.i64.wrap (k : Int) = k := by rw [IntKind.wrap_i64]; omega
  by_cases hroom : n + k ≤ cap
  · have hst := run_storeCells_at Tryz.prog g n 5 (List.replicate k (Value.int .u8 0)) 0 cur w hg (by simp; omega) (by intro u hu; rw [List.eq_of_mem_replicate hu]; rfl)
    simp only [Nat.add_zero] at hst
    refine ⟨.slice (some ⟨g, 0, none⟩) (n + k) cap, w.setRow g (cur.toList.take n ++ List.replicate k (Value.int .u8 0) ++ cur.toList.drop (n + k)).toArray, ?_, ⟨hlen, .inr ⟨g, cap, _, rfl, hbg, setRow_heap w g cur _ _ _ hg, hroom, hcm, ?_, ?_⟩⟩, ⟨rfl, rfl, rfl, by simp, fun j _ hj => setRow_other w g j _ (fun e => hj (by simp [e]))⟩, g, cap, rfl⟩
    · have hneg : ¬ ((k : Int) < 0) := by omega
      have h48 : ¬ (281474976710656 < (k : Int)) := by omega
      by_cases hk : k = 0
      · subst hk
        have hw0 : IntKind.i64.wrap (0 : Int) = 0 := rfl
        have hroom' : n ≤ cap := by omega
        simp at hst
        simp [Builtin.append_, run_underlying Tryz.underlying102, run_underlying Tryz.underlying3, sizeOf, typeInfo, hi, hs, hb, asInt, asIntOf, hw0, hroom', Addr.add_lit, hst]
      · simp [Builtin.append_, run_underlying Tryz.underlying102, run_underlying Tryz.underlying3, sizeOf, typeInfo, zeroValue, hi, hz, hs, hb, asInt, asIntOf, hw, hneg, h48, hk, hroom, Addr.add_lit, zeroCells_u8, hst]
    · simp only [List.size_toArray, List.length_append, List.length_take, List.length_drop, Array.length_toList, List.length_replicate]
      omega
    · rw [Nat.mul_one] at htake
      rw [htake, ← hlen]
      exact List.take_left
  · have holds : ∀ j u, xs[j]? = some u → w.drew.cell? ((⟨g, 0, none⟩ : Addr).add j) = some u := hown.drew.cells (g := g) rfl
    have hold := run_firstCells_some (P := Tryz.prog) w.drew 1 n ⟨g, 0, none⟩ n cap xs (by omega) holds
    have hfit := growslice_fits (need := n + k) (old := cap) (bytes := 1) (by omega) (by omega)
    have hr := Lib.run_append_grow_zeros (P := Tryz.prog) w 102 3 ty 5 i (.int .u8 0) .i64 .i64 Tryz.underlying102 Tryz.underlying3 hi hz (some ⟨g, 0, none⟩) n cap xs (by rw [hs]; exact hold) k (by omega) (by omega) (by omega) (by omega) (by rw [hb]; omega) (by rw [hb]; exact hfit)
    rw [zeroCells_u8] at hr
    have hge := grownCap_ge w (n + k) cap 5
    have hcm2 : grownCap w (n + k) cap 5 ≤ maxLen := grownCap_le_maxLen w (n + k) cap 5 (by unfold maxLen; omega)
    refine ⟨_, _, hr, ⟨hlen, .inr ⟨w.heap.size, _, _, rfl, hbase, heap_alloc_new w.drew _, hge, hcm2, ?_, ?_⟩⟩, ⟨rfl, rfl, rfl, by simp, fun j hj _ => heap_alloc_old w.drew _ hj⟩, _, _, rfl⟩
    · simp only [Array.size_append, List.size_toArray, size_zeroCells, List.length_replicate, Value.cells]
      simp
      omega
    · simp only [Array.toList_append, List.append_assoc]
      rw [← List.append_assoc, ← hlen]
      exact List.take_left
end Go.Proofs.YtjldlmonccgopaaGreat
