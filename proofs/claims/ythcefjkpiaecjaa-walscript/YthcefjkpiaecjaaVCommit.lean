/- The document's wal: a commit. -/
import Derived.Test.YthcefjkpiaecjaaVArea
import Derived.Test.YthcefjkpiaecjaaWParse
namespace Go.Proofs.Ythcefjkpiaecjaa
open Go.RowKit
set_option linter.unusedVariables false
set_option maxRecDepth 100000
set_option linter.unusedSimpArgs false

/-- The document's log in block r, its disk in block m. -/
structure VAt (w : World) (r m : Nat) (t : ByteArray) (n a : Nat) (er : Int) : Prop where
  blk : w.heap[r]? = some (.cells #[.pointer (some ⟨m, 0, none⟩), .string t, .int .u64 (n : Int), .int .i64 (a : Int), .int .i64 er] 45 (0, 0))
theorem VAt.cells {w : World} {r m : Nat} {t : ByteArray} {n a : Nat} {er : Int} (h : VAt w r m t n a er) : w.cell? ⟨r, 0, none⟩ = some (.pointer (some ⟨m, 0, none⟩)) ∧ w.cell? ⟨r, 1, none⟩ = some (.string t) ∧ w.cell? ⟨r, 2, none⟩ = some (.int .u64 (n : Int)) ∧ w.cell? ⟨r, 3, none⟩ = some (.int .i64 (a : Int)) ∧ w.cell? ⟨r, 4, none⟩ = some (.int .i64 er) ∧ ∀ k, w.frozen? ⟨r, k, none⟩ = false :=
  ⟨cell_at (L := [_, _, _, _, _]) h.blk 0 _ rfl, cell_at (L := [_, _, _, _, _]) h.blk 1 _ rfl, cell_at (L := [_, _, _, _, _]) h.blk 2 _ rfl, cell_at (L := [_, _, _, _, _]) h.blk 3 _ rfl, cell_at (L := [_, _, _, _, _]) h.blk 4 _ rfl, fun k => free_at (L := [_, _, _, _, _]) h.blk k⟩
theorem VAt.below {w w' : World} {r m : Nat} {t : ByteArray} {n a : Nat} {er : Int} (h : VAt w r m t n a er) (k : Below w.heap.size w w') : VAt w' r m t n a er := ⟨(k.block r (lt_of_block h.blk)).trans h.blk⟩
theorem vat_new (w : World) (m : Nat) (t : ByteArray) (n a : Nat) : VAt (w.alloc (Obj.cells #[.pointer (some ⟨m, 0, none⟩), .string t, .int .u64 (n : Int), .int .i64 (a : Int), .int .i64 0] 45)) w.heap.size m t n a 0 := ⟨heap_alloc_last w _⟩
theorem vchain {w a b : World} (h : Below w.heap.size w a) (k : Below a.heap.size a b) : Below w.heap.size w b := h.trans (k.mono h.size)
/-- What commit answers. -/
def CSays (w w' : World) (b : Nat) (V : List ByteArray) (i : Nat) (e : Ending) : Prop :=
  (∃ r c t, e = .returned (.tuple #[.pointer (some ⟨r, 0, none⟩), .bool true]) ∧ Right V i c t ∧ VAt w' r b t c.num c.area 0 ∧ w.heap.size ≤ r) ∨ (e = .returned (.tuple #[.pointer none, .bool false]) ∧ ∀ c t, ¬ Right V i c t)
set_option maxHeartbeats 4000000 in
theorem vcommit_any (w : World) (b : Nat) (D : Dsk) (i : Nat) (hi : i < 256) (hz : Sz D.wr) (hd : RIs w b D) :
    Calls Try.prog 28 #[.pointer (some ⟨b, 0, none⟩), .int .i64 (i : Int)] w fun e w' => CSays w w' b D.wr i e ∧ Below w.heap.size w w' := by
  obtain ⟨s, hs⟩ : ∃ s, D.wr.getD i ByteArray.empty = s := ⟨_, rfl⟩
  have hrd := rread_any w b D (i : Int) hd
  rw [read_in D _ hi, readE_in _ hi, hs] at hrd
  have HNO := hid (fun (h : ∀ c, ¬ IsCom s c) => show ∀ c t, ¬ Right D.wr i c t from fun c t k => h c (by have := k.com; rwa [hs] at this))
  have HR := hid (fun c t (h1 : IsCom s c) (h2 : t.size = c.len) (h3 : Lies D.wr c.area t) (h4 : sumOf t = c.sum) => show Right D.wr i c t from ⟨by rw [hs]; exact h1, h2, h3, h4⟩)
  have HU := hid (fun c (h1 : IsCom s c) u (h2 : u.size = c.len) (h3 : Lies D.wr c.area u) (h4 : ¬ sumOf u = c.sum) => show ∀ c t, ¬ Right D.wr i c t from fun d t k => by
    have k1 := k.com
    rw [hs] at k1
    have e := k1.unique h1
    subst e
    have e2 := k.lies.unique h3 (k.size.trans h2.symm)
    subst e2
    exact h4 k.sum)
  have hv := fun (a : Nat) (ha : a ≤ 1) v (h : RIs v b D) => vbytes_any v b D a ha hz h
  have HB := hid hv
  have HD := hid hd
  clear hs hd hv
  by_cases h : s.size = 21
  · have num : ∀ a b, a ≤ b → b ≤ 21 → b - a ≤ 8 → ∀ v, Calls Try.prog 46 #[.string (s.extract a b)] v fun e v' => e = .returned (.int .u64 (be s a (b - a) : Int)) ∧ v' = v := by
      intro a b h1 h2 h3 v
      have hsz : (s.extract a b).size = b - a := by rw [ByteArray.size_extract]; omega
      have := vnumber_any v (s.extract a b) (by omega)
      rwa [hsz, be_extract s a b (by omega) (b - a) (by omega)] at this
    have n1 := num 17 21 (by omega) (by omega) (by omega)
    have n2 := num 0 8 (by omega) (by omega) (by omega)
    have n3 := num 9 13 (by omega) (by omega) (by omega)
    have n4 := num 13 17 (by omega) (by omega) (by omega)
    simp only [Nat.reduceSub] at n1 n2 n3 n4
    clear num
    have s1 := fun v => vsum_any (s.extract 0 17) v (by rw [ByteArray.size_extract]; omega)
    rw [sum_extract s 17 (by omega)] at s1
    have hw := sumN_lt 2166136261 (by omega) s 17
    have HCom := hid (show ∀ c, IsCom s c → be s 0 8 = c.num ∧ bt s 8 = c.area ∧ be s 9 4 = c.len ∧ (be s 13 4 : Int) = c.sum ∧ (be s 17 4 : Int) = sumN 2166136261 s 17 ∧ c.num ≠ 0 ∧ c.area ≤ 1 ∧ c.len ≤ 32512 from fun c k => ⟨k.num, k.area, k.len, k.sum, k.own, k.num0, k.area1, k.len1⟩)
    have HMk := hid (show (be s 17 4 : Int) = sumN 2166136261 s 17 → be s 0 8 ≠ 0 → bt s 8 ≤ 1 → be s 9 4 ≤ 32512 → IsCom s ⟨be s 0 8, bt s 8, be s 9 4, be s 13 4⟩ from fun h1 h2 h3 h4 => ⟨h, rfl, rfl, rfl, rfl, h1, h2, h3, h4⟩)
    have l1 := be_lt s 0 8
    have l2 := be_lt s 9 4
    have l3 := be_lt s 13 4
    have l4 := be_lt s 17 4
    have l5 := bt_lt s 8
    have l6 := bt_at s 8 (by omega)
    simp only [Nat.reducePow] at l1 l2 l3 l4
    generalize sumN 2166136261 s 17 = S at *
    generalize be s 0 8 = bn at *
    generalize be s 9 4 = bl at *
    generalize be s 13 4 = bs at *
    generalize be s 17 4 = bo at *
    generalize bt s 8 = ba at *
    have hc : IntKind.u64.wrap S = S := by simp only [IntKind.wrap, IntKind.signed, IntKind.bits]; simp; omega
    have hlt8 : (8 : Int) < (s.size : Int) := by omega
    have h21 : ((s.size : Int) != 21) = false := by rw [h]; rfl
    go_enter Try.func28, Try.ntmps28
    go_wp2_with fail
    refine hrd.mono ?_
    rintro e w1 ⟨rfl, rfl⟩
    clear hrd
    go_wp2_with fail
    by_cases hS : (bo : Int) = S
    · have hS1 : ((bo : Int) != S) = false := by simp [hS]
      have HS := hid hS
      clear hS
      by_cases hba : ba ≤ 1
      · have hba1 : decide ((1 : Int) < (ba : Int)) = false := decide_eq_false (by omega)
        have HBA := hid hba
        clear hba
        go_quiet (first | (go_at_call 47; exact Calls.quiet_of_same (s1 _)) | (go_at_call 46; exact Calls.quiet_of_same (n1 _)))
        have bq := below_dn (Below.refl w1.heap.size w1) nq
        generalize w1.drewN nq = W at *
        clear hba1 hS1
        go_wp2_with fail
        refine (n2 W).mono ?_
        rintro e w2 ⟨rfl, rfl⟩
        go_wp2_with fail
        refine (n3 w2).mono ?_
        rintro e w2 ⟨rfl, rfl⟩
        clear n1 n2 n3 s1
        by_cases hok : bn ≠ 0 ∧ bl ≤ 32512
        · obtain ⟨k1, k3⟩ := hok
          have HIs := hid (HMk.out HS.out k1 HBA.out k3)
          have t1 : ¬ ((bn : Int) < 1) := by omega
          have t3 : ¬ ((32512 : Int) < (bl : Int)) := by omega
          have hbv := HB.out ba HBA.out w2 (HD.out.below bq)
          clear HMk HCom
          go_wp2_with fail
          refine hbv.mono ?_
          rintro e w3 ⟨⟨t, rfl, ht, hL⟩, b3⟩
          have hbl : (bl : Int) ≤ (t.size : Int) := by omega
          have hxs : (t.extract 0 bl).size = bl := by rw [ByteArray.size_extract]; omega
          have HX := hid (show Lies D.wr ba (t.extract 0 bl) from fun k hk => by
            rw [hxs] at hk
            rw [bt_extract t 0 bl k (by omega) (by omega), Nat.zero_add]
            exact hL k (by omega))
          have s2 := fun v => vsum_any (t.extract 0 bl) v (by omega)
          have hw2 := sum_lt (t.extract 0 bl)
          have HXS := hid hxs
          have bw3 := vchain bq b3
          clear hbv hL
          go_wp2_with fail
          refine (n4 w3).mono ?_
          rintro e w3 ⟨rfl, rfl⟩
          generalize t.extract 0 bl = x at *
          have hsx : IntKind.u64.wrap (sumOf x) = sumOf x := by simp only [IntKind.wrap, IntKind.signed, IntKind.bits]; simp; omega
          go_wp2_with fail
          refine (s2 w3).mono ?_
          rintro e w3 ⟨rfl, rfl⟩
          by_cases hsum : (bs : Int) = sumOf x
          · have hsum1 : ((bs : Int) != sumOf x) = false := by simp [hsum]
            have HRR := hid (HR.out ⟨bn, ba, bl, bs⟩ x HIs.out HXS.out HX.out hsum.symm)
            have ba := (Below.refl w3.heap.size w3).alloc (Nat.le_refl _) (Obj.cells #[.pointer (some ⟨b, 0, none⟩), .string x, .int .u64 (bn : Int), .int .i64 (ba : Int), .int .i64 0] 45)
            have bw4 := vchain bw3 ba
            have hsz := bw3.size
            have HS1 := hid hsum
            clear hsum
            go_wp2
            exact bodyPost_ret (v := .tuple #[.pointer (some ⟨w3.heap.size, 0, none⟩), .bool true]) (by simp [results, Try.results28, go_sem]) rfl ⟨Or.inl ⟨_, _, x, rfl, HRR.out, vat_new w3 b x bn _, by omega⟩, bw4⟩
          · have hsum1 : ((bs : Int) != sumOf x) = true := by simp [hsum]
            have HN := hid (HU.out ⟨bn, ba, bl, bs⟩ HIs.out x HXS.out HX.out (fun e => hsum e.symm))
            clear hsum
            go_wp2
            exact bodyPost_ret (v := .tuple #[.pointer none, .bool false]) (by simp [results, Try.results28, go_sem]) rfl ⟨Or.inr ⟨rfl, HN.out⟩, bw3⟩
        · have HN := hid (HNO.out fun c k => hok (by obtain ⟨a1, a2, a3, _, _, a4, a5, a6⟩ := HCom.out c k; rw [a1, a3]; exact ⟨a4, a6⟩))
          clear HMk HCom
          by_cases h0 : bn = 0
          · subst h0
            go_wp2
            exact bodyPost_ret (v := .tuple #[.pointer none, .bool false]) (by simp [results, Try.results28, go_sem]) rfl ⟨Or.inr ⟨rfl, HN.out⟩, bq⟩
          · have t1 : ¬ ((bn : Int) < 1) := by omega
            have t3 : (32512 : Int) < (bl : Int) := by omega
            go_wp2
            exact bodyPost_ret (v := .tuple #[.pointer none, .bool false]) (by simp [results, Try.results28, go_sem]) rfl ⟨Or.inr ⟨rfl, HN.out⟩, bq⟩
      · have hba1 : decide ((1 : Int) < (ba : Int)) = true := decide_eq_true (by omega)
        have HN := hid (HNO.out fun c k => hba (by obtain ⟨a1, a2, a3, _, _, a4, a5, a6⟩ := HCom.out c k; rw [a2]; exact a5))
        clear hba
        go_quiet (first | (go_at_call 47; exact Calls.quiet_of_same (s1 _)) | (go_at_call 46; exact Calls.quiet_of_same (n1 _)))
        have bq := below_dn (Below.refl w1.heap.size w1) nq
        generalize w1.drewN nq = W at *
        go_wp2
        exact bodyPost_ret (v := .tuple #[.pointer none, .bool false]) (by simp [results, Try.results28, go_sem]) rfl ⟨Or.inr ⟨rfl, HN.out⟩, bq⟩
    · have hS1 : ((bo : Int) != S) = true := by simp [hS]
      have HN := hid (HNO.out fun c k => hS (by obtain ⟨_, _, _, _, a, _⟩ := HCom.out c k; exact a))
      clear hS
      go_quiet (first | (go_at_call 47; exact Calls.quiet_of_same (s1 _)) | (go_at_call 46; exact Calls.quiet_of_same (n1 _)))
      have bq := below_dn (Below.refl w1.heap.size w1) nq
      generalize w1.drewN nq = W at *
      go_wp2
      exact bodyPost_ret (v := .tuple #[.pointer none, .bool false]) (by simp [results, Try.results28, go_sem]) rfl ⟨Or.inr ⟨rfl, HN.out⟩, bq⟩
  · have h21 : ((s.size : Int) != 21) = true := by simp; omega
    have HN := hid (HNO.out fun c k => h k.size)
    go_enter Try.func28, Try.ntmps28
    go_wp2_with fail
    refine hrd.mono ?_
    rintro e w1 ⟨rfl, rfl⟩
    clear hrd
    go_wp2_with fail
    go_quiet (fail)
    have bq := below_dn (Below.refl w1.heap.size w1) nq
    generalize w1.drewN nq = W at *
    go_wp2
    exact bodyPost_ret (v := .tuple #[.pointer none, .bool false]) (by simp [results, Try.results28, go_sem]) rfl ⟨Or.inr ⟨rfl, HN.out⟩, bq⟩
end Go.Proofs.Ythcefjkpiaecjaa
