/- BookOwes: the states that it goes through, and what is asked of them. -/
import Derived.Test.YtfneiilookoipaaBGreat
import Derived.Test.YtfneiilookoipaaBHeavy
namespace Go.Proofs.Ytfneiilookoipaa
open Go.RowKit Go.MapKept
set_option linter.unusedVariables false
set_option maxRecDepth 100000
set_option linter.unusedSimpArgs false

def whoO : ByteArray := ⟨#[119, 104, 111]⟩
def nobO : ByteArray := ⟨#[110, 111, 98, 111, 100, 121]⟩
theorem whoO_size : whoO.size ≤ 1099511627776 := by decide
theorem nobO_size : nobO.size ≤ 1099511627776 := by decide
theorem nob_ne : nobO ≠ whoO := by decide
/-- One participant's book, as good as it should be; it lies at base or behind. -/
def GSt (base : Nat) (w : World) (v : Value) (lk : Int) : Prop :=
  ∃ O N S, Bk O w v N S ∧ (∀ i, O i → base ≤ i) ∧ (N = [] ∨ N = [whoO]) ∧ Good (S whoO) ∧ (S whoO).locked = lk
theorem GSt.below {base : Nat} {w w' : World} {v : Value} {lk : Int} (h : GSt base w v lk) (b : Below w.heap.size w w') : GSt base w' v lk := by
  obtain ⟨O, N, S, h1, h2⟩ := h
  exact ⟨O, N, S, h1.below b, h2⟩
theorem GSt.lk {base : Nat} {w : World} {v : Value} {lk : Int} (h : GSt base w v lk) : 0 ≤ lk ∧ lk ≤ 24000000000 := by
  obtain ⟨O, N, S, h1, h2, h3, h4, h5⟩ := h
  have := (h1.sane whoO).locked
  have := (h1.sane whoO).asks
  omega
theorem addN_who {N : List ByteArray} (h : N = [] ∨ N = [whoO]) : addN N whoO = [whoO] := by
  rcases h with rfl | rfl
  · have : (([] : List ByteArray).any fun y => decide (y = whoO)) = false := rfl
    unfold addN; rw [this]; rfl
  · have : ([whoO].any fun y => decide (y = whoO)) = true := by decide
    unfold addN; rw [this]; rfl
theorem g_add {base : Nat} {w0 w : World} {v : Value} {lk : Int} (h0 : GSt base w0 v lk) (bw : Below w0.heap.size w0 w) (hb : base ≤ w.heap.size) (z : Kb) (hz : KbFits w z) (hf : Fine z) :
    Calls Try.prog 9 #[v, .string ⟨#[119, 104, 111]⟩, .agg (kbC z)] w fun e w' => ∃ E : Int, e = .returned (.int .i64 E) ∧ Below base w w' ∧ GSt base w' v (if z.kind = 1 ∧ E = 0 then lk + z.cents else lk) ∧ ∀ n ob, w0.heap.size ≤ n → w.heap[n]? = some ob → w'.heap[n]? = some ob := by
  obtain ⟨O, N, S, h10, h2, h3, h4, h5⟩ := h0
  have h1 := h10.below bw
  have hlt : ∀ i, O i → i < w0.heap.size := by
    obtain ⟨C, bb, lb, ab, el, ea, cl, ca, hv, hb⟩ := h10
    exact hb.lt
  refine (add_any h1 whoO whoO_size z hz (by have := hf.len; omega)).mono ?_
  rintro e w' ⟨rfl, k, hbk⟩
  refine ⟨_, rfl, k.below hb h2, ⟨_, _, _, hbk, ?_, ?_, ?_, ?_⟩, fun n ob hn hh => k.blk hh (fun hO => by have := hlt n hO; omega)⟩
  · intro i hi
    rcases hi with hi | hi
    · exact h2 i hi
    · omega
  · by_cases hE : mayE (S whoO) z = 0
    · rw [if_pos hE, addN_who h3]; exact Or.inr rfl
    · rw [if_neg hE]; exact h3
  · by_cases hE : mayE (S whoO) z = 0
    · rw [if_pos hE, upd_same]; exact good_add h4 (h1.sane whoO) hf hE
    · rw [if_neg hE]; exact h4
  · by_cases hE : mayE (S whoO) z = 0
    · rw [if_pos hE, upd_same]
      unfold addP
      by_cases e1 : z.kind = 1
      · rw [if_pos e1, if_pos ⟨e1, hE⟩, ← h5]; rfl
      · rw [if_neg e1]
        have hno : ¬ (z.kind = 1 ∧ mayE (S whoO) z = 0) := fun hh => e1 hh.1
        by_cases e4 : z.kind = 4
        · rw [if_pos e4, if_neg hno]; exact h5
        · rw [if_neg e4, if_neg hno]; exact h5
    · rw [if_neg hE, if_neg (fun hh => hE hh.2)]; exact h5
theorem g_locked {base : Nat} {w : World} {v : Value} {lk : Int} (h : GSt base w v lk) : Calls Try.prog 11 #[v, .string ⟨#[119, 104, 111]⟩] w fun e w' => e = .returned (.int .i64 lk) ∧ w' = w := by
  obtain ⟨O, N, S, h1, h2, h3, h4, h5⟩ := h
  rw [← h5]
  exact locked_any h1 whoO whoO_size
theorem g_owes {base : Nat} {w : World} {v : Value} {lk : Int} (h : GSt base w v lk) : Calls Try.prog 12 #[v, .string ⟨#[119, 104, 111]⟩] w fun e w' => (∃ ow : Int, e = .returned (.int .i64 ow) ∧ ow ≤ lk) ∧ Below w.heap.size w w' := by
  obtain ⟨O, N, S, h1, h2, h3, h4, h5⟩ := h
  refine (owes_any h1 whoO whoO_size).mono ?_
  rintro e w' ⟨rfl, b⟩
  exact ⟨⟨_, rfl, by rw [h4.owesW (h1.sane whoO), ← h5]; exact h4.owe⟩, b⟩
theorem g_nobody {base : Nat} {w : World} {v : Value} {lk : Int} (h : GSt base w v lk) : Calls Try.prog 12 #[v, .string ⟨#[110, 111, 98, 111, 100, 121]⟩] w fun e w' => e = .returned (.int .i64 0) ∧ Below w.heap.size w w' := by
  obtain ⟨O, N, S, h1, h2, h3, h4, h5⟩ := h
  have hn : S nobO = ps0 := by
    obtain ⟨C, bb, lb, ab, el, ea, cl, ca, hv, hb⟩ := h1
    refine hb.rest nobO (fun hm => ?_)
    rcases h3 with rfl | rfl
    · cases hm
    · simp only [List.mem_singleton] at hm
      exact nob_ne hm
  have := owes_any h1 nobO nobO_size
  rw [hn] at this
  exact this
theorem g_asks {base : Nat} {w : World} {v : Value} {lk : Int} (h : GSt base w v lk) : Calls Try.prog 10 #[v, .string ⟨#[119, 104, 111]⟩] w fun e w' => (∃ a : Int, e = .returned (.int .i64 a) ∧ a ≤ 24) ∧ w' = w := by
  obtain ⟨O, N, S, h1, h2, h3, h4, h5⟩ := h
  refine (asks_any h1 whoO whoO_size).mono ?_
  rintro e w' ⟨rfl, hw⟩
  exact ⟨⟨_, rfl, (h1.sane whoO).asks.2⟩, hw⟩
theorem namesS_one (x : ByteArray) : namesS [x] = [x] := by
  have : bytesS [x] = [bytesOf' x] := by unfold bytesS; simp
  unfold namesS
  rw [this]
  cases x
  simp [bytesOf']
theorem namesS_none : namesS [] = [] := by unfold namesS bytesS; simp
theorem all_one {kd : Int} {N : List ByteArray} {S : ByteArray → Ps} (h3 : N = [] ∨ N = [whoO]) (hr : ∀ x, x ∉ N → S x = ps0) : allO kd N S = ofWho kd S whoO := by
  unfold allO
  rcases h3 with rfl | rfl
  · have h0 := hr whoO (by simp)
    rw [namesS_none]
    unfold ofWho selO
    rw [h0]; rfl
  · rw [namesS_one]; simp
theorem GSt.all {base : Nat} {w : World} {v : Value} {lk : Int} (h : GSt base w v lk) : ∃ O N S, Bk O w v N S ∧ N.length ≤ 1 ∧ (∀ kd, allO kd N S = ofWho kd S whoO) ∧ Good (S whoO) ∧ Sane (S whoO) := by
  obtain ⟨O, N, S, h1, h2, h3, h4, h5⟩ := h
  refine ⟨O, N, S, h1, by rcases h3 with rfl | rfl <;> simp, fun kd => all_one h3 ?_, h4, h1.sane whoO⟩
  obtain ⟨C, bb, lb, ab, el, ea, cl, ca, hv, hb⟩ := h1
  exact hb.rest
theorem sel_len (kd : Int) (L : List Od) : (selO kd L).length = cntO L kd := by unfold selO cntO; rw [List.countP_eq_length_filter]
theorem g_steps {base : Nat} {w : World} {v : Value} {lk : Int} (h : GSt base w v lk) : Calls Try.prog 13 #[v] w fun e w' => (∃ a n c, e = .returned (.slice a n c) ∧ n ≤ 8) ∧ Below w.heap.size w w' := by
  obtain ⟨O, N, S, h1, h2, h3, h4, h5⟩ := h.all
  refine (steps_any h1 (by omega)).mono ?_
  rintro e w' ⟨r, b0, T, rfl, _, hT, hTl, b⟩
  obtain ⟨a, c, rfl⟩ := own_slice hT.own
  refine ⟨⟨a, T.length, c, rfl, ?_⟩, b⟩
  have hl : T.length = cntO (S whoO).orders 2 := by
    have := congrArg List.length hTl
    rw [h3, List.length_map] at this
    rw [this]; unfold ofWho; rw [List.length_map, sel_len]
  rw [hl]; exact h4.steps
theorem g_who {base : Nat} {w : World} {v : Value} {lk : Int} (h : GSt base w v lk) : Calls Try.prog 20 #[v] w fun e w' => (∃ a n c, e = .returned (.slice a n c) ∧ n ≤ 1) ∧ Below w.heap.size w w' := by
  obtain ⟨O, N, S, h1, h2, h3, h4, h5⟩ := h.all
  refine (who_any h1 (by omega)).mono ?_
  rintro e w' ⟨r, rfl, hT, b⟩
  obtain ⟨a, c, rfl⟩ := own_slice hT
  exact ⟨⟨a, N.length, c, rfl, h2⟩, b⟩
theorem chunk_at {α : Type} (f : α → List Value) (sz : Nat) (hf : ∀ x, (f x).length = sz) : ∀ (T : List α) (k j : Nat) (hk : k < T.length), j < sz → (T.flatMap f)[k * sz + j]? = (f T[k])[j]?
  | [], k, j, hk, _ => by simp at hk
  | x :: T, 0, j, _, hj => by
    rw [List.flatMap_cons, Nat.zero_mul, Nat.zero_add, List.getElem?_append_left (by rw [hf]; exact hj)]
    rfl
  | x :: T, k + 1, j, hk, hj => by
    have h1 : (k + 1) * sz = k * sz + sz := Nat.succ_mul k sz
    rw [List.flatMap_cons, List.getElem?_append_right (by rw [hf]; omega), hf, show (k + 1) * sz + j - sz = k * sz + j by omega, chunk_at f sz hf T k j (by simpa using hk) hj]
    rfl
/-- What Blocks tells: rising Seqs, and each Parent is there. -/
structure BSl (w : World) (a : Option Addr) (n c : Nat) (sq pa : Nat → Int) : Prop where
  len : n ≤ 3
  cap : n ≤ c ∧ c ≤ 9223372036854775807
  at_ : ∀ i, i < n → ∃ g, a = some ⟨g, 0, none⟩ ∧ w.cell? ⟨g, i * 8 + 1, none⟩ = some (.int .i64 (sq i)) ∧ w.cell? ⟨g, i * 8 + 6, none⟩ = some (.int .i64 (pa i))
  rise : ∀ i j, i < j → j < n → sq i < sq j
  par : ∀ i, i < n → 0 < pa i → ∃ j, j < n ∧ sq j = pa i
theorem g_blocks {base : Nat} {w : World} {v : Value} {lk : Int} (h : GSt base w v lk) : Calls Try.prog 19 #[v] w fun e w' => (∃ a n c sq pa, e = .returned (.slice a n c) ∧ BSl w' a n c sq pa) ∧ Below w.heap.size w w' := by
  obtain ⟨O, N, S, h1, h2, h3, h4, h5⟩ := h.all
  refine (blocks_any h1 (by omega)).mono ?_
  rintro e w' ⟨r, b0, T, rfl, _, hT, hTl, b⟩
  rw [h3] at hTl
  have hmap : T.map (fun t => t.o) = selO 3 (S whoO).orders := by
    have := congrArg (List.map (fun x : ByteArray × Od => x.2)) hTl
    rw [List.map_map] at this
    unfold ofWho at this
    rw [List.map_map] at this
    simpa [Function.comp_def] using this
  have hlen : T.length = (selO 3 (S whoO).orders).length := by rw [← hmap]; simp
  have hl3 : T.length ≤ 3 := by rw [hlen, sel_len]; exact h4.blocks
  have hTo : ∀ i (hi : i < T.length), T[i].o = (selO 3 (S whoO).orders)[i]'(by omega) := fun i hi => by
    have := List.getElem_map (f := fun t : Tr => t.o) (l := T) (i := i) (h := by simpa using hi)
    rw [← this]
    congr 1
  have hkind : ∀ i (hi : i < T.length), T[i].o.kind = 3 ∧ T[i].o ∈ (S whoO).orders := fun i hi => by
    have h6 : T[i].o ∈ selO 3 (S whoO).orders := by rw [hTo i hi]; exact List.getElem_mem _
    have := List.mem_filter.1 h6
    exact ⟨by simpa using this.2, this.1⟩
  haveI : Inhabited Tr := ⟨⟨ByteArray.empty, .step 0 0 0 false 0 0, .slice none 0 0⟩⟩
  rcases hT.own.2 with ⟨e0, hz⟩ | ⟨g, cap, cur, e0, hb, hh, q1, q2, q3, q4⟩
  · subst e0
    exact ⟨⟨none, 0, 0, fun _ => 0, fun _ => 0, rfl, ⟨by omega, by omega, fun i hi => by omega, fun i j _ hj => by omega, fun i hi => by omega⟩⟩, b⟩
  · subst e0
    unfold maxLen at q2
    refine ⟨⟨some ⟨g, 0, none⟩, T.length, cap, fun i => (T[i]!).o.seq, fun i => (T[i]!).o.parent, rfl, ⟨hl3, by omega, ?_, ?_, ?_⟩⟩, b⟩
    · intro i hi
      have hTi : T[i]! = T[i] := by simp [hi]
      obtain ⟨hk, _⟩ := hkind i hi
      have key : ∀ j u, (blockC (T[i]).z)[j]? = some u → w'.cell? ⟨g, i * 8 + j, none⟩ = some u := fun j u hu => by
        have hj : j < 8 := by
          have := (List.getElem?_eq_some_iff.1 hu).1
          exact this
        have := hT.own.cells (g := g) rfl (i * 8 + j) u (by rw [chunk_at (fun t => blockC t.z) 8 (fun _ => rfl) T i j hi hj]; exact hu)
        rw [add_off, Nat.zero_add] at this
        exact this
      refine ⟨g, rfl, ?_, ?_⟩
      · rw [hTi]
        refine key 1 _ ?_
        unfold Tr.z
        generalize T[i] = t at *
        obtain ⟨who, o, qv⟩ := t
        cases o with
        | step => cases hk
        | block => rfl
      · rw [hTi]
        refine key 6 _ ?_
        unfold Tr.z
        generalize T[i] = t at *
        obtain ⟨who, o, qv⟩ := t
        cases o with
        | step => cases hk
        | block => rfl
    · intro i j hij hj
      have hi : i < T.length := by omega
      show (T[i]!).o.seq < (T[j]!).o.seq
      rw [show T[i]! = T[i] by simp [hi], show T[j]! = T[j] by simp [hj], hTo i hi, hTo j hj]
      exact List.pairwise_iff_getElem.1 ((orders_rise h5).sublist List.filter_sublist) i j _ _ hij
    · intro i hi hp
      have hp' : 0 < (T[i]!).o.parent := hp
      rw [show T[i]! = T[i] by simp [hi]] at hp'
      obtain ⟨o', ho', hk', hq'⟩ := h4.par _ (hkind i hi).2 hp'
      have h7 : o' ∈ selO 3 (S whoO).orders := List.mem_filter.2 ⟨ho', by simpa using hk'⟩
      obtain ⟨j, hj, ej⟩ := List.getElem_of_mem h7
      refine ⟨j, by omega, ?_⟩
      show (T[j]!).o.seq = (T[i]!).o.parent
      rw [show T[i]! = T[i] by simp [hi], show T[j]! = T[j] by simp [show j < T.length by omega], hTo j (by omega), ej, hq']
end Go.Proofs.Ytfneiilookoipaa
