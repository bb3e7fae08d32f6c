/- wal in plain terms: what lasts. -/
import Derived.Test.YthcefjkpiaecjaaWLog
namespace Go.Proofs.Ythcefjkpiaecjaa
set_option linter.unusedVariables false
set_option linter.unusedSimpArgs false

/-- The sectors V tell the commit c and the text t, and nobody else's. -/
structure Ok (V : List ByteArray) (c : Com) (t : ByteArray) : Prop where
  fit : c.Fit
  size : t.size = c.len
  lies : Lies V c.area t
  sum : sumOf t = c.sum
  own : c.num ≠ 0 → IsCom (V.getD (c.num % 2) ByteArray.empty) c
  other : ∀ d, IsCom (V.getD ((c.num + 1) % 2) ByteArray.empty) d → d.num < c.num
  zero : c.num = 0 → c = com0 ∧ ∀ d, ¬ IsCom (V.getD 0 ByteArray.empty) d
theorem right0_ex (V : List ByteArray) (i : Nat) : ∃ c t, Right0 V i c t := by
  by_cases h : ∃ c t, Right V i c t
  · obtain ⟨c, t, h⟩ := h
    exact ⟨c, t, Or.inl h⟩
  · exact ⟨com0, ByteArray.empty, Or.inr ⟨fun c t k => h ⟨c, t, k⟩, rfl, rfl⟩⟩
theorem size_zero {t : ByteArray} (h : t.size = 0) : t = ByteArray.empty := ext_bt h fun k hk => by omega
theorem Ok.tells {V : List ByteArray} {c : Com} {t : ByteArray} (h : Ok V c t) : Tells V c t := by
  by_cases h0 : c.num = 0
  · obtain ⟨e, z⟩ := h.zero h0
    have ht : t = ByteArray.empty := size_zero (by rw [h.size, e]; rfl)
    have z1 : ∀ d, ¬ IsCom (V.getD 1 ByteArray.empty) d := fun d k => by
      have := h.other d (by rw [h0]; exact k)
      omega
    refine ⟨com0, ByteArray.empty, com0, ByteArray.empty, Or.inr ⟨fun c t k => z c k.com, rfl, rfl⟩, Or.inr ⟨fun c t k => z1 c k.com, rfl, rfl⟩, ?_⟩
    rw [if_neg (Nat.lt_irrefl _), e, ht]
  · have hR : Right V (c.num % 2) c t := ⟨h.own h0, h.size, h.lies, h.sum⟩
    obtain ⟨c', t', h'⟩ := right0_ex V ((c.num + 1) % 2)
    have hlt : c'.num < c.num := by
      rcases h' with h' | ⟨_, rfl, _⟩
      · exact h.other c' h'.com
      · show 0 < c.num; omega
    rcases (show c.num % 2 = 0 ∧ (c.num + 1) % 2 = 1 ∨ c.num % 2 = 1 ∧ (c.num + 1) % 2 = 0 by omega) with ⟨e1, e2⟩ | ⟨e1, e2⟩
    · rw [e1] at hR
      rw [e2] at h'
      exact ⟨c, t, c', t', Or.inl hR, h', by rw [if_neg (by omega)]⟩
    · rw [e1] at hR
      rw [e2] at h'
      exact ⟨c', t', c, t, h', Or.inl hR, by rw [if_pos hlt]⟩
/-- The same commits, and the same text in the area. -/
theorem Ok.same {V V' : List ByteArray} {c : Com} {t : ByteArray} (h : Ok V c t) (h0 : V'.getD 0 ByteArray.empty = V.getD 0 ByteArray.empty) (h1 : V'.getD 1 ByteArray.empty = V.getD 1 ByteArray.empty) (hl : Lies V' c.area t) : Ok V' c t := by
  have hp : ∀ p, p = 0 ∨ p = 1 → V'.getD p ByteArray.empty = V.getD p ByteArray.empty := fun p hp => by rcases hp with rfl | rfl; exact h0; exact h1
  exact ⟨h.fit, h.size, hl, h.sum, fun k => by rw [hp _ (by omega)]; exact h.own k, fun d k => h.other d (by rw [← hp _ (by omega)]; exact k), fun k => ⟨(h.zero k).1, fun d m => (h.zero k).2 d (by rw [← h0]; exact m)⟩⟩
/-- The next commit. -/
theorem Ok.next {V V' : List ByteArray} {c n : Com} {t t' : ByteArray} (h : Ok V c t) (hn : n.num = c.num + 1) (hf : n.Fit) (hs : t'.size = n.len) (hu : sumOf t' = n.sum) (hl : Lies V' n.area t') (hown : V'.getD (n.num % 2) ByteArray.empty = comT n) (hoth : V'.getD (c.num % 2) ByteArray.empty = V.getD (c.num % 2) ByteArray.empty) : Ok V' n t' := by
  refine ⟨hf, hs, hl, hu, fun k => by rw [hown]; exact comT_is hf k, fun d k => ?_, fun k => by omega⟩
  rw [show (n.num + 1) % 2 = c.num % 2 by omega, hoth] at k
  by_cases h0 : c.num = 0
  · rw [h0] at k
    exact absurd k ((h.zero h0).2 d)
  · have := (h.own h0).unique k
    rw [← this]; omega
/-- Of two rows of sectors some from the one, some from the other. -/
structure Mix (V W L : List ByteArray) : Prop where
  len : V.length = 256
  at_ : ∀ i, V.getD i ByteArray.empty = W.getD i ByteArray.empty ∨ V.getD i ByteArray.empty = L.getD i ByteArray.empty
theorem Mix.refl {W : List ByteArray} (L : List ByteArray) (h : W.length = 256) : Mix W W L := ⟨h, fun _ => Or.inl rfl⟩
theorem mix_lose (keep : Nat) (W : List ByteArray) : ∀ (ca : List Nat) (k : Nat) (L : List ByteArray), L.length = 256 → Mix (loseL keep W ca k L) W L
  | [], k, L, h => ⟨h, fun _ => Or.inr rfl⟩
  | i :: ca, k, L, h => by
    simp only [loseL]
    by_cases hb : kbit keep k = true
    · rw [if_pos hb]
      have ih := mix_lose keep W ca (k + 1) (L.set i (W.getD i ByteArray.empty)) (by simp [h])
      refine ⟨ih.len, fun j => ?_⟩
      rcases ih.at_ j with e | e
      · exact Or.inl e
      · by_cases hi : i < L.length
        · rw [getD_set hi] at e
          by_cases e2 : j = i
          · rw [if_pos e2] at e; left; rw [e, e2]
          · rw [if_neg e2] at e; exact Or.inr e
        · right; rw [e, List.set_eq_of_length_le (by omega)]
    · rw [if_neg hb]
      exact mix_lose keep W ca (k + 1) L h
/-- Whatever is kept, it is P. -/
def All (P : List ByteArray → Prop) (D : Dsk) : Prop := ∀ V, Mix V D.wr D.la → P V
theorem All.lose {P : List ByteArray → Prop} {D : Dsk} (h : All P D) (hg : D.Good) (keep : Nat) : All P (D.lose keep) := by
  have hm := mix_lose keep D.wr D.ca 0 D.la hg.ll
  intro V hV
  refine h V ⟨hV.len, fun i => ?_⟩
  have e : V.getD i ByteArray.empty = (loseL keep D.wr D.ca 0 D.la).getD i ByteArray.empty := by
    rcases hV.at_ i with e | e <;> exact e
  rw [e]; exact hm.at_ i
theorem All.crash {P : List ByteArray → Prop} {D : Dsk} (h : All P D) (hg : D.Good) (keep : Nat) : All P (D.crash keep) := by
  unfold Dsk.crash
  split
  · exact h
  · exact h.lose hg keep
theorem All.power {P : List ByteArray → Prop} {D : Dsk} (h : All P D) : All P D.power := h
theorem All.now {P : List ByteArray → Prop} {D : Dsk} (h : All P D) (hg : D.Good) : P D.wr := h _ (Mix.refl _ hg.wl)
theorem All.begin {P : List ByteArray → Prop} {D : Dsk} (h : All P D) (hg : D.Good) : All P D.begin.1 := by
  unfold Dsk.begin
  (repeat' split)
  · exact h
  · exact h
  · exact h.lose hg _
  · exact h
  · exact h
theorem All.sync {P : List ByteArray → Prop} {D : Dsk} (h : All P D) (hg : D.Good) : All P D.sync.1 := by
  have hb := h.begin hg
  unfold Dsk.sync
  split
  · intro V hV
    refine hb V ⟨hV.len, fun i => Or.inl ?_⟩
    rcases hV.at_ i with e | e <;> exact e
  · exact hb
/-- A write that does not begin. -/
theorem write_fail {D : Dsk} {i : Nat} {s : ByteArray} (hi : i < 256) (hs : s.size ≤ 256) (h : (D.write i s).2 ≠ 0) : D.write i s = D.begin := by
  rw [write_begin D i s hi hs] at h ⊢
  split at h
  · exact absurd rfl h
  · rename_i h2; rw [if_neg h2]
theorem write_ok {D : Dsk} {i : Nat} {s : ByteArray} (hi : i < 256) (hs : s.size ≤ 256) (h : (D.write i s).2 = 0) : D.write i s = (D.begin.1.put i s, 0) ∧ D.begin.2 = 0 := by
  rw [write_begin D i s hi hs] at h ⊢
  split at h
  · rename_i h2; rw [if_pos h2]; exact ⟨rfl, h2⟩
  · rename_i h2; exact absurd h h2
theorem begin_zero {D : Dsk} (h : D.begin.2 = 0) : D.begin = ({ D with ops := D.ops + 1, cl := D.cl - 1, fk := D.fk - 1 }, 0) ∧ D.dead = false ∧ D.fl = false ∧ (D.cg && D.cl == 0) = false ∧ (D.fg && D.fk == 0) = false := by
  unfold Dsk.begin at h ⊢
  by_cases h1 : D.dead = true
  · rw [if_pos h1] at h; simp at h
  · rw [if_neg h1] at h ⊢
    by_cases h2 : D.fl = true
    · rw [if_pos h2] at h; simp at h
    · rw [if_neg h2] at h ⊢
      by_cases h3 : (D.cg && D.cl == 0) = true
      · rw [if_pos h3] at h; simp at h
      · rw [if_neg h3] at h ⊢
        by_cases h4 : (D.fg && D.fk == 0) = true
        · rw [if_pos h4] at h; simp at h
        · rw [if_neg h4]
          exact ⟨rfl, Bool.eq_false_iff.2 h1, Bool.eq_false_iff.2 h2, Bool.eq_false_iff.2 h3, Bool.eq_false_iff.2 h4⟩
theorem begin_ok {D : Dsk} (h : D.begin.2 = 0) : D.begin.1.wr = D.wr ∧ D.begin.1.la = D.la ∧ D.begin.1.ca = D.ca := by
  rw [(begin_zero h).1]; exact ⟨rfl, rfl, rfl⟩
/-- A write that leaves P. -/
theorem All.write {P Q : List ByteArray → Prop} {D : Dsk} {i : Nat} {s : ByteArray} (h : All P D) (hg : D.Good) (hi : i < 256) (hs : s.size ≤ 256) (hPQ : ∀ V, P V → Q V) (hset : ∀ V, V.length = 256 → P V → Q (V.set i s)) : All Q (D.write i s).1 := by
  have hb := h.begin hg
  by_cases h0 : (D.write i s).2 = 0
  · obtain ⟨e, h2⟩ := write_ok hi hs h0
    obtain ⟨e1, e2, e3⟩ := begin_ok h2
    have hw : (D.write i s).1.wr = D.wr.set i s := by rw [e]; show D.begin.1.wr.set i s = _; rw [e1]
    have hl : (D.write i s).1.la = D.la := by rw [e]; exact e2
    intro V hV
    rw [hw, hl] at hV
    have hil : i < D.wr.length := by rw [hg.wl]; exact hi
    by_cases hVi : V.getD i ByteArray.empty = s
    · have hV2 : Mix (V.set i (D.la.getD i ByteArray.empty)) D.wr D.la := ⟨by simp [hV.len], fun j => by
        rw [getD_set (by rw [hV.len]; exact hi)]
        by_cases e : j = i
        · rw [if_pos e, e]; exact Or.inr rfl
        · rw [if_neg e]
          rcases hV.at_ j with k | k
          · rw [getD_set hil, if_neg e] at k; exact Or.inl k
          · exact Or.inr k⟩
      have := hset _ (by simp [hV.len]) (h _ hV2)
      rw [List.set_set] at this
      have e : V.set i s = V := by
        apply List.ext_getElem (by simp)
        intro j h1 h2
        rw [List.getElem_set]
        split
        · rename_i e; subst e
          rw [← hVi, List.getD_eq_getElem?_getD, List.getElem?_eq_getElem h2]; rfl
        · rfl
      rwa [e] at this
    · refine hPQ V (h V ⟨hV.len, fun j => ?_⟩)
      rcases hV.at_ j with k | k
      · rw [getD_set hil] at k
        by_cases e : j = i
        · rw [if_pos e] at k; rw [e] at k; exact absurd k hVi
        · rw [if_neg e] at k; exact Or.inl k
      · exact Or.inr k
  · rw [write_fail hi hs h0]
    exact fun V hV => hPQ V (hb V hV)
/-- Sectors that are written, one behind the other. -/
def setAll (V : List ByteArray) (xs : List (Nat × ByteArray)) : List ByteArray := xs.foldl (fun V x => V.set x.1 x.2) V
theorem setAll_len (V : List ByteArray) (xs : List (Nat × ByteArray)) : (setAll V xs).length = V.length := by
  induction xs generalizing V with
  | nil => rfl
  | cons x xs ih => show (setAll (V.set x.1 x.2) xs).length = _; rw [ih]; simp
theorem wrs_good : ∀ (xs : List (Nat × ByteArray)) (D : Dsk), D.Good → (wrs D xs).1.Good
  | [], D, h => h
  | x :: xs, D, h => by
    simp only [wrs]
    split
    · exact wrs_good xs _ (h.write _ _)
    · exact h.write _ _
/-- Data that hurts nothing. -/
theorem All.wrs {P : List ByteArray → Prop} : ∀ (xs : List (Nat × ByteArray)) {D : Dsk}, All P D → D.Good → (∀ x ∈ xs, x.1 < 256 ∧ x.2.size ≤ 256) → (∀ x ∈ xs, ∀ V, V.length = 256 → P V → P (V.set x.1 x.2)) → All P (wrs D xs).1
  | [], D, h, _, _, _ => h
  | x :: xs, D, h, hg, hx, hs => by
    have hw := h.write (i := x.1) (s := x.2) (Q := P) hg (hx x (by simp)).1 (hx x (by simp)).2 (fun _ h => h) (hs x (by simp))
    simp only [Go.Proofs.Ythcefjkpiaecjaa.wrs]
    split
    · exact All.wrs xs hw (hg.write _ _) (fun y hy => hx y (List.mem_cons_of_mem _ hy)) (fun y hy => hs y (List.mem_cons_of_mem _ hy))
    · exact hw
theorem wrs_wr : ∀ (xs : List (Nat × ByteArray)) {D : Dsk}, (∀ x ∈ xs, x.1 < 256 ∧ x.2.size ≤ 256) → (wrs D xs).2 = 0 → (wrs D xs).1.wr = setAll D.wr xs
  | [], D, _, _ => rfl
  | x :: xs, D, hx, h => by
    simp only [wrs] at h ⊢
    by_cases h0 : (D.write x.1 x.2).2 = 0
    · rw [if_pos h0] at h ⊢
      rw [wrs_wr xs (fun y hy => hx y (List.mem_cons_of_mem _ hy)) h]
      obtain ⟨e, h2⟩ := write_ok (hx x (by simp)).1 (hx x (by simp)).2 h0
      show setAll _ xs = setAll (D.wr.set x.1 x.2) xs
      congr 1
      rw [e]
      show D.begin.1.wr.set x.1 x.2 = _
      rw [(begin_ok h2).1]
    · rw [if_neg h0] at h
      exact absurd h h0
theorem sync_ok {D : Dsk} (h : D.sync.2 = 0) : D.sync.1.wr = D.wr ∧ D.sync.1.la = D.wr ∧ D.sync.1.ca = [] := by
  unfold Dsk.sync at h ⊢
  by_cases h0 : D.begin.2 = 0
  · rw [if_pos h0]
    exact ⟨(begin_ok h0).1, (begin_ok h0).1, rfl⟩
  · rw [if_neg h0] at h; exact absurd h h0
/-- All that is there lasts. -/
def Flat (D : Dsk) : Prop := D.la = D.wr ∧ D.ca = []
theorem all_flat {P : List ByteArray → Prop} {D : Dsk} (h : P D.wr) (hf : D.la = D.wr) (hg : D.Good) : All P D := by
  intro V hV
  have e : V = D.wr := by
    apply List.ext_getElem (by rw [hV.len, hg.wl])
    intro j h1 h2
    have := hV.at_ j
    rw [hf] at this
    have h3 : V.getD j ByteArray.empty = D.wr.getD j ByteArray.empty := by rcases this with e | e <;> exact e
    rwa [List.getD_eq_getElem?_getD, List.getD_eq_getElem?_getD, List.getElem?_eq_getElem h1, List.getElem?_eq_getElem h2] at h3
  rw [e]; exact h
/-- What a commit behind its data leaves: the new text if it answers OK; else the one, or the other. -/
theorem lay_ok {D : Dsk} {c n : Com} {t t' : ByteArray} {xs : List (Nat × ByteArray)} (h : All (Ok · c t) D) (hg : D.Good) (hx : ∀ x ∈ xs, x.1 < 256 ∧ x.2.size ≤ 256) (hs : ∀ x ∈ xs, ∀ V, V.length = 256 → Ok V c t → Ok (V.set x.1 x.2) c t)
    (hn : n.num = c.num + 1) (hf : n.Fit) (hsz : t'.size = n.len) (hu : sumOf t' = n.sum) (hl : Lies (setAll D.wr xs) n.area t') :
    (D.lay xs (n.num % 2) (comT n)).1.Good ∧ (((D.lay xs (n.num % 2) (comT n)).2 = 0 ∧ Ok (D.lay xs (n.num % 2) (comT n)).1.wr n t' ∧ Flat (D.lay xs (n.num % 2) (comT n)).1) ∨ ((D.lay xs (n.num % 2) (comT n)).2 ≠ 0 ∧ All (fun V => Ok V c t ∨ Ok V n t') (D.lay xs (n.num % 2) (comT n)).1)) := by
  have h1 := h.wrs xs hg hx hs
  have g1 := wrs_good xs D hg
  have h2 := h1.sync g1
  have g2 := g1.sync
  have h3 : All (fun V => Ok V c t ∨ Ok V n t') (wrs D xs).1.sync.1 := fun V hV => Or.inl (h2 V hV)
  unfold Dsk.lay
  by_cases e0 : (wrs D xs).2 = 0
  · rw [if_neg (by simp [e0])]
    by_cases e1 : (wrs D xs).1.sync.2 = 0
    · rw [if_neg (by simp [e1])]
      have hwr := wrs_wr xs hx e0
      obtain ⟨s1, s2, s3⟩ := sync_ok e1
      have hc2 : (comT n).size ≤ 256 := by rw [comT_size]; omega
      have hp : n.num % 2 < 256 := by omega
      have hset : ∀ V, V.length = 256 → (Ok V c t ∧ Lies V n.area t') → Ok (V.set (n.num % 2) (comT n)) n t' := fun V hV ⟨k1, k2⟩ => by
        refine k1.next hn hf hsz hu (fun k hk => ?_) ?_ ?_
        · rw [k2 k hk]
          unfold ab
          rw [getD_set (by rw [hV]; exact hp), if_neg (by omega)]
        · rw [getD_set (by rw [hV]; exact hp), if_pos rfl]
        · rw [getD_set (by rw [hV]; exact hp), if_neg (by omega)]
      have h4 : All (fun V => Ok V c t ∧ Lies V n.area t') (wrs D xs).1.sync.1 := all_flat ⟨h2.now g2, by rw [s1, hwr]; exact hl⟩ (by rw [s1, s2]) g2
      have h5 := h4.write (Q := fun V => Ok V c t ∨ Ok V n t') (i := n.num % 2) (s := comT n) g2 hp hc2 (fun V k => Or.inl k.1) (fun V hV k => Or.inr (hset V hV k))
      have g5 := g2.write ((n.num % 2 : Nat) : Int) (comT n)
      by_cases e2 : ((wrs D xs).1.sync.1.write ((n.num % 2 : Nat) : Int) (comT n)).2 = 0
      · rw [if_neg (fun k => k e2)]
        have h6 := h5.sync g5
        have g6 := g5.sync
        by_cases e3 : ((wrs D xs).1.sync.1.write ((n.num % 2 : Nat) : Int) (comT n)).1.sync.2 = 0
        · obtain ⟨q1, q2, q3⟩ := sync_ok e3
          refine ⟨g6, Or.inl ⟨e3, ?_, by rw [Flat, q1, q2]; exact ⟨rfl, q3⟩⟩⟩
          obtain ⟨w1, w2⟩ := write_ok hp hc2 e2
          rw [q1, w1]
          show Ok ((wrs D xs).1.sync.1.begin.1.wr.set _ _) n t'
          rw [(begin_ok w2).1]
          exact hset _ g2.wl (h4.now g2)
        · exact ⟨g6, Or.inr ⟨e3, h6⟩⟩
      · rw [if_pos e2]
        exact ⟨g5, Or.inr ⟨e2, h5⟩⟩
    · rw [if_pos e1]
      exact ⟨g2, Or.inr ⟨e1, h3⟩⟩
  · rw [if_pos e0]
    exact ⟨g1, Or.inr ⟨e0, fun V hV => Or.inl (h1 V hV)⟩⟩
end Go.Proofs.Ythcefjkpiaecjaa
