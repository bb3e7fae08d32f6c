/- WPure, WText, WHealth, WLaw, WFault, WSumS, WCutsWalk. -/
import Derived.Test.YtjldlmonccgopaaGreatPk28
/- wal in plain terms: what lasts. -/
namespace Go.Proofs.YtjldlmonccgopaaGreat
set_option linter.unusedVariables false
set_option linter.unusedSimpArgs false

/-- The sectors V tell the commit c and the text t, and nobody else's. -/
structure Ok (V : List ByteArray) (c : Com) (t : ByteArray) : Prop where
  fit : c.Fit
  size : t.size = c.len
  lies : Lies V c.area t
  sum : sumOf t = c.sum
  own : c.num ≠ 0 → IsCom (V.getD (c.num % 2) ByteArray.empty) c
  other : ∀ d, IsCom (V.getD ((c.num + 1) % 2) ByteArray.empty) d → d.num < c.num
  zero : c.num = 0 → c = com0 ∧ ∀ d, ¬ IsCom (V.getD 0 ByteArray.empty) d
theorem right0_ex (V : List ByteArray) (i : Nat) : ∃ c t, Right0 V i c t := by
  by_cases h : ∃ c t, Right V i c t
  · obtain ⟨c, t, h⟩ := h
    exact ⟨c, t, Or.inl h⟩
  · exact ⟨com0, ByteArray.empty, Or.inr ⟨fun c t k => h ⟨c, t, k⟩, rfl, rfl⟩⟩
theorem size_zero {t : ByteArray} (h : t.size = 0) : t = ByteArray.empty := ext_bt h fun k hk => by omega
theorem Ok.tells {V : List ByteArray} {c : Com} {t : ByteArray} (h : Ok V c t) : Tells V c t := by
  by_cases h0 : c.num = 0
  · obtain ⟨e, z⟩ := h.zero h0
    have ht : t = ByteArray.empty := size_zero (by rw [h.size, e]; rfl)
    have z1 : ∀ d, ¬ IsCom (V.getD 1 ByteArray.empty) d := fun d k => by
      have := h.other d (by rw [h0]; exact k)
      omega
    refine ⟨com0, ByteArray.empty, com0, ByteArray.empty, Or.inr ⟨fun c t k => z c k.com, rfl, rfl⟩, Or.inr ⟨fun c t k => z1 c k.com, rfl, rfl⟩, ?_⟩
    rw [if_neg (Nat.lt_irrefl _), e, ht]
  · have hR : Right V (c.num % 2) c t := ⟨h.own h0, h.size, h.lies, h.sum⟩
    obtain ⟨c', t', h'⟩ := right0_ex V ((c.num + 1) % 2)
    have hlt : c'.num < c.num := by
      rcases h' with h' | ⟨_, rfl, _⟩
      · exact h.other c' h'.com
      · show 0 < c.num; omega
    rcases (show c.num % 2 = 0 ∧ (c.num + 1) % 2 = 1 ∨ c.num % 2 = 1 ∧ (c.num + 1) % 2 = 0 by omega) with ⟨e1, e2⟩ | ⟨e1, e2⟩
    · rw [e1] at hR
      rw [e2] at h'
      exact ⟨c, t, c', t', Or.inl hR, h', by rw [if_neg (by omega)]⟩
    · rw [e1] at hR
      rw [e2] at h'
      exact ⟨c', t', c, t, h', Or.inl hR, by rw [if_pos hlt]⟩
/-- The same commits, and the same text in the area. -/
theorem Ok.same {V V' : List ByteArray} {c : Com} {t : ByteArray} (h : Ok V c t) (h0 : V'.getD 0 ByteArray.empty = V.getD 0 ByteArray.empty) (h1 : V'.getD 1 ByteArray.empty = V.getD 1 ByteArray.empty) (hl : Lies V' c.area t) : Ok V' c t := by
  have hp : ∀ p, p = 0 ∨ p = 1 → V'.getD p ByteArray.empty = V.getD p ByteArray.empty := fun p hp => by rcases hp with rfl | rfl; exact h0; exact h1
  exact ⟨h.fit, h.size, hl, h.sum, fun k => by rw [hp _ (by omega)]; exact h.own k, fun d k => h.other d (by rw [← hp _ (by omega)]; exact k), fun k => ⟨(h.zero k).1, fun d m => (h.zero k).2 d (by rw [← h0]; exact m)⟩⟩
/-- The next commit. -/
theorem Ok.next {V V' : List ByteArray} {c n : Com} {t t' : ByteArray} (h : Ok V c t) (hn : n.num = c.num + 1) (hf : n.Fit) (hs : t'.size = n.len) (hu : sumOf t' = n.sum) (hl : Lies V' n.area t') (hown : V'.getD (n.num % 2) ByteArray.empty = comT n) (hoth : V'.getD (c.num % 2) ByteArray.empty = V.getD (c.num % 2) ByteArray.empty) : Ok V' n t' := by
  refine ⟨hf, hs, hl, hu, fun k => by rw [hown]; exact comT_is hf k, fun d k => ?_, fun k => by omega⟩
  rw [show (n.num + 1) % 2 = c.num % 2 by omega, hoth] at k
  by_cases h0 : c.num = 0
  · rw [h0] at k
    exact absurd k ((h.zero h0).2 d)
  · have := (h.own h0).unique k
    rw [← this]; omega
/-- Of two rows of sectors some from the one, some from the other. -/
structure Mix (V W L : List ByteArray) : Prop where
  len : V.length = 256
  at_ : ∀ i, V.getD i ByteArray.empty = W.getD i ByteArray.empty ∨ V.getD i ByteArray.empty = L.getD i ByteArray.empty
theorem Mix.refl {W : List ByteArray} (L : List ByteArray) (h : W.length = 256) : Mix W W L := ⟨h, fun _ => Or.inl rfl⟩
theorem mix_lose (keep : Nat) (W : List ByteArray) : ∀ (ca : List Nat) (k : Nat) (L : List ByteArray), L.length = 256 → Mix (loseL keep W ca k L) W L
  | [], k, L, h => ⟨h, fun _ => Or.inr rfl⟩
  | i :: ca, k, L, h => by
    simp only [loseL]
    by_cases hb : kbit keep k = true
    · rw [if_pos hb]
      have ih := mix_lose keep W ca (k + 1) (L.set i (W.getD i ByteArray.empty)) (by simp [h])
      refine ⟨ih.len, fun j => ?_⟩
      rcases ih.at_ j with e | e
      · exact Or.inl e
      · by_cases hi : i < L.length
        · rw [getD_set hi] at e
          by_cases e2 : j = i
          · rw [if_pos e2] at e; left; rw [e, e2]
          · rw [if_neg e2] at e; exact Or.inr e
        · right; rw [e, List.set_eq_of_length_le (by omega)]
    · rw [if_neg hb]
      exact mix_lose keep W ca (k + 1) L h
/-- Whatever is kept, it is P. -/
def All (P : List ByteArray → Prop) (D : Dsk) : Prop := ∀ V, Mix V D.wr D.la → P V
theorem All.lose {P : List ByteArray → Prop} {D : Dsk} (h : All P D) (hg : D.Good) (keep : Nat) : All P (D.lose keep) := by
  have hm := mix_lose keep D.wr D.ca 0 D.la hg.ll
  intro V hV
  refine h V ⟨hV.len, fun i => ?_⟩
  have e : V.getD i ByteArray.empty = (loseL keep D.wr D.ca 0 D.la).getD i ByteArray.empty := by
    rcases hV.at_ i with e | e <;> exact e
  rw [e]; exact hm.at_ i
theorem All.crash {P : List ByteArray → Prop} {D : Dsk} (h : All P D) (hg : D.Good) (keep : Nat) : All P (D.crash keep) := by
  unfold Dsk.crash
  split
  · exact h
  · exact h.lose hg keep
theorem All.power {P : List ByteArray → Prop} {D : Dsk} (h : All P D) : All P D.power := h
theorem All.now {P : List ByteArray → Prop} {D : Dsk} (h : All P D) (hg : D.Good) : P D.wr := h _ (Mix.refl _ hg.wl)
theorem All.begin {P : List ByteArray → Prop} {D : Dsk} (h : All P D) (hg : D.Good) : All P D.begin.1 := by
  unfold Dsk.begin
  (repeat' split)
  · exact h
  · exact h
  · exact h.lose hg _
  · exact h
  · exact h
theorem All.sync {P : List ByteArray → Prop} {D : Dsk} (h : All P D) (hg : D.Good) : All P D.sync.1 := by
  have hb := h.begin hg
  unfold Dsk.sync
  split
  · intro V hV
    refine hb V ⟨hV.len, fun i => Or.inl ?_⟩
    rcases hV.at_ i with e | e <;> exact e
  · exact hb
/-- A write that does not begin. -/
theorem write_fail {D : Dsk} {i : Nat} {s : ByteArray} (hi : i < 256) (hs : s.size ≤ 256) (h : (D.write i s).2 ≠ 0) : D.write i s = D.begin := by
  rw [write_begin D i s hi hs] at h ⊢
  split at h
  · exact absurd rfl h
  · rename_i h2; rw [if_neg h2]
theorem write_ok {D : Dsk} {i : Nat} {s : ByteArray} (hi : i < 256) (hs : s.size ≤ 256) (h : (D.write i s).2 = 0) : D.write i s = (D.begin.1.put i s, 0) ∧ D.begin.2 = 0 := by
  rw [write_begin D i s hi hs] at h ⊢
  split at h
  · rename_i h2; rw [if_pos h2]; exact ⟨rfl, h2⟩
  · rename_i h2; exact absurd h h2
theorem begin_zero {D : Dsk} (h : D.begin.2 = 0) : D.begin = ({ D with ops := D.ops + 1, cl := D.cl - 1, fk := D.fk - 1 }, 0) ∧ D.dead = false ∧ D.fl = false ∧ (D.cg && D.cl == 0) = false ∧ (D.fg && D.fk == 0) = false := by
  unfold Dsk.begin at h ⊢
  by_cases h1 : D.dead = true
  · rw [if_pos h1] at h; simp at h
  · rw [if_neg h1] at h ⊢
    by_cases h2 : D.fl = true
    · rw [if_pos h2] at h; simp at h
    · rw [if_neg h2] at h ⊢
      by_cases h3 : (D.cg && D.cl == 0) = true
      · rw [if_pos h3] at h; simp at h
      · rw [if_neg h3] at h ⊢
        by_cases h4 : (D.fg && D.fk == 0) = true
        · rw [if_pos h4] at h; simp at h
        · rw [if_neg h4]
          exact ⟨rfl, Bool.eq_false_iff.2 h1, Bool.eq_false_iff.2 h2, Bool.eq_false_iff.2 h3, Bool.eq_false_iff.2 h4⟩
theorem begin_ok {D : Dsk} (h : D.begin.2 = 0) : D.begin.1.wr = D.wr ∧ D.begin.1.la = D.la ∧ D.begin.1.ca = D.ca := by
  rw [(begin_zero h).1]; exact ⟨rfl, rfl, rfl⟩
/-- A write that leaves P. -/
theorem All.write {P Q : List ByteArray → Prop} {D : Dsk} {i : Nat} {s : ByteArray} (h : All P D) (hg : D.Good) (hi : i < 256) (hs : s.size ≤ 256) (hPQ : ∀ V, P V → Q V) (hset : ∀ V, V.length = 256 → P V → Q (V.set i s)) : All Q (D.write i s).1 := by
  have hb := h.begin hg
  by_cases h0 : (D.write i s).2 = 0
  · obtain ⟨e, h2⟩ := write_ok hi hs h0
    obtain ⟨e1, e2, e3⟩ := begin_ok h2
    have hw : (D.write i s).1.wr = D.wr.set i s := by rw [e]; show D.begin.1.wr.set i s = _; rw [e1]
    have hl : (D.write i s).1.la = D.la := by rw [e]; exact e2
    intro V hV
    rw [hw, hl] at hV
    have hil : i < D.wr.length := by rw [hg.wl]; exact hi
    by_cases hVi : V.getD i ByteArray.empty = s
    · have hV2 : Mix (V.set i (D.la.getD i ByteArray.empty)) D.wr D.la := ⟨by simp [hV.len], fun j => by
        rw [getD_set (by rw [hV.len]; exact hi)]
        by_cases e : j = i
        · rw [if_pos e, e]; exact Or.inr rfl
        · rw [if_neg e]
          rcases hV.at_ j with k | k
          · rw [getD_set hil, if_neg e] at k; exact Or.inl k
          · exact Or.inr k⟩
      have := hset _ (by simp [hV.len]) (h _ hV2)
      rw [List.set_set] at this
      have e : V.set i s = V := by
        apply List.ext_getElem (by simp)
        intro j h1 h2
        rw [List.getElem_set]
        split
        · rename_i e; subst e
          rw [← hVi, List.getD_eq_getElem?_getD, List.getElem?_eq_getElem h2]; rfl
        · rfl
      rwa [e] at this
    · refine hPQ V (h V ⟨hV.len, fun j => ?_⟩)
      rcases hV.at_ j with k | k
      · rw [getD_set hil] at k
        by_cases e : j = i
        · rw [if_pos e] at k; rw [e] at k; exact absurd k hVi
        · rw [if_neg e] at k; exact Or.inl k
      · exact Or.inr k
  · rw [write_fail hi hs h0]
    exact fun V hV => hPQ V (hb V hV)
/-- Sectors that are written, one behind the other. -/
def setAll (V : List ByteArray) (xs : List (Nat × ByteArray)) : List ByteArray := xs.foldl (fun V x => V.set x.1 x.2) V
theorem setAll_len (V : List ByteArray) (xs : List (Nat × ByteArray)) : (setAll V xs).length = V.length := by
  induction xs generalizing V with
  | nil => rfl
  | cons x xs ih => show (setAll (V.set x.1 x.2) xs).length = _; rw [ih]; simp
theorem wrs_good : ∀ (xs : List (Nat × ByteArray)) (D : Dsk), D.Good → (wrs D xs).1.Good
  | [], D, h => h
  | x :: xs, D, h => by
    simp only [wrs]
    split
    · exact wrs_good xs _ (h.write _ _)
    · exact h.write _ _
/-- Data that hurts nothing. -/
theorem All.wrs {P : List ByteArray → Prop} : ∀ (xs : List (Nat × ByteArray)) {D : Dsk}, All P D → D.Good → (∀ x ∈ xs, x.1 < 256 ∧ x.2.size ≤ 256) → (∀ x ∈ xs, ∀ V, V.length = 256 → P V → P (V.set x.1 x.2)) → All P (wrs D xs).1
  | [], D, h, _, _, _ => h
  | x :: xs, D, h, hg, hx, hs => by
    have hw := h.write (i := x.1) (s := x.2) (Q := P) hg (hx x (by simp)).1 (hx x (by simp)).2 (fun _ h => h) (hs x (by simp))
    simp only [Go.Proofs.YtjldlmonccgopaaGreat.wrs]
    split
    · exact All.wrs xs hw (hg.write _ _) (fun y hy => hx y (List.mem_cons_of_mem _ hy)) (fun y hy => hs y (List.mem_cons_of_mem _ hy))
    · exact hw
theorem wrs_wr : ∀ (xs : List (Nat × ByteArray)) {D : Dsk}, (∀ x ∈ xs, x.1 < 256 ∧ x.2.size ≤ 256) → (wrs D xs).2 = 0 → (wrs D xs).1.wr = setAll D.wr xs
  | [], D, _, _ => rfl
  | x :: xs, D, hx, h => by
    simp only [wrs] at h ⊢
    by_cases h0 : (D.write x.1 x.2).2 = 0
    · rw [if_pos h0] at h ⊢
      rw [wrs_wr xs (fun y hy => hx y (List.mem_cons_of_mem _ hy)) h]
      obtain ⟨e, h2⟩ := write_ok (hx x (by simp)).1 (hx x (by simp)).2 h0
      show setAll _ xs = setAll (D.wr.set x.1 x.2) xs
      congr 1
      rw [e]
      show D.begin.1.wr.set x.1 x.2 = _
      rw [(begin_ok h2).1]
    · rw [if_neg h0] at h
      exact absurd h h0
theorem sync_ok {D : Dsk} (h : D.sync.2 = 0) : D.sync.1.wr = D.wr ∧ D.sync.1.la = D.wr ∧ D.sync.1.ca = [] := by
  unfold Dsk.sync at h ⊢
  by_cases h0 : D.begin.2 = 0
  · rw [if_pos h0]
    exact ⟨(begin_ok h0).1, (begin_ok h0).1, rfl⟩
  · rw [if_neg h0] at h; exact absurd h h0
/-- All that is there lasts. -/
def Flat (D : Dsk) : Prop := D.la = D.wr ∧ D.ca = []
theorem all_flat {P : List ByteArray → Prop} {D : Dsk} (h : P D.wr) (hf : D.la = D.wr) (hg : D.Good) : All P D := by
  intro V hV
  have e : V = D.wr := by
    apply List.ext_getElem (by rw [hV.len, hg.wl])
    intro j h1 h2
    have := hV.at_ j
    rw [hf] at this
    have h3 : V.getD j ByteArray.empty = D.wr.getD j ByteArray.empty := by rcases this with e | e <;> exact e
    rwa [List.getD_eq_getElem?_getD, List.getD_eq_getElem?_getD, List.getElem?_eq_getElem h1, List.getElem?_eq_getElem h2] at h3
  rw [e]; exact h
/-- What a commit behind its data leaves: the new text if it answers OK; else the one, or the other. -/
theorem lay_ok {D : Dsk} {c n : Com} {t t' : ByteArray} {xs : List (Nat × ByteArray)} (h : All (Ok · c t) D) (hg : D.Good) (hx : ∀ x ∈ xs, x.1 < 256 ∧ x.2.size ≤ 256) (hs : ∀ x ∈ xs, ∀ V, V.length = 256 → Ok V c t → Ok (V.set x.1 x.2) c t)
    (hn : n.num = c.num + 1) (hf : n.Fit) (hsz : t'.size = n.len) (hu : sumOf t' = n.sum) (hl : Lies (setAll D.wr xs) n.area t') :
    (D.lay xs (n.num % 2) (comT n)).1.Good ∧ (((D.lay xs (n.num % 2) (comT n)).2 = 0 ∧ Ok (D.lay xs (n.num % 2) (comT n)).1.wr n t' ∧ Flat (D.lay xs (n.num % 2) (comT n)).1) ∨ ((D.lay xs (n.num % 2) (comT n)).2 ≠ 0 ∧ All (fun V => Ok V c t ∨ Ok V n t') (D.lay xs (n.num % 2) (comT n)).1)) := by
  have h1 := h.wrs xs hg hx hs
  have g1 := wrs_good xs D hg
  have h2 := h1.sync g1
  have g2 := g1.sync
  have h3 : All (fun V => Ok V c t ∨ Ok V n t') (wrs D xs).1.sync.1 := fun V hV => Or.inl (h2 V hV)
  unfold Dsk.lay
  by_cases e0 : (wrs D xs).2 = 0
  · rw [if_neg (by simp [e0])]
    by_cases e1 : (wrs D xs).1.sync.2 = 0
    · rw [if_neg (by simp [e1])]
      have hwr := wrs_wr xs hx e0
      obtain ⟨s1, s2, s3⟩ := sync_ok e1
      have hc2 : (comT n).size ≤ 256 := by rw [comT_size]; omega
      have hp : n.num % 2 < 256 := by omega
      have hset : ∀ V, V.length = 256 → (Ok V c t ∧ Lies V n.area t') → Ok (V.set (n.num % 2) (comT n)) n t' := fun V hV ⟨k1, k2⟩ => by
        refine k1.next hn hf hsz hu (fun k hk => ?_) ?_ ?_
        · rw [k2 k hk]
          unfold ab
          rw [getD_set (by rw [hV]; exact hp), if_neg (by omega)]
        · rw [getD_set (by rw [hV]; exact hp), if_pos rfl]
        · rw [getD_set (by rw [hV]; exact hp), if_neg (by omega)]
      have h4 : All (fun V => Ok V c t ∧ Lies V n.area t') (wrs D xs).1.sync.1 := all_flat ⟨h2.now g2, by rw [s1, hwr]; exact hl⟩ (by rw [s1, s2]) g2
      have h5 := h4.write (Q := fun V => Ok V c t ∨ Ok V n t') (i := n.num % 2) (s := comT n) g2 hp hc2 (fun V k => Or.inl k.1) (fun V hV k => Or.inr (hset V hV k))
      have g5 := g2.write ((n.num % 2 : Nat) : Int) (comT n)
      by_cases e2 : ((wrs D xs).1.sync.1.write ((n.num % 2 : Nat) : Int) (comT n)).2 = 0
      · rw [if_neg (fun k => k e2)]
        have h6 := h5.sync g5
        have g6 := g5.sync
        by_cases e3 : ((wrs D xs).1.sync.1.write ((n.num % 2 : Nat) : Int) (comT n)).1.sync.2 = 0
        · obtain ⟨q1, q2, q3⟩ := sync_ok e3
          refine ⟨g6, Or.inl ⟨e3, ?_, by rw [Flat, q1, q2]; exact ⟨rfl, q3⟩⟩⟩
          obtain ⟨w1, w2⟩ := write_ok hp hc2 e2
          rw [q1, w1]
          show Ok ((wrs D xs).1.sync.1.begin.1.wr.set _ _) n t'
          rw [(begin_ok w2).1]
          exact hset _ g2.wl (h4.now g2)
        · exact ⟨g6, Or.inr ⟨e3, h6⟩⟩
      · rw [if_pos e2]
        exact ⟨g5, Or.inr ⟨e2, h5⟩⟩
    · rw [if_pos e1]
      exact ⟨g2, Or.inr ⟨e1, h3⟩⟩
  · rw [if_pos e0]
    exact ⟨g1, Or.inr ⟨e0, fun V hV => Or.inl (h1 V hV)⟩⟩
end Go.Proofs.YtjldlmonccgopaaGreat
/- wal in plain terms: what Append and Checkpoint lay down. -/
namespace Go.Proofs.YtjldlmonccgopaaGreat
set_option linter.unusedVariables false
set_option linter.unusedSimpArgs false

theorem setAll_app (V : List ByteArray) (xs ys : List (Nat × ByteArray)) : setAll V (xs ++ ys) = setAll (setAll V xs) ys := by simp [setAll]
theorem setAll_pcs (V : List ByteArray) (i : Nat) (T : ByteArray) : ∀ k, i + k ≤ V.length → ∀ m, (setAll V (pcs i T k)).getD m ByteArray.empty = if i ≤ m ∧ m < i + k then pc T (m - i) else V.getD m ByteArray.empty
  | 0, _, m => by
    rw [if_neg (by omega)]; rfl
  | k + 1, h, m => by
    rw [pcs_succ, setAll_app]
    show ((setAll V (pcs i T k)).set (i + k) (pc T k)).getD m ByteArray.empty = _
    rw [getD_set (by rw [setAll_len]; omega), setAll_pcs V i T k (by omega) m]
    by_cases e : m = i + k
    · rw [if_pos e, if_pos (by omega), e]
      congr 1; omega
    · rw [if_neg e]
      by_cases h2 : i ≤ m ∧ m < i + k
      · rw [if_pos h2, if_pos (by omega)]
      · rw [if_neg h2, if_neg (by omega)]
theorem pc_size (T : ByteArray) (j : Nat) : (pc T j).size ≤ 256 := by
  unfold pc
  rw [ByteArray.size_extract]; omega
theorem pc_at (T : ByteArray) (j r : Nat) (hr : r < 256) (h : 256 * j + r < T.size) : bt (pc T j) r = bt T (256 * j + r) := by
  unfold pc
  exact bt_extract T (256 * j) _ r (by omega) (by omega)
theorem tailT_size (t : ByteArray) : (tailT t).size = t.size % 256 := by
  unfold tailT
  rw [ByteArray.size_extract]; omega
/-- The sectors that are written hold the text's bytes. -/
theorem tail_at (t s : ByteArray) (m : Nat) (h : m < (tailT t ++ s).size) : bt (tailT t ++ s) m = bt (t ++ s) (256 * (t.size / 256) + m) := by
  have hs := tailT_size t
  rw [ByteArray.size_append] at h
  by_cases h1 : m < (tailT t).size
  · rw [bt_app_left _ _ _ h1]
    unfold tailT
    rw [bt_extract t _ _ m (by omega) (by omega), bt_app_left _ _ _ (by omega)]
    congr 1; omega
  · obtain ⟨r, rfl⟩ : ∃ r, m = (tailT t).size + r := ⟨m - (tailT t).size, by omega⟩
    rw [bt_app_right _ _ _ (by omega), show 256 * (t.size / 256) + ((tailT t).size + r) = t.size + r by omega, bt_app_right _ _ _ (by omega)]
theorem mem_pcs {i : Nat} {T : ByteArray} {k : Nat} {x : Nat × ByteArray} (h : x ∈ pcs i T k) : ∃ j, j < k ∧ x = (i + j, pc T j) := by
  simp only [pcs, List.mem_map, List.mem_range] at h
  obtain ⟨j, hj, rfl⟩ := h
  exact ⟨j, hj, rfl⟩
/-- Append. -/
theorem append_lay {D : Dsk} {c : Com} {t s : ByteArray} (h : All (Ok · c t) D) (hg : D.Good) (hlen : c.len + s.size ≤ 32512) (hnum : c.num + 1 < 18446744073709551616) :
    (D.lay (chg c (tailT t) s) ((comNext c s).num % 2) (comT (comNext c s))).1.Good ∧ (((D.lay (chg c (tailT t) s) ((comNext c s).num % 2) (comT (comNext c s))).2 = 0 ∧ Ok (D.lay (chg c (tailT t) s) ((comNext c s).num % 2) (comT (comNext c s))).1.wr (comNext c s) (t ++ s) ∧ Flat (D.lay (chg c (tailT t) s) ((comNext c s).num % 2) (comT (comNext c s))).1) ∨ ((D.lay (chg c (tailT t) s) ((comNext c s).num % 2) (comT (comNext c s))).2 ≠ 0 ∧ All (fun V => Ok V c t ∨ Ok V (comNext c s) (t ++ s)) (D.lay (chg c (tailT t) s) ((comNext c s).num % 2) (comT (comNext c s))).1)) := by
  have hO := h.now hg
  have hts := hO.size
  have ha := hO.fit.area
  have hT := tailT_size t
  have hTs : (tailT t ++ s).size = t.size % 256 + s.size := by rw [ByteArray.size_append, hT]
  have hnP : nP (tailT t ++ s) = (t.size % 256 + s.size + 255) / 256 := by unfold nP; rw [hTs]
  have hel : ∀ x ∈ chg c (tailT t) s, ∃ j, j < nP (tailT t ++ s) ∧ x = (2 + c.area * 127 + t.size / 256 + j, pc (tailT t ++ s) j) := fun x hx => by
    unfold chg at hx
    split at hx
    · simp at hx
    · rw [← hts] at hx; exact mem_pcs hx
  have hidx : ∀ j, j < nP (tailT t ++ s) → 2 + c.area * 127 + t.size / 256 + j < 2 + c.area * 127 + 127 := fun j hj => by omega
  refine lay_ok h hg (fun x hx => ?_) (fun x hx V hV hok => ?_) ?_ (comNext_fit hO.fit hlen) (by rw [ByteArray.size_append, hts]; rfl) ?_ ?_
  · obtain ⟨j, hj, rfl⟩ := hel x hx
    have := hidx j hj
    exact ⟨by show 2 + c.area * 127 + t.size / 256 + j < 256; omega, pc_size _ _⟩
  · obtain ⟨j, hj, rfl⟩ := hel x hx
    have h2 := hidx j hj
    have hi : 2 + c.area * 127 + t.size / 256 + j < V.length := by omega
    refine hok.same (by rw [getD_set hi, if_neg (by omega)]) (by rw [getD_set hi, if_neg (by omega)]) (fun k hk => ?_)
    rw [hok.lies k hk]
    unfold ab
    rw [getD_set hi]
    by_cases e : 2 + c.area * 127 + k / 256 = 2 + c.area * 127 + t.size / 256 + j
    · rw [if_pos e]
      show ab V c.area k = bt (pc (tailT t ++ s) j) (k % 256)
      rw [← hok.lies k hk, pc_at _ _ _ (by omega) (by rw [hTs]; omega), tail_at _ _ _ (by rw [hTs]; omega), show 256 * (t.size / 256) + (256 * j + k % 256) = k by omega, bt_app_left _ _ _ hk]
    · rw [if_neg e]
  · show (c.num + 1) % 18446744073709551616 = _
    exact Nat.mod_eq_of_lt hnum
  · rw [sumOf_on, hO.sum]; rfl
  · intro k hk
    show bt (t ++ s) k = ab (setAll D.wr (chg c (tailT t) s)) c.area k
    rw [ByteArray.size_append] at hk
    by_cases hs0 : s.size = 0
    · have hch : chg c (tailT t) s = [] := by unfold chg; rw [if_pos hs0]
      rw [hch]
      rw [bt_app_left _ _ _ (by omega)]
      exact hO.lies k (by omega)
    · have hch : chg c (tailT t) s = pcs (2 + c.area * 127 + t.size / 256) (tailT t ++ s) (nP (tailT t ++ s)) := by unfold chg; rw [if_neg hs0, hts]
      rw [hch]
      unfold ab
      rw [setAll_pcs _ _ _ _ (by rw [hg.wl]; omega)]
      show _ = bt (if 2 + c.area * 127 + t.size / 256 ≤ 2 + c.area * 127 + k / 256 ∧ 2 + c.area * 127 + k / 256 < _ then _ else _) _
      by_cases hq : t.size / 256 ≤ k / 256
      · rw [if_pos ⟨by omega, by omega⟩, pc_at _ _ _ (by omega) (by rw [hTs]; omega), tail_at _ _ _ (by rw [hTs]; omega)]
        congr 1; omega
      · rw [if_neg (by omega), bt_app_left _ _ _ (by omega)]
        exact hO.lies k (by omega)
/-- Checkpoint. -/
theorem check_lay {D : Dsk} {c : Com} {t s : ByteArray} (h : All (Ok · c t) D) (hg : D.Good) (hlen : s.size ≤ 32512) (hnum : c.num + 1 < 18446744073709551616) (f : Com) (hf : f = ⟨c.num, 1 - c.area, 0, 2166136261⟩) :
    (D.lay (chg f ByteArray.empty s) ((comNext f s).num % 2) (comT (comNext f s))).1.Good ∧ (((D.lay (chg f ByteArray.empty s) ((comNext f s).num % 2) (comT (comNext f s))).2 = 0 ∧ Ok (D.lay (chg f ByteArray.empty s) ((comNext f s).num % 2) (comT (comNext f s))).1.wr (comNext f s) s ∧ Flat (D.lay (chg f ByteArray.empty s) ((comNext f s).num % 2) (comT (comNext f s))).1) ∨ ((D.lay (chg f ByteArray.empty s) ((comNext f s).num % 2) (comT (comNext f s))).2 ≠ 0 ∧ All (fun V => Ok V c t ∨ Ok V (comNext f s) s) (D.lay (chg f ByteArray.empty s) ((comNext f s).num % 2) (comT (comNext f s))).1)) := by
  have hO := h.now hg
  have hts := hO.size
  have ha := hO.fit.area
  have hl := hO.fit.len
  have hT : ByteArray.empty ++ s = s := ByteArray.empty_append
  have hfa : f.area = 1 - c.area := by rw [hf]
  have hfl : f.len = 0 := by rw [hf]
  have hfn : f.num = c.num := by rw [hf]
  have hfs : f.sum = 2166136261 := by rw [hf]
  have hff : f.Fit := ⟨by rw [hfn]; exact hO.fit.num, by omega, by omega, by rw [hfs]; omega⟩
  have hnP : nP s = (s.size + 255) / 256 := rfl
  have hel : ∀ x ∈ chg f ByteArray.empty s, ∃ j, j < nP s ∧ x = (2 + f.area * 127 + j, pc s j) := fun x hx => by
    unfold chg at hx
    split at hx
    · simp at hx
    · rw [hT, hfl] at hx; exact mem_pcs hx
  have hidx : ∀ j, j < nP s → 2 + f.area * 127 + j < 2 + f.area * 127 + 127 := fun j hj => by omega
  refine lay_ok h hg (fun x hx => ?_) (fun x hx V hV hok => ?_) ?_ (comNext_fit hff (by omega)) (by show s.size = f.len + s.size; omega) ?_ ?_
  · obtain ⟨j, hj, rfl⟩ := hel x hx
    have := hidx j hj
    exact ⟨by show 2 + f.area * 127 + j < 256; omega, pc_size _ _⟩
  · obtain ⟨j, hj, rfl⟩ := hel x hx
    have h2 := hidx j hj
    have hi : 2 + f.area * 127 + j < V.length := by omega
    refine hok.same (by rw [getD_set hi, if_neg (by omega)]) (by rw [getD_set hi, if_neg (by omega)]) (fun k hk => ?_)
    rw [hok.lies k hk]
    unfold ab
    rw [getD_set hi, if_neg (by omega)]
  · show (f.num + 1) % 18446744073709551616 = _
    rw [hfn]
    exact Nat.mod_eq_of_lt hnum
  · show _ = sumN f.sum s s.size
    rw [hfs]; rfl
  · intro k hk
    by_cases hs0 : s.size = 0
    · omega
    · have hch : chg f ByteArray.empty s = pcs (2 + f.area * 127) s (nP s) := by unfold chg; rw [if_neg hs0, hT, hfl, Nat.zero_div, Nat.add_zero]
      rw [hch]
      show _ = bt ((setAll D.wr _).getD (2 + f.area * 127 + k / 256) ByteArray.empty) (k % 256)
      rw [setAll_pcs _ _ _ _ (by rw [hg.wl]; omega), if_pos ⟨by omega, by omega⟩, pc_at _ _ _ (by omega) (by omega)]
      congr 1; omega
end Go.Proofs.YtjldlmonccgopaaGreat
/- wal in plain terms: a log that is as it should be, and what a call makes of it. -/
namespace Go.Proofs.YtjldlmonccgopaaGreat
set_option linter.unusedVariables false
set_option linter.unusedSimpArgs false

theorem sz_set {V : List ByteArray} {i : Nat} {s : ByteArray} (h : Sz V) (hi : i < V.length) (hs : s.size ≤ 256) : Sz (V.set i s) := fun j => by
  rw [getD_set hi]
  split
  · exact hs
  · exact h j
theorem lay_sz {D : Dsk} {xs : List (Nat × ByteArray)} {i : Nat} {t : ByteArray} (h : All Sz D) (hg : D.Good) (hx : ∀ x ∈ xs, x.1 < 256 ∧ x.2.size ≤ 256) (hi : i < 256) (ht : t.size ≤ 256) : All Sz (D.lay xs i t).1 := by
  have h1 := h.wrs xs hg hx (fun x hx' V hV k => sz_set k (by rw [hV]; exact (hx x hx').1) (hx x hx').2)
  have g1 := wrs_good xs D hg
  have h2 := h1.sync g1
  have g2 := g1.sync
  have h3 := h2.write (Q := Sz) (i := i) (s := t) g2 hi ht (fun _ k => k) (fun V hV k => sz_set k (by rw [hV]; exact hi) ht)
  have g3 := g2.write (i : Int) t
  unfold Dsk.lay
  (repeat' split)
  · exact h1
  · exact h2
  · exact h3
  · exact h3.sync g3
theorem sz_new : All Sz Dsk.new := all_flat (fun i => by
  show ((List.replicate 256 ByteArray.empty).getD i ByteArray.empty).size ≤ 256
  rw [List.getD_eq_getElem?_getD, List.getElem?_replicate]
  split <;> simp) rfl Dsk.good_new
theorem ok_new : All (Ok · com0 ByteArray.empty) Dsk.new := all_flat (by
  have hz : ∀ i d, ¬ IsCom ((List.replicate 256 ByteArray.empty).getD i ByteArray.empty) d := fun i d k => by
    have := k.size
    rw [List.getD_eq_getElem?_getD, List.getElem?_replicate] at this
    split at this <;> simp at this
  exact ⟨com0_fit, rfl, fun k hk => absurd hk (by simp), rfl, fun k => absurd rfl k, fun d k => absurd k (hz _ d), fun _ => ⟨rfl, fun d => hz 0 d⟩⟩) rfl Dsk.good_new
theorem tailT_at (u : ByteArray) (k : Nat) (h : k < u.size % 256) : bt (tailT u) k = bt u (u.size - u.size % 256 + k) := by
  have hm : u.size % 256 ≤ u.size := Nat.mod_le _ _
  unfold tailT
  exact bt_extract u _ _ k (Nat.le_refl _) (by omega)
theorem tail_tail (t s : ByteArray) : tailT (tailT t ++ s) = tailT (t ++ s) := by
  have h1 := tailT_size t
  have h2 := tailT_size (tailT t ++ s)
  have h3 := tailT_size (t ++ s)
  have h4 : (tailT t ++ s).size = t.size % 256 + s.size := by rw [ByteArray.size_append, h1]
  have h5 : (t ++ s).size = t.size + s.size := ByteArray.size_append
  have h6 := tail_at t s
  have a1 := tailT_at (tailT t ++ s)
  have a2 := tailT_at (t ++ s)
  generalize tailT (tailT t ++ s) = X at *
  generalize tailT (t ++ s) = Y at *
  generalize tailT t ++ s = U at *
  generalize t ++ s = W at *
  refine ext_bt (by omega) fun k hk => ?_
  rw [a1 k (by omega), a2 k (by omega), h6 _ (by omega)]
  congr 1; omega
/-- A log whose text is t, on the disk D. -/
structure Hl (D : Dsk) (L : Lg) (t : ByteArray) : Prop where
  er : L.er = 0
  ok : All (Ok · L.c t) D
  tail : L.tail = tailT t
  good : D.Good
  sz : All Sz D
theorem Hl.len {D : Dsk} {L : Lg} {t : ByteArray} (h : Hl D L t) : L.c.len = t.size ∧ t.size ≤ 32512 ∧ L.c.Fit ∧ L.tail.size ≤ 32512 := by
  have hO := h.ok.now h.good
  have h1 := hO.size
  have h2 := hO.fit.len
  have h3 := tailT_size t
  exact ⟨h1.symm, by omega, hO.fit, by rw [h.tail]; omega⟩
/-- What is behind a call that did not answer OK. -/
structure Either (D : Dsk) (c c' : Com) (t t' : ByteArray) : Prop where
  ok : All (fun V => Ok V c t ∨ Ok V c' t') D
  good : D.Good
  sz : All Sz D
/-- What step answers: OK, and the new text; or an error of the disk. -/
theorem step_cases {D : Dsk} {L : Lg} {t t' : ByteArray} {f : Com} {tl s : ByteArray} (h : Hl D L t) (hlen : f.len + s.size ≤ 32512) (htl : tailT (tl ++ s) = tailT t')
    (hx : ∀ x ∈ chg f tl s, x.1 < 256 ∧ x.2.size ≤ 256)
    (hl : (D.lay (chg f tl s) ((comNext f s).num % 2) (comT (comNext f s))).1.Good ∧ (((D.lay (chg f tl s) ((comNext f s).num % 2) (comT (comNext f s))).2 = 0 ∧ Ok (D.lay (chg f tl s) ((comNext f s).num % 2) (comT (comNext f s))).1.wr (comNext f s) t' ∧ Flat (D.lay (chg f tl s) ((comNext f s).num % 2) (comT (comNext f s))).1) ∨ ((D.lay (chg f tl s) ((comNext f s).num % 2) (comT (comNext f s))).2 ≠ 0 ∧ All (fun V => Ok V L.c t ∨ Ok V (comNext f s) t') (D.lay (chg f tl s) ((comNext f s).num % 2) (comT (comNext f s))).1))) :
    (L.step D f tl s).1 = (D.lay (chg f tl s) ((comNext f s).num % 2) (comT (comNext f s))).1 ∧ (L.step D f tl s).2.2 = (D.lay (chg f tl s) ((comNext f s).num % 2) (comT (comNext f s))).2 ∧
    (((L.step D f tl s).2.2 = 0 ∧ Hl (L.step D f tl s).1 (L.step D f tl s).2.1 t' ∧ Flat (L.step D f tl s).1 ∧ (L.step D f tl s).2.1.c = comNext f s) ∨ ((L.step D f tl s).2.2 ≠ 0 ∧ (L.step D f tl s).2.1 = { L with er := (L.step D f tl s).2.2 } ∧ Either (L.step D f tl s).1 L.c (comNext f s) t t')) := by
  have hsz := lay_sz (i := (comNext f s).num % 2) (t := comT (comNext f s)) h.sz h.good hx (by omega) (by rw [comT_size]; omega)
  have he : L.step D f tl s = if (D.lay (chg f tl s) ((comNext f s).num % 2) (comT (comNext f s))).2 ≠ 0 then ((D.lay (chg f tl s) ((comNext f s).num % 2) (comT (comNext f s))).1, { L with er := (D.lay (chg f tl s) ((comNext f s).num % 2) (comT (comNext f s))).2 }, (D.lay (chg f tl s) ((comNext f s).num % 2) (comT (comNext f s))).2) else ((D.lay (chg f tl s) ((comNext f s).num % 2) (comT (comNext f s))).1, ⟨comNext f s, tailT (tl ++ s), 0⟩, 0) := by
    unfold Lg.step
    rw [if_neg (by simp [h.er]), if_neg (by omega)]
  generalize D.lay (chg f tl s) ((comNext f s).num % 2) (comT (comNext f s)) = R at *
  obtain ⟨g, hc⟩ := hl
  rcases hc with ⟨e0, hO, hF⟩ | ⟨e0, hA⟩
  · rw [if_neg (by simp [e0])] at he
    rw [he]
    exact ⟨rfl, e0.symm, Or.inl ⟨rfl, ⟨rfl, all_flat hO hF.1 g, htl, g, hsz⟩, hF, rfl⟩⟩
  · rw [if_pos e0] at he
    rw [he]
    exact ⟨rfl, rfl, Or.inr ⟨e0, rfl, ⟨hA, g, hsz⟩⟩⟩
theorem chg_ok {f : Com} {tl s : ByteArray} (ha : f.area ≤ 1) (hlen : f.len + s.size ≤ 32512) (ht : tl.size = f.len % 256) : ∀ x ∈ chg f tl s, x.1 < 256 ∧ x.2.size ≤ 256 := fun x hx => by
  unfold chg at hx
  split at hx
  · simp at hx
  · obtain ⟨j, hj, rfl⟩ := mem_pcs hx
    have : nP (tl ++ s) = (tl.size + s.size + 255) / 256 := by unfold nP; rw [ByteArray.size_append]
    exact ⟨by show 2 + f.area * 127 + f.len / 256 + j < 256; omega, pc_size _ _⟩
theorem Hl.append {D : Dsk} {L : Lg} {t s : ByteArray} (h : Hl D L t) (hlen : t.size + s.size ≤ 32512) (hnum : L.c.num + 1 < 18446744073709551616) :
    (L.append D s).2.2 = (D.lay (chg L.c L.tail s) ((comNext L.c s).num % 2) (comT (comNext L.c s))).2 ∧ (L.append D s).1 = (D.lay (chg L.c L.tail s) ((comNext L.c s).num % 2) (comT (comNext L.c s))).1 ∧
    (((L.append D s).2.2 = 0 ∧ Hl (L.append D s).1 (L.append D s).2.1 (t ++ s) ∧ Flat (L.append D s).1 ∧ (L.append D s).2.1.c = comNext L.c s) ∨ ((L.append D s).2.2 ≠ 0 ∧ (L.append D s).2.1 = { L with er := (L.append D s).2.2 } ∧ Either (L.append D s).1 L.c (comNext L.c s) t (t ++ s))) := by
  obtain ⟨e1, e2, e3, e4⟩ := h.len
  have hl := append_lay (s := s) h.ok h.good (by omega) hnum
  rw [← h.tail] at hl
  have hc := step_cases (f := L.c) (tl := L.tail) (s := s) (t' := t ++ s) h (by omega) (by rw [h.tail, tail_tail]) (chg_ok e3.area (by omega) (by rw [h.tail, tailT_size, e1])) hl
  exact ⟨hc.2.1, hc.1, hc.2.2⟩
theorem Hl.checkpoint {D : Dsk} {L : Lg} {t s : ByteArray} (h : Hl D L t) (hlen : s.size ≤ 32512) (hnum : L.c.num + 1 < 18446744073709551616) :
    (L.checkpoint D s).2.2 = (D.lay (chg ⟨L.c.num, 1 - L.c.area, 0, 2166136261⟩ ByteArray.empty s) ((comNext ⟨L.c.num, 1 - L.c.area, 0, 2166136261⟩ s).num % 2) (comT (comNext ⟨L.c.num, 1 - L.c.area, 0, 2166136261⟩ s))).2 ∧ (L.checkpoint D s).1 = (D.lay (chg ⟨L.c.num, 1 - L.c.area, 0, 2166136261⟩ ByteArray.empty s) ((comNext ⟨L.c.num, 1 - L.c.area, 0, 2166136261⟩ s).num % 2) (comT (comNext ⟨L.c.num, 1 - L.c.area, 0, 2166136261⟩ s))).1 ∧
    (((L.checkpoint D s).2.2 = 0 ∧ Hl (L.checkpoint D s).1 (L.checkpoint D s).2.1 s ∧ Flat (L.checkpoint D s).1 ∧ (L.checkpoint D s).2.1.c.num = L.c.num + 1) ∨ ((L.checkpoint D s).2.2 ≠ 0 ∧ (L.checkpoint D s).2.1 = { L with er := (L.checkpoint D s).2.2 } ∧ ∃ c', Either (L.checkpoint D s).1 L.c c' t s)) := by
  obtain ⟨e1, e2, e3, e4⟩ := h.len
  have hl := check_lay (s := s) h.ok h.good hlen hnum ⟨L.c.num, 1 - L.c.area, 0, 2166136261⟩ rfl
  have hc := step_cases (f := ⟨L.c.num, 1 - L.c.area, 0, 2166136261⟩) (tl := ByteArray.empty) (s := s) (t' := s) h (by simpa using hlen) (by rw [ByteArray.empty_append]) (chg_ok (by show 1 - L.c.area ≤ 1; omega) (by simpa using hlen) rfl) hl
  refine ⟨hc.2.1, hc.1, ?_⟩
  rcases hc.2.2 with ⟨a1, a2, a3, a4⟩ | ⟨a1, a2, a3⟩
  · refine Or.inl ⟨a1, a2, a3, ?_⟩
    show (L.step D _ _ _).2.1.c.num = _
    rw [a4]
    show (L.c.num + 1) % 18446744073709551616 = _
    exact Nat.mod_eq_of_lt hnum
  · exact Or.inr ⟨a1, a2, _, a3⟩
theorem append_full {D : Dsk} {L : Lg} {t s : ByteArray} (h : Hl D L t) (hlen : 32512 < t.size + s.size) : L.append D s = (D, L, 50) := by
  unfold Lg.append Lg.step
  rw [if_neg (by simp [h.er]), if_pos (by rw [h.len.1]; exact hlen)]
theorem checkpoint_full {D : Dsk} {L : Lg} {t s : ByteArray} (h : Hl D L t) (hlen : 32512 < s.size) : L.checkpoint D s = (D, L, 50) := by
  unfold Lg.checkpoint Lg.step
  rw [if_neg (by simp [h.er]), if_pos (by simpa using hlen)]
/-- What Open answers. -/
theorem open_hl {D : Dsk} {c c0 : Com} {t t0 : ByteArray} (h : All (Ok · c t) D) (hg : D.Good) (hz : All Sz D) (k : Tells D.wr c0 t0) : t0 = t ∧ c0 = c ∧ Hl D ⟨c0, tailT t0, 0⟩ t := by
  obtain ⟨rfl, rfl⟩ := k.unique (h.now hg).tells
  exact ⟨rfl, rfl, rfl, h, rfl, hg, hz⟩
/-- A disk that does what it is told. -/
theorem calm_wrs : ∀ (xs : List (Nat × ByteArray)) {D : Dsk}, Calm D → (∀ x ∈ xs, x.1 < 256 ∧ x.2.size ≤ 256) → (wrs D xs).2 = 0 ∧ Calm (wrs D xs).1 ∧ (wrs D xs).1.ops = D.ops + xs.length
  | [], D, h, _ => ⟨rfl, h, rfl⟩
  | x :: xs, D, h, hx => by
    obtain ⟨e1, e2, _, _, _, e3⟩ := h.write x.1 x.2 (hx x (by simp)).1 (hx x (by simp)).2
    obtain ⟨i1, i2, i3⟩ := calm_wrs xs e2 (fun y hy => hx y (List.mem_cons_of_mem _ hy))
    simp only [wrs]
    rw [if_pos e1]
    exact ⟨i1, i2, by rw [i3, e3]; simp; omega⟩
theorem calm_lay {D : Dsk} {xs : List (Nat × ByteArray)} {i : Nat} {t : ByteArray} (h : Calm D) (hx : ∀ x ∈ xs, x.1 < 256 ∧ x.2.size ≤ 256) (hi : i < 256) (ht : t.size ≤ 256) : (D.lay xs i t).2 = 0 ∧ Calm (D.lay xs i t).1 ∧ (D.lay xs i t).1.ops = D.ops + xs.length + 3 := by
  obtain ⟨a1, a2, a3⟩ := calm_wrs xs h hx
  obtain ⟨b1, b2, _, _, _, b3⟩ := a2.sync
  obtain ⟨c1, c2, _, _, _, c3⟩ := b2.write i t hi ht
  obtain ⟨d1, d2, _, _, _, d3⟩ := c2.sync
  unfold Dsk.lay
  rw [if_neg (fun k => k a1), if_neg (fun k => k b1), if_neg (fun k => k c1)]
  exact ⟨d1, d2, by omega⟩
theorem chg_len {f : Com} {tl s : ByteArray} (hlen : tl.size + s.size ≤ 65000) : (chg f tl s).length ≤ 254 := by
  unfold chg
  split
  · simp
  · rw [pcs_len]; unfold nP; rw [ByteArray.size_append]; omega
end Go.Proofs.YtjldlmonccgopaaGreat
/- wal: what the laws call, over a disk and a log in memory. -/
namespace Go.Proofs.YtjldlmonccgopaaGreat
open Go.RowKit
set_option linter.unusedVariables false
set_option maxRecDepth 100000
set_option linter.unusedSimpArgs false

/-- A disk in block b and a log of it in block l; all that lay below B in w0 lies as it lay. -/
structure St (B : Nat) (w0 w : World) (b l : Nat) (D : Dsk) (L : Lg) : Prop where
  disk : ∃ sl, DiskAt w b D sl
  log : LgAt w l b L
  bel : Below B w0 w
  hb : B ≤ b
  hl : B ≤ l
theorem St.next {B : Nat} {w0 w w' : World} {b l : Nat} {D D' : Dsk} {L L' : Lg} {sl : Value} (h : St B w0 w b l D L) (k : LNext B b l sl D' L' w w') : St B w0 w' b l D' L' := by
  obtain ⟨h1, sl', h2, _, h3⟩ := k
  exact ⟨⟨sl', h2⟩, h1, h.bel.trans h3.bel, h.hb, h.hl⟩
theorem St.dnext {B : Nat} {w0 w w' : World} {b l : Nat} {D D' : Dsk} {L : Lg} {sl : Value} (h : St B w0 w b l D L) (hd : DiskAt w b D sl) (k : DNext B b sl D' w w') : St B w0 w' b l D' L := by
  obtain ⟨sl', h2, _, h3⟩ := k
  exact ⟨⟨sl', h2⟩, ⟨(h3.oth l (lt_of_block (LogAt.blk h.log)) (log_off h.log hd)).trans (LogAt.blk h.log)⟩, h.bel.trans h3.bel, h.hb, h.hl⟩
theorem St.below {B : Nat} {w0 w w' : World} {b l : Nat} {D : Dsk} {L : Lg} (h : St B w0 w b l D L) (k : Below w.heap.size w w') : St B w0 w' b l D L := by
  obtain ⟨sl, hd⟩ := h.disk
  exact ⟨⟨sl, hd.below k⟩, LogAt.below h.log k (lt_of_block (LogAt.blk h.log)), h.bel.trans (k.mono (by have := lt_of_block hd.blk; have := h.hb; omega)), h.hb, h.hl⟩
theorem s_append {B : Nat} {w0 w : World} {b l : Nat} {D : Dsk} {L : Lg} (h : St B w0 w b l D L) (s : ByteArray) (hf : L.c.Fit) (ht : L.tail.size ≤ 32512) (hs : s.size ≤ 1099511627776) (ho : D.ops + 1000 < 4611686018427387904) :
    Calls Tryz.prog 34 #[.pointer (some ⟨l, 0, none⟩), .string s] w fun e w' => e = .returned (.int .i64 (L.append D s).2.2) ∧ St B w0 w' b l (L.append D s).1 (L.append D s).2.1 := by
  obtain ⟨sl, hd⟩ := h.disk
  exact (append_any w B l b D sl L s hf ht hs ho h.hb h.hl hd h.log).mono fun e w' ⟨h1, h2⟩ => ⟨h1, h.next h2⟩
theorem s_check {B : Nat} {w0 w : World} {b l : Nat} {D : Dsk} {L : Lg} (h : St B w0 w b l D L) (s : ByteArray) (hf : L.c.Fit) (hs : s.size ≤ 1099511627776) (ho : D.ops + 1000 < 4611686018427387904) :
    Calls Tryz.prog 37 #[.pointer (some ⟨l, 0, none⟩), .string s] w fun e w' => e = .returned (.int .i64 (L.checkpoint D s).2.2) ∧ St B w0 w' b l (L.checkpoint D s).1 (L.checkpoint D s).2.1 := by
  obtain ⟨sl, hd⟩ := h.disk
  exact (checkpoint_any w B l b D sl L s hf hs ho h.hb h.hl hd h.log).mono fun e w' ⟨h1, h2⟩ => ⟨h1, h.next h2⟩
theorem s_fail {B : Nat} {w0 w : World} {b l : Nat} {D : Dsk} {L : Lg} (h : St B w0 w b l D L) (n : Int) (hn : -9223372036854775808 ≤ n ∧ n < 9223372036854775808) :
    Calls Tryz.prog 15 #[.pointer (some ⟨b, 0, none⟩), .int .i64 n] w fun e w' => e = .returned (.tuple #[]) ∧ St B w0 w' b l (D.fail n) L := by
  obtain ⟨sl, hd⟩ := h.disk
  exact (fail_at w B b D sl n hn h.hb hd).mono fun e w' ⟨h1, h2⟩ => ⟨h1, h.dnext hd h2⟩
theorem s_cut {B : Nat} {w0 w : World} {b l : Nat} {D : Dsk} {L : Lg} (h : St B w0 w b l D L) (n : Int) (keep : Nat) (hn : -9223372036854775808 ≤ n ∧ n < 9223372036854775808) (hk : keep < 18446744073709551616) :
    Calls Tryz.prog 13 #[.pointer (some ⟨b, 0, none⟩), .int .i64 n, .int .u64 (keep : Int)] w fun e w' => e = .returned (.tuple #[]) ∧ St B w0 w' b l (D.cut n keep) L := by
  obtain ⟨sl, hd⟩ := h.disk
  exact (cut_at w B b D sl n keep hn hk h.hb hd).mono fun e w' ⟨h1, h2⟩ => ⟨h1, h.dnext hd h2⟩
theorem s_crash {B : Nat} {w0 w : World} {b l : Nat} {D : Dsk} {L : Lg} (h : St B w0 w b l D L) (keep : Nat) (hk : keep < 18446744073709551616) :
    Calls Tryz.prog 17 #[.pointer (some ⟨b, 0, none⟩), .int .u64 (keep : Int)] w fun e w' => e = .returned (.tuple #[]) ∧ St B w0 w' b l (D.crash keep) L := by
  obtain ⟨sl, hd⟩ := h.disk
  exact (crash_at w B b D sl keep hk h.hb hd).mono fun e w' ⟨h1, h2⟩ => ⟨h1, h.dnext hd h2⟩
theorem s_power {B : Nat} {w0 w : World} {b l : Nat} {D : Dsk} {L : Lg} (h : St B w0 w b l D L) :
    Calls Tryz.prog 21 #[.pointer (some ⟨b, 0, none⟩)] w fun e w' => e = .returned (.tuple #[]) ∧ St B w0 w' b l D.power L := by
  obtain ⟨sl, hd⟩ := h.disk
  exact (power_at w B b D sl h.hb hd).mono fun e w' ⟨h1, h2⟩ => ⟨h1, h.dnext hd h2⟩
theorem s_ops {B : Nat} {w0 w : World} {b l : Nat} {D : Dsk} {L : Lg} (h : St B w0 w b l D L) :
    Calls Tryz.prog 49 #[.pointer (some ⟨b, 0, none⟩)] w fun e w' => e = .returned (.int .i64 (D.ops : Int)) ∧ w' = w := ops_any w b D h.disk
theorem s_len {B : Nat} {w0 w : World} {b l : Nat} {D : Dsk} {L : Lg} (h : St B w0 w b l D L) :
    Calls Tryz.prog 46 #[.pointer (some ⟨l, 0, none⟩)] w fun e w' => e = .returned (.int .i64 (L.c.len : Int)) ∧ w' = w := len_any w l b L h.log
theorem s_open {B : Nat} {w0 w : World} {b l : Nat} {D : Dsk} {L : Lg} (h : St B w0 w b l D L) (hz : Sz D.wr) :
    Calls Tryz.prog 29 #[.pointer (some ⟨b, 0, none⟩)] w fun e w' => ∃ l' c t, e = .returned (.tuple #[.pointer (some ⟨l', 0, none⟩), .string t, .int .i64 0]) ∧ Tells D.wr c t ∧ St B w0 w' b l' D ⟨c, tailT t, 0⟩ ∧ St B w0 w' b l D L := by
  have hlt : B ≤ w.heap.size := by obtain ⟨sl, hd⟩ := h.disk; have := lt_of_block hd.blk; have := h.hb; omega
  refine (open_any w b D hz h.disk).mono ?_
  rintro e w' ⟨⟨l', c, t, h1, h2, h3, h4⟩, hb⟩
  have hs := h.below hb
  exact ⟨l', c, t, h1, h2, ⟨hs.disk, h3, hs.bel, h.hb, by omega⟩, hs⟩
/-- A new disk, and a log of it. -/
theorem s_first (w0 w : World) (B b : Nat) (hB : B ≤ b) (hd : DiskIs w b Dsk.new) (hbel : Below B w0 w) :
    Calls Tryz.prog 29 #[.pointer (some ⟨b, 0, none⟩)] w fun e w' => ∃ l, e = .returned (.tuple #[.pointer (some ⟨l, 0, none⟩), .string ByteArray.empty, .int .i64 0]) ∧ St B w0 w' b l Dsk.new ⟨com0, tailT ByteArray.empty, 0⟩ ∧ Hl Dsk.new ⟨com0, tailT ByteArray.empty, 0⟩ ByteArray.empty ∧ Below w.heap.size w w' := by
  have hlt : B ≤ w.heap.size := by obtain ⟨sl, hd⟩ := hd; have := lt_of_block hd.blk; omega
  refine (open_any w b Dsk.new (sz_new.now Dsk.good_new) hd).mono ?_
  rintro e w' ⟨⟨l', c, t, h1, h2, h3, h4⟩, hb⟩
  obtain ⟨rfl, rfl, k⟩ := open_hl ok_new Dsk.good_new sz_new h2
  exact ⟨l', h1, ⟨hd.below hb, h3, hbel.trans (hb.mono hlt), hB, by omega⟩, k, hb⟩
end Go.Proofs.YtjldlmonccgopaaGreat
/- wal in plain terms: a disk that is to fail. -/
namespace Go.Proofs.YtjldlmonccgopaaGreat
set_option linter.unusedVariables false
set_option linter.unusedSimpArgs false

theorem append_calm {D : Dsk} {L : Lg} {s : ByteArray} (h : Calm D) (he : L.er = 0) (hf : L.c.Fit) (ht : L.tail.size = L.c.len % 256) (hs : L.c.len + s.size ≤ 32512) : (L.append D s).2.2 = 0 ∧ Calm (L.append D s).1 ∧ (L.append D s).1.ops = D.ops + (chg L.c L.tail s).length + 3 ∧ (L.append D s).2.1.c = comNext L.c s ∧ (L.append D s).2.1.er = 0 := by
  obtain ⟨a1, a2, a3⟩ := calm_lay (xs := chg L.c L.tail s) (i := (comNext L.c s).num % 2) (t := comT (comNext L.c s)) h (chg_ok hf.area hs ht) (by omega) (by rw [comT_size]; omega)
  unfold Lg.append Lg.step
  rw [if_neg (by simp [he]), if_neg (by omega), if_neg (fun k => k a1)]
  exact ⟨rfl, a2, a3, rfl, rfl⟩
theorem checkpoint_calm {D : Dsk} {L : Lg} {s : ByteArray} (h : Calm D) (he : L.er = 0) (hs : s.size ≤ 32512) : (L.checkpoint D s).2.2 = 0 ∧ Calm (L.checkpoint D s).1 ∧ (L.checkpoint D s).1.ops ≤ D.ops + 260 := by
  have hlen := chg_len (f := ⟨L.c.num, 1 - L.c.area, 0, 2166136261⟩) (tl := ByteArray.empty) (s := s) (by simp; omega)
  obtain ⟨a1, a2, a3⟩ := calm_lay (xs := chg ⟨L.c.num, 1 - L.c.area, 0, 2166136261⟩ ByteArray.empty s) (i := (comNext ⟨L.c.num, 1 - L.c.area, 0, 2166136261⟩ s).num % 2) (t := comT (comNext ⟨L.c.num, 1 - L.c.area, 0, 2166136261⟩ s)) h (chg_ok (by show 1 - L.c.area ≤ 1; omega) (by simpa using hs) rfl) (by omega) (by rw [comT_size]; omega)
  unfold Lg.checkpoint Lg.step
  rw [if_neg (by simp [he]), if_neg (by simp; omega), if_neg (fun k => k a1)]
  exact ⟨rfl, a2, by rw [a3]; omega⟩
/-- Power, and no cut is ordered. -/
structure Whole (D : Dsk) : Prop where
  dead : D.dead = false
  cg : D.cg = false
theorem Whole.begin {D : Dsk} (h : Whole D) : Whole D.begin.1 ∧ (D.begin.2 = 0 ∨ D.begin.2 = 42) ∧ (D.begin.2 = 0 → D.fg = true → D.begin.1.fg = true ∧ D.begin.1.fk + 1 = D.fk) := by
  unfold Dsk.begin
  rw [h.dead, h.cg]
  simp only [Bool.false_eq_true, if_false, Bool.false_and]
  by_cases h2 : D.fl = true
  · rw [if_pos h2]
    exact ⟨h, Or.inr rfl, fun k => by simp at k⟩
  · rw [if_neg h2]
    by_cases h4 : (D.fg && D.fk == 0) = true
    · rw [if_pos h4]
      exact ⟨⟨rfl, rfl⟩, Or.inr rfl, fun k => by simp at k⟩
    · rw [if_neg h4]
      refine ⟨⟨rfl, rfl⟩, Or.inl rfl, fun _ hf => ⟨hf, ?_⟩⟩
      rw [hf] at h4
      simp at h4
      show D.fk - 1 + 1 = D.fk
      omega
theorem Whole.write {D : Dsk} (h : Whole D) {i : Nat} {s : ByteArray} (hi : i < 256) (hs : s.size ≤ 256) : Whole (D.write i s).1 ∧ ((D.write i s).2 = 0 ∨ (D.write i s).2 = 42) ∧ ((D.write i s).2 = 0 → D.fg = true → (D.write i s).1.fg = true ∧ (D.write i s).1.fk + 1 = D.fk) := by
  obtain ⟨b1, b2, b3⟩ := h.begin
  rw [write_begin D i s hi hs]
  by_cases h0 : D.begin.2 = 0
  · rw [if_pos h0]
    exact ⟨⟨b1.dead, b1.cg⟩, Or.inl rfl, fun _ hf => b3 h0 hf⟩
  · rw [if_neg h0]
    exact ⟨b1, b2, fun k => absurd k h0⟩
theorem Whole.sync {D : Dsk} (h : Whole D) : Whole D.sync.1 ∧ (D.sync.2 = 0 ∨ D.sync.2 = 42) ∧ (D.sync.2 = 0 → D.fg = true → D.sync.1.fg = true ∧ D.sync.1.fk + 1 = D.fk) := by
  obtain ⟨b1, b2, b3⟩ := h.begin
  unfold Dsk.sync
  by_cases h0 : D.begin.2 = 0
  · rw [if_pos h0]
    exact ⟨⟨b1.dead, b1.cg⟩, Or.inl rfl, fun _ hf => b3 h0 hf⟩
  · rw [if_neg h0]
    exact ⟨b1, b2, fun k => absurd k h0⟩
theorem Whole.wrs : ∀ (xs : List (Nat × ByteArray)) {D : Dsk}, Whole D → (∀ x ∈ xs, x.1 < 256 ∧ x.2.size ≤ 256) → Whole (wrs D xs).1 ∧ ((wrs D xs).2 = 0 ∨ (wrs D xs).2 = 42) ∧ ((wrs D xs).2 = 0 → D.fg = true → (wrs D xs).1.fg = true ∧ (wrs D xs).1.fk + xs.length = D.fk)
  | [], D, h, _ => ⟨h, Or.inl rfl, fun _ hf => ⟨hf, rfl⟩⟩
  | x :: xs, D, h, hx => by
    obtain ⟨a1, a2, a3⟩ := h.write (hx x (by simp)).1 (hx x (by simp)).2
    obtain ⟨b1, b2, b3⟩ := Whole.wrs xs a1 (fun y hy => hx y (List.mem_cons_of_mem _ hy))
    simp only [Go.Proofs.YtjldlmonccgopaaGreat.wrs]
    by_cases h0 : (D.write x.1 x.2).2 = 0
    · rw [if_pos h0]
      refine ⟨b1, b2, fun k hf => ?_⟩
      obtain ⟨c1, c2⟩ := a3 h0 hf
      obtain ⟨d1, d2⟩ := b3 k c1
      exact ⟨d1, by rw [List.length_cons]; omega⟩
    · rw [if_neg h0]
      exact ⟨a1, a2, fun k => absurd k h0⟩
theorem Whole.lay {D : Dsk} (h : Whole D) {xs : List (Nat × ByteArray)} {i : Nat} {t : ByteArray} (hx : ∀ x ∈ xs, x.1 < 256 ∧ x.2.size ≤ 256) (hi : i < 256) (ht : t.size ≤ 256) : Whole (D.lay xs i t).1 ∧ ((D.lay xs i t).2 = 0 ∨ (D.lay xs i t).2 = 42) ∧ ((D.lay xs i t).2 = 0 → D.fg = true → 3 ≤ D.fk) := by
  obtain ⟨a1, a2, a3⟩ := Whole.wrs xs h hx
  obtain ⟨b1, b2, b3⟩ := a1.sync
  obtain ⟨c1, c2, c3⟩ := b1.write hi ht
  obtain ⟨d1, d2, d3⟩ := c1.sync
  unfold Dsk.lay
  by_cases e0 : (Go.Proofs.YtjldlmonccgopaaGreat.wrs D xs).2 = 0
  · rw [if_neg (fun k => k e0)]
    by_cases e1 : (Go.Proofs.YtjldlmonccgopaaGreat.wrs D xs).1.sync.2 = 0
    · rw [if_neg (fun k => k e1)]
      by_cases e2 : ((Go.Proofs.YtjldlmonccgopaaGreat.wrs D xs).1.sync.1.write i t).2 = 0
      · rw [if_neg (fun k => k e2)]
        refine ⟨d1, d2, fun k hf => ?_⟩
        have f1 := a3 e0 hf
        have f2 := b3 e1 f1.1
        have f3 := c3 e2 f2.1
        have f4 := d3 k f3.1
        omega
      · rw [if_pos e2]
        exact ⟨c1, c2, fun k => absurd k e2⟩
    · rw [if_pos e1]
      exact ⟨b1, b2, fun k => absurd k e1⟩
  · rw [if_pos e0]
    exact ⟨a1, a2, fun k => absurd k e0⟩
theorem Hl.fail {D : Dsk} {L : Lg} {t : ByteArray} (h : Hl D L t) (n : Int) (hn : n < 9223372036854775808) : Hl (D.fail n) L t := ⟨h.er, h.ok, h.tail, h.good.fail n hn, h.sz⟩
theorem Hl.cut {D : Dsk} {L : Lg} {t : ByteArray} (h : Hl D L t) (n : Int) (keep : Nat) (hn : n < 9223372036854775808) (hk : keep < 18446744073709551616) : Hl (D.cut n keep) L t := ⟨h.er, h.ok, h.tail, h.good.cut n keep hn hk, h.sz⟩
theorem append_dead {D : Dsk} {L : Lg} (h : L.er ≠ 0) (s : ByteArray) : L.append D s = (D, L, L.er) ∧ L.checkpoint D s = (D, L, L.er) := by
  unfold Lg.append Lg.checkpoint Lg.step
  rw [if_pos h, if_pos h]
  exact ⟨rfl, rfl⟩
theorem power_calm (D : Dsk) : Calm D.power := ⟨rfl, rfl, rfl, rfl⟩
end Go.Proofs.YtjldlmonccgopaaGreat
/- wal's laws: how long texts are together; a disk alone. -/
namespace Go.Proofs.YtjldlmonccgopaaGreat
open Go.RowKit
set_option linter.unusedVariables false
set_option linter.unusedSimpArgs false

/-- One and the length of each of the first k texts. -/
def sumS (ss : List ByteArray) : Nat → Nat
  | 0 => 0
  | k + 1 => sumS ss k + (1 + (ss.getD k ByteArray.empty).size)
theorem sumS_mono (ss : List ByteArray) {j k : Nat} (h : j ≤ k) : sumS ss j ≤ sumS ss k := by
  induction k with
  | zero => obtain rfl : j = 0 := by omega
            exact Nat.le_refl _
  | succ k ih =>
    by_cases e : j = k + 1
    · rw [e]; exact Nat.le_refl _
    · have := ih (by omega)
      simp only [sumS]; omega
theorem sumS_ge (ss : List ByteArray) : ∀ k, k ≤ sumS ss k
  | 0 => Nat.le_refl _
  | k + 1 => by have := sumS_ge ss k; simp only [sumS]; omega
/-- A disk in block b. -/
structure DSt (B : Nat) (w0 w : World) (b : Nat) (D : Dsk) : Prop where
  disk : DiskIs w b D
  bel : Below B w0 w
  hb : B ≤ b
theorem St.dst {B : Nat} {w0 w : World} {b l : Nat} {D : Dsk} {L : Lg} (h : St B w0 w b l D L) : DSt B w0 w b D := ⟨h.disk, h.bel, h.hb⟩
theorem d_open {B : Nat} {w0 w : World} {b : Nat} {D : Dsk} (h : DSt B w0 w b D) (hz : Sz D.wr) :
    Calls Tryz.prog 29 #[.pointer (some ⟨b, 0, none⟩)] w fun e w' => ∃ l' c t, e = .returned (.tuple #[.pointer (some ⟨l', 0, none⟩), .string t, .int .i64 0]) ∧ Tells D.wr c t ∧ St B w0 w' b l' D ⟨c, tailT t, 0⟩ := by
  have hlt : B ≤ w.heap.size := by obtain ⟨sl, hd⟩ := h.disk; have := lt_of_block hd.blk; have := h.hb; omega
  refine (open_any w b D hz h.disk).mono ?_
  rintro e w' ⟨⟨l', c, t, h1, h2, h3, h4⟩, hb⟩
  exact ⟨l', c, t, h1, h2, ⟨DiskIs.below h.disk hb, h3, h.bel.trans (hb.mono hlt), h.hb, by omega⟩⟩
theorem d_ops {B : Nat} {w0 w : World} {b : Nat} {D : Dsk} (h : DSt B w0 w b D) :
    Calls Tryz.prog 49 #[.pointer (some ⟨b, 0, none⟩)] w fun e w' => e = .returned (.int .i64 (D.ops : Int)) ∧ w' = w := ops_any w b D h.disk
end Go.Proofs.YtjldlmonccgopaaGreat
/- The law WalCuts. -/
namespace Go.Proofs.YtjldlmonccgopaaGreat
open Go.RowKit
set_option linter.unusedVariables false
set_option maxRecDepth 100000
set_option linter.unusedSimpArgs false

/-- What is behind the call: the text as it was, the new one, or one of both. -/
structure After (D : Dsk) (e : Int) (text behind : ByteArray) : Prop where
  good : D.Good
  sz : All Sz D
  cs : (32512 < behind.size ∧ e = 50 ∧ ∃ c, All (Ok · c text) D) ∨ (behind.size ≤ 32512 ∧ e = 0 ∧ ∃ c, All (Ok · c behind) D) ∨ (behind.size ≤ 32512 ∧ e ≠ 0 ∧ ∃ c c', All (fun V => Ok V c text ∨ Ok V c' behind) D)
theorem After.crash {D : Dsk} {e : Int} {t b : ByteArray} (h : After D e t b) (keep : Nat) : After (D.crash keep) e t b := by
  refine ⟨h.good.crash keep, h.sz.crash h.good keep, ?_⟩
  rcases h.cs with ⟨h1, h2, c, h3⟩ | ⟨h1, h2, c, h3⟩ | ⟨h1, h2, c, c', h3⟩
  · exact Or.inl ⟨h1, h2, c, h3.crash h.good keep⟩
  · exact Or.inr (Or.inl ⟨h1, h2, c, h3.crash h.good keep⟩)
  · exact Or.inr (Or.inr ⟨h1, h2, c, c', h3.crash h.good keep⟩)
theorem After.power {D : Dsk} {e : Int} {t b : ByteArray} (h : After D e t b) : After D.power e t b := ⟨h.good.power, h.sz, h.cs⟩
theorem After.append {D : Dsk} {L : Lg} {t s b : ByteArray} (h : Hl D L t) (hn : L.c.num + 1 < 18446744073709551616) (hb : t ++ s = b) : After (L.append D s).1 (L.append D s).2.2 t b := by
  subst hb
  by_cases hf : 32512 < (t ++ s).size
  · rw [append_full h (by rw [ByteArray.size_append] at hf; exact hf)]
    exact ⟨h.good, h.sz, Or.inl ⟨hf, rfl, _, h.ok⟩⟩
  · obtain ⟨_, _, k⟩ := h.append (s := s) (by rw [ByteArray.size_append] at hf; omega) hn
    rcases k with ⟨k1, k2, _⟩ | ⟨k1, _, k2⟩
    · exact ⟨k2.good, k2.sz, Or.inr (Or.inl ⟨by omega, k1, _, k2.ok⟩)⟩
    · exact ⟨k2.good, k2.sz, Or.inr (Or.inr ⟨by omega, k1, _, _, k2.ok⟩)⟩
theorem After.checkpoint {D : Dsk} {L : Lg} {t s : ByteArray} (h : Hl D L t) (hn : L.c.num + 1 < 18446744073709551616) : After (L.checkpoint D s).1 (L.checkpoint D s).2.2 t s := by
  by_cases hf : 32512 < s.size
  · rw [checkpoint_full h hf]
    exact ⟨h.good, h.sz, Or.inl ⟨hf, rfl, _, h.ok⟩⟩
  · obtain ⟨_, _, k⟩ := h.checkpoint (s := s) (by omega) hn
    rcases k with ⟨k1, k2, _⟩ | ⟨k1, _, c', k2⟩
    · exact ⟨k2.good, k2.sz, Or.inr (Or.inl ⟨by omega, k1, _, k2.ok⟩)⟩
    · exact ⟨k2.good, k2.sz, Or.inr (Or.inr ⟨by omega, k1, _, _, k2.ok⟩)⟩
theorem After.tells {D : Dsk} {e : Int} {t b t0 : ByteArray} {c0 : Com} (h : After D e t b) (k : Tells D.wr c0 t0) : (32512 < b.size ∧ e = 50 ∧ t0 = t) ∨ (b.size ≤ 32512 ∧ e = 0 ∧ t0 = b) ∨ (b.size ≤ 32512 ∧ e ≠ 0 ∧ (t0 = t ∨ t0 = b)) := by
  rcases h.cs with ⟨h1, h2, c, h3⟩ | ⟨h1, h2, c, h3⟩ | ⟨h1, h2, c, c', h3⟩
  · exact Or.inl ⟨h1, h2, (k.unique (h3.now h.good).tells).2⟩
  · exact Or.inr (Or.inl ⟨h1, h2, (k.unique (h3.now h.good).tells).2⟩)
  · refine Or.inr (Or.inr ⟨h1, h2, ?_⟩)
    rcases h3.now h.good with q | q
    · exact Or.inl (k.unique q.tells).2
    · exact Or.inr (k.unique q.tells).2
end Go.Proofs.YtjldlmonccgopaaGreat
