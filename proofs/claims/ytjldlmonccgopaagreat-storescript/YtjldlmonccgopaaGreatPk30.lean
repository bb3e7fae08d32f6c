/- OLay, OOpen, OLaw. -/
import Derived.Test.YtjldlmonccgopaaGreatZOText
import Derived.Test.YtjldlmonccgopaaGreatPk29
import Derived.Test.YtjldlmonccgopaaGreatPk12
/- store: lay, Add, Replace, Len, Room. -/
namespace Go.Proofs.YtjldlmonccgopaaGreat.Rc
open Go.RowKit
set_option linter.unusedVariables false
set_option maxRecDepth 100000
set_option linter.unusedSimpArgs false

/-- The store in block s, its log in block l, with m records. -/
structure StoreAt (w : World) (s l m : Nat) : Prop where
  blk : w.heap[s]? = some (.cells #[.pointer (some ⟨l, 0, none⟩), .int .i64 (m : Int)] 69 (0, 0))
theorem StoreAt.cells {w : World} {s l m : Nat} (h : StoreAt w s l m) : w.cell? ⟨s, 0, none⟩ = some (.pointer (some ⟨l, 0, none⟩)) ∧ w.cell? ⟨s, 1, none⟩ = some (.int .i64 (m : Int)) ∧ ∀ k, w.frozen? ⟨s, k, none⟩ = false :=
  ⟨cell_at (L := [_, _]) h.blk 0 _ rfl, cell_at (L := [_, _]) h.blk 1 _ rfl, fun k => free_at (L := [_, _]) h.blk k⟩
theorem StoreAt.below {w w' : World} {s l m : Nat} (h : StoreAt w s l m) (k : Below w.heap.size w w') : StoreAt w' s l m := ⟨(k.block s (lt_of_block h.blk)).trans h.blk⟩
theorem StoreAt.drew {w : World} {s l m : Nat} (h : StoreAt w s l m) : StoreAt w.drew s l m := ⟨h.blk⟩
theorem StoreAt.set {w : World} {s l m : Nat} (h : StoreAt w s l m) (k : Nat) : StoreAt (w.setCell ⟨s, 1, none⟩ (.int .i64 (k : Int))) s l k := ⟨set_at (L := [_, _]) h.blk⟩
theorem store_off {w : World} {s l m b : Nat} {L : Lg} {D : Dsk} {sl : Value} (h : StoreAt w s l m) (g : LgAt w l b L) (d : DiskAt w b D sl) : ¬ Sl b l sl s := fun e => by
  rcases e with (e | e) | e
  · have h1 := h.blk
    rw [e, d.blk] at h1
    simp at h1
  · obtain ⟨c', fz, hc'⟩ := Go.Proofs.YtjldlmonccgopaaGreat.own_kind d.own s e
    rw [h.blk] at hc'
    simp at hc'
  · have h1 := h.blk
    rw [e, LogAt.blk g] at h1
    simp at h1
/-- What a step of a store may change. -/
def Ss (b l s : Nat) (sl : Value) : Nat → Prop := fun k => Sl b l sl k ∨ k = s
theorem ds_wider {S S' : Nat → Prop} {B b : Nat} {sl : Value} {D : Dsk} {w w' : World} (h : DS S B b sl D w w') (k : ∀ i, S i → S' i) : DS S' B b sl D w w' := by
  obtain ⟨sl2, h1, h2, h3⟩ := h
  exact ⟨sl2, h1, h2, h3.bel, fun i hi hn => h3.oth i hi fun e => hn (k i e)⟩
/-- Behind a step of a store. -/
def SNext (B b l s : Nat) (sl : Value) (D : Dsk) (L : Lg) (m : Nat) (w w' : World) : Prop := StoreAt w' s l m ∧ LgAt w' l b L ∧ DS (Ss b l s sl) B b sl D w w'
theorem SNext.of {B b l s m : Nat} {sl : Value} {D D' : Dsk} {L L' : Lg} {w w' : World} (hs : StoreAt w s l m) (g : LgAt w l b L) (d : DiskAt w b D sl) (h : LNext B b l sl D' L' w w') : SNext B b l s sl D' L' m w w' := by
  obtain ⟨h1, h2⟩ := h
  have h2' := h2
  obtain ⟨sl2, _, _, h5⟩ := h2'
  exact ⟨⟨(h5.oth s (lt_of_block hs.blk) (store_off hs g d)).trans hs.blk⟩, h1, ds_wider h2 fun i hi => Or.inl hi⟩
theorem SNext.stay {B b l s m : Nat} {sl : Value} {D : Dsk} {L : Lg} {w w' : World} (hs : StoreAt w s l m) (g : LgAt w l b L) (d : DiskAt w b D sl) (hB : B ≤ b) (k : Below w.heap.size w w') : SNext B b l s sl D L m w w' :=
  ⟨hs.below k, LogAt.below g k (lt_of_block (LogAt.blk g)), d.ds _ k hB⟩
theorem SNext.up {B b l s m : Nat} {sl : Value} {D : Dsk} {L : Lg} {w w1 w2 : World} (h : SNext B b l s sl D L m w1 w2) (k : Below w.heap.size w w1) (hB : B ≤ w.heap.size) : SNext B b l s sl D L m w w2 := ⟨h.1, h.2.1, DS.upl h.2.2 k hB⟩
theorem SNext.drew {B b l s m : Nat} {sl : Value} {D : Dsk} {L : Lg} {w w2 : World} (h : SNext B b l s sl D L m w w2) : SNext B b l s sl D L m w w2.drew := ⟨h.1.drew, LgAt.drew h.2.1, DS.drew h.2.2⟩
theorem SNext.set {B b l s m : Nat} {sl : Value} {D : Dsk} {L : Lg} {w w2 : World} (h : SNext B b l s sl D L m w w2) (hB : B ≤ s) (k : Nat) : SNext B b l s sl D L k w (w2.setCell ⟨s, 1, none⟩ (.int .i64 (k : Int))) := by
  obtain ⟨h1, h2, sl2, h3, h4, h5⟩ := h
  have hoff := store_off h1 h2 h3
  have hsl : s ≠ l := fun e => hoff (Or.inr e)
  have hsb : ¬ Sd b sl2 s := fun e => hoff (Or.inl e)
  refine ⟨h1.set k, ⟨(Below.heap_setCell w2 ⟨s, 1, none⟩ _ l (fun e => hsl e.symm)).trans (LogAt.blk h2)⟩, sl2, ⟨(Below.heap_setCell w2 ⟨s, 1, none⟩ _ b (fun e => hsb (Or.inl e.symm))).trans h3.blk, ownsRow_same h3.own fun g hg => Below.heap_setCell w2 ⟨s, 1, none⟩ _ g (fun e => hsb (Or.inr (by rw [← show g = s from e]; exact hg))), h3.good⟩, h4, h5.set (Or.inr rfl) hB _⟩
/-- What a step of a store comes to: x is what the log's step comes to. -/
def laid (D : Dsk) (L : Lg) (m : Nat) (x : Dsk × Lg × Int) (elder : Nat) (R : List Rec) : Dsk × Lg × Nat × Int :=
  if allE R = 0 then (if x.2.2 = 0 then (x.1, x.2.1, elder + R.length, 0) else (x.1, x.2.1, m, x.2.2)) else (D, L, m, allE R)
theorem allT_size {R : List Rec} (hr : ∀ r ∈ R, ∀ n ∈ r.nums, I64 n) (hl : R.length ≤ 1048576) : (allT R).size ≤ 1099511627776 := by
  unfold allT
  split
  · rename_i h
    have := encs_max fun r hr' => (encE_good (hr r hr')).1 (allE_zero h r hr')
    rw [str_size]; omega
  · show (0 : Nat) ≤ _; omega
theorem IsRecs.fit {w : World} {v : Value} {L : List Rec} (h : IsRecs w v L) : ∀ r ∈ L, ∀ n ∈ r.nums, I64 n := fun r hr => by
  obtain ⟨i, hi, rfl⟩ := List.mem_iff_getElem.1 hr
  obtain ⟨_, _, _, _, _, _, _, _, g⟩ := h.at i hi
  exact g.ints.1
theorem store_ne {w : World} {s l m b : Nat} {L : Lg} {D : Dsk} {sl : Value} (h : StoreAt w s l m) (g : LgAt w l b L) (d : DiskAt w b D sl) : s ≠ l ∧ s ≠ b := ⟨fun e => store_off h g d (Or.inr e), fun e => store_off h g d (Or.inl (Or.inl e))⟩
set_option maxHeartbeats 4000000 in
theorem lay_append (w : World) (B s l b m : Nat) (elder : Nat) (D : Dsk) (sl : Value) (L : Lg) (v : Value) (R : List Rec) (hR : R.length ≤ 1048576) (hm : elder ≤ 1099511627776) (hf : L.c.Fit) (ht : L.tail.size ≤ 32512) (ho : D.ops + 1000 < 4611686018427387904) (hB : B ≤ b) (hBl : B ≤ l) (hBs : B ≤ s) (hd : DiskAt w b D sl) (hl : LgAt w l b L) (hs : StoreAt w s l m) (h : IsRecs w v R) :
    Calls Tryz.prog 33 #[.pointer (some ⟨s, 0, none⟩), .func (Fn.func 34) #[.pointer (some ⟨l, 0, none⟩)] #[], .int .i64 (elder : Int), v] w fun e w' => e = .returned (.int .i64 (laid D L m (L.append D (allT R)) elder R).2.2.2) ∧ SNext B b l s sl (laid D L m (L.append D (allT R)) elder R).1 (laid D L m (L.append D (allT R)) elder R).2.1 (laid D L m (L.append D (allT R)) elder R).2.2.1 w w' := by
  have hbw : b < w.heap.size := lt_of_block hd.blk
  have hts := allT_size h.fit hR
  have htext := textOf_any w v R hR h
  obtain ⟨a, c, rfl, hlen⟩ := h.slice
  have HST := hid (fun w1 (b1 : Below w.heap.size w w1) => append_any w1 B l b D sl L (allT R) hf ht hts ho hB hBl (hd.below b1) (LogAt.below hl b1 (lt_of_block (LogAt.blk hl))))
  have HX := hid (show laid D L m (L.append D (allT R)) elder R = if allE R = 0 then (if (L.append D (allT R)).2.2 = 0 then ((L.append D (allT R)).1, (L.append D (allT R)).2.1, elder + R.length, 0) else ((L.append D (allT R)).1, (L.append D (allT R)).2.1, m, (L.append D (allT R)).2.2)) else (D, L, m, allE R) from rfl)
  have HD := hid hd
  have HL := hid hl
  have HS := hid hs
  clear hd hl hs h
  generalize allE R = E at *
  generalize allT R = T at *
  generalize L.append D T = x at *
  generalize laid D L m x elder R = y at *
  go_enter Tryz.func33, Tryz.ntmps33
  go_wp2_with fail
  refine htext.mono ?_
  rintro e w1 ⟨rfl, b1⟩
  clear htext
  by_cases h0 : E = 0
  · have HX2 := hid (HX.out.trans (if_pos h0))
    subst h0
    go_wp2_with fail
    refine (HST.out w1 b1).mono ?_
    rintro e w2 ⟨rfl, hN⟩
    have hS := (SNext.of (HS.out.below b1) (LogAt.below HL.out b1 (lt_of_block (LogAt.blk HL.out))) (HD.out.below b1) hN).up b1 (by omega)
    clear hN HX
    by_cases hx : x.2.2 = 0
    · have HY := hid (HX2.out.trans (if_pos hx))
      obtain ⟨c0, c1, cf⟩ := hS.1.cells
      have HS2 := hid (hS.set hBs (elder + R.length))
      rw [hx]
      clear hx HX2
      go_wp2
      go_ret
      rw [HY.out]
      exact ⟨rfl, by simpa using HS2.out⟩
    · have HY := hid (HX2.out.trans (if_neg hx))
      clear HX2
      obtain ⟨F, hF⟩ : ∃ F, F = x.2.2 := ⟨_, rfl⟩
      rw [← hF] at hx ⊢
      have HF := hid hF
      clear hF
      go_wp2
      go_ret
      rw [HY.out]
      exact ⟨by rw [← HF.out]; rfl, hS⟩
  · have HY := hid (HX.out.trans (if_neg h0))
    have hS := SNext.stay HS.out HL.out HD.out hB b1
    go_wp2
    go_ret
    rw [HY.out]
    exact ⟨rfl, hS⟩
set_option maxHeartbeats 4000000 in
theorem lay_checkpoint (w : World) (B s l b m : Nat) (elder : Nat) (D : Dsk) (sl : Value) (L : Lg) (v : Value) (R : List Rec) (hR : R.length ≤ 1048576) (hm : elder ≤ 1099511627776) (hf : L.c.Fit) (ht : L.tail.size ≤ 32512) (ho : D.ops + 1000 < 4611686018427387904) (hB : B ≤ b) (hBl : B ≤ l) (hBs : B ≤ s) (hd : DiskAt w b D sl) (hl : LgAt w l b L) (hs : StoreAt w s l m) (h : IsRecs w v R) :
    Calls Tryz.prog 33 #[.pointer (some ⟨s, 0, none⟩), .func (Fn.func 37) #[.pointer (some ⟨l, 0, none⟩)] #[], .int .i64 (elder : Int), v] w fun e w' => e = .returned (.int .i64 (laid D L m (L.checkpoint D (allT R)) elder R).2.2.2) ∧ SNext B b l s sl (laid D L m (L.checkpoint D (allT R)) elder R).1 (laid D L m (L.checkpoint D (allT R)) elder R).2.1 (laid D L m (L.checkpoint D (allT R)) elder R).2.2.1 w w' := by
  have hbw : b < w.heap.size := lt_of_block hd.blk
  have hts := allT_size h.fit hR
  have htext := textOf_any w v R hR h
  obtain ⟨a, c, rfl, hlen⟩ := h.slice
  have HST := hid (fun w1 (b1 : Below w.heap.size w w1) => checkpoint_any w1 B l b D sl L (allT R) hf hts ho hB hBl (hd.below b1) (LogAt.below hl b1 (lt_of_block (LogAt.blk hl))))
  have HX := hid (show laid D L m (L.checkpoint D (allT R)) elder R = if allE R = 0 then (if (L.checkpoint D (allT R)).2.2 = 0 then ((L.checkpoint D (allT R)).1, (L.checkpoint D (allT R)).2.1, elder + R.length, 0) else ((L.checkpoint D (allT R)).1, (L.checkpoint D (allT R)).2.1, m, (L.checkpoint D (allT R)).2.2)) else (D, L, m, allE R) from rfl)
  have HD := hid hd
  have HL := hid hl
  have HS := hid hs
  clear hd hl hs h
  generalize allE R = E at *
  generalize allT R = T at *
  generalize L.checkpoint D T = x at *
  generalize laid D L m x elder R = y at *
  go_enter Tryz.func33, Tryz.ntmps33
  go_wp2_with fail
  refine htext.mono ?_
  rintro e w1 ⟨rfl, b1⟩
  clear htext
  by_cases h0 : E = 0
  · have HX2 := hid (HX.out.trans (if_pos h0))
    subst h0
    go_wp2_with fail
    refine (HST.out w1 b1).mono ?_
    rintro e w2 ⟨rfl, hN⟩
    have hS := (SNext.of (HS.out.below b1) (LogAt.below HL.out b1 (lt_of_block (LogAt.blk HL.out))) (HD.out.below b1) hN).up b1 (by omega)
    clear hN HX
    by_cases hx : x.2.2 = 0
    · have HY := hid (HX2.out.trans (if_pos hx))
      obtain ⟨c0, c1, cf⟩ := hS.1.cells
      have HS2 := hid (hS.set hBs (elder + R.length))
      rw [hx]
      clear hx HX2
      go_wp2
      go_ret
      rw [HY.out]
      exact ⟨rfl, by simpa using HS2.out⟩
    · have HY := hid (HX2.out.trans (if_neg hx))
      clear HX2
      obtain ⟨F, hF⟩ : ∃ F, F = x.2.2 := ⟨_, rfl⟩
      rw [← hF] at hx ⊢
      have HF := hid hF
      clear hF
      go_wp2
      go_ret
      rw [HY.out]
      exact ⟨by rw [← HF.out]; rfl, hS⟩
  · have HY := hid (HX.out.trans (if_neg h0))
    have hS := SNext.stay HS.out HL.out HD.out hB b1
    go_wp2
    go_ret
    rw [HY.out]
    exact ⟨rfl, hS⟩
set_option maxHeartbeats 4000000 in
theorem Add_any (w : World) (B s l b m : Nat) (D : Dsk) (sl : Value) (L : Lg) (v : Value) (R : List Rec) (hR : R.length ≤ 1048576) (hm : m ≤ 1099511627776) (hf : L.c.Fit) (ht : L.tail.size ≤ 32512) (ho : D.ops + 1000 < 4611686018427387904) (hB : B ≤ b) (hBl : B ≤ l) (hBs : B ≤ s) (hd : DiskAt w b D sl) (hl : LgAt w l b L) (hs : StoreAt w s l m) (h : IsRecs w v R) :
    Calls Tryz.prog 9 #[.pointer (some ⟨s, 0, none⟩), v] w fun e w' => e = .returned (.int .i64 (laid D L m (L.append D (allT R)) m R).2.2.2) ∧ SNext B b l s sl (laid D L m (L.append D (allT R)) m R).1 (laid D L m (L.append D (allT R)) m R).2.1 (laid D L m (L.append D (allT R)) m R).2.2.1 w w' := by
  have hst := lay_append w.drew B s l b m m D sl L v R hR (by omega) hf ht ho hB hBl hBs hd.drew (LgAt.drew hl) hs.drew (h.below (below_dn (Below.refl w.heap.size w) 1))
  have hbw : b < w.heap.size := lt_of_block hd.blk
  have HU := hid (fun (D2 : Dsk) (L2 : Lg) (m2 : Nat) (w2 : World) (h2 : SNext B b l s sl D2 L2 m2 w.drew w2) => h2.up (below_dn (Below.refl w.heap.size w) 1) (by omega))
  obtain ⟨a, c, rfl, hlen⟩ := h.slice
  clear hd hl h
  generalize laid D L m (L.append D (allT R)) m R = x at *
  obtain ⟨c0, c1, cf⟩ := hs.cells
  go_enter Tryz.func9, Tryz.ntmps9
  go_wp2_with fail
  go_region_with ((go_at_call 33; refine hst.mono ?_; rintro e w2 ⟨rfl, hN⟩))
  all_goals
    simp only [List.getElem_toArray, List.getElem_cons_zero, List.getElem_cons_succ, Act.put, List.setIfInBounds_toArray, List.set_cons_succ, List.set_cons_zero]
    have hN1 := HU.out _ _ _ _ hN
    go_wp2
    go_ret
    first
      | exact ⟨rfl, hN1⟩
      | exact ⟨rfl, hN1.drew⟩
set_option maxHeartbeats 4000000 in
theorem Replace_any (w : World) (B s l b m : Nat) (D : Dsk) (sl : Value) (L : Lg) (v : Value) (R : List Rec) (hR : R.length ≤ 1048576) (hm : m ≤ 1099511627776) (hf : L.c.Fit) (ht : L.tail.size ≤ 32512) (ho : D.ops + 1000 < 4611686018427387904) (hB : B ≤ b) (hBl : B ≤ l) (hBs : B ≤ s) (hd : DiskAt w b D sl) (hl : LgAt w l b L) (hs : StoreAt w s l m) (h : IsRecs w v R) :
    Calls Tryz.prog 11 #[.pointer (some ⟨s, 0, none⟩), v] w fun e w' => e = .returned (.int .i64 (laid D L m (L.checkpoint D (allT R)) 0 R).2.2.2) ∧ SNext B b l s sl (laid D L m (L.checkpoint D (allT R)) 0 R).1 (laid D L m (L.checkpoint D (allT R)) 0 R).2.1 (laid D L m (L.checkpoint D (allT R)) 0 R).2.2.1 w w' := by
  have hst := lay_checkpoint w B s l b m 0 D sl L v R hR (by omega) hf ht ho hB hBl hBs hd hl hs h
  obtain ⟨a, c, rfl, hlen⟩ := h.slice
  clear hd hl h
  generalize laid D L m (L.checkpoint D (allT R)) 0 R = x at *
  obtain ⟨c0, c1, cf⟩ := hs.cells
  go_enter Tryz.func11, Tryz.ntmps11
  go_wp2_with fail
  refine hst.mono ?_
  rintro e w2 ⟨rfl, hN⟩
  go_wp2
  go_ret
  exact ⟨rfl, hN⟩
theorem olen_any (w : World) (s l m : Nat) (hs : StoreAt w s l m) : Calls Tryz.prog 24 #[.pointer (some ⟨s, 0, none⟩)] w fun e w' => e = .returned (.int .i64 (m : Int)) ∧ w' = w := by
  obtain ⟨c0, c1, cf⟩ := hs.cells
  go_enter Tryz.func24, Tryz.ntmps24
  go_wp2
  go_ret
  exact ⟨rfl, rfl⟩
theorem oroom_any (w : World) (s l m b : Nat) (L : Lg) (hl : LgAt w l b L) (hf : L.c.len ≤ 32512) (hs : StoreAt w s l m) : Calls Tryz.prog 25 #[.pointer (some ⟨s, 0, none⟩)] w fun e w' => e = .returned (.int .i64 (32512 - L.c.len : Nat)) ∧ w' = w := by
  obtain ⟨c0, c1, cf⟩ := hs.cells
  have hlen := len_any w l b L hl
  have HE := hid (show ((32512 - L.c.len : Nat) : Int) = 32512 - (L.c.len : Int) by omega)
  generalize L.c.len = n at *
  go_enter Tryz.func25, Tryz.ntmps25
  go_wp2_with fail
  refine hlen.mono ?_
  rintro e w1 ⟨rfl, rfl⟩
  go_wp2
  go_ret
  rw [HE.out]
  exact ⟨rfl, rfl⟩
end Go.Proofs.YtjldlmonccgopaaGreat.Rc
/- store: Open. -/
namespace Go.Proofs.YtjldlmonccgopaaGreat.Rc
open Go.RowKit
set_option linter.unusedVariables false
set_option maxRecDepth 100000
set_option linter.unusedSimpArgs false

theorem store_new (w : World) (l m : Nat) : StoreAt (w.alloc (Obj.cells #[.pointer (some ⟨l, 0, none⟩), .int .i64 (m : Int)] 69)) w.heap.size l m := ⟨heap_alloc_last w _⟩
theorem tells_size {V : List ByteArray} {c : Com} {t : ByteArray} (h : Tells V c t) : t.size ≤ 32512 := by
  obtain ⟨h1, h2, _⟩ := Tells.fit h
  have := h1.len
  omega
/-- What Open answers: the text t of the log is records, or not. -/
def Opens (w w' : World) (b : Nat) (c : Com) (t : ByteArray) (e : Ending) : Prop :=
  ∃ (L : List Rec) (n : Nat), Dec (Bs.of t) L n ∧ ((n < t.size ∧ e = .returned (.tuple #[.pointer none, .slice none 0 0, .int .i64 51])) ∨
    (n = t.size ∧ ∃ s l v, e = .returned (.tuple #[.pointer (some ⟨s, 0, none⟩), v, .int .i64 0]) ∧ w.heap.size ≤ s ∧ w.heap.size ≤ l ∧ LogAt w' l b c (tailT t) 0 ∧ StoreAt w' s l L.length ∧ Row w' w.heap.size v L))
set_option maxHeartbeats 4000000 in
theorem oopen_any (w : World) (b : Nat) (D : Dsk) (hz : Sz D.wr) (hd : DiskIs w b D) :
    Calls Tryz.prog 7 #[.pointer (some ⟨b, 0, none⟩)] w fun e w' => (∃ c t, Tells D.wr c t ∧ Opens w w' b c t e) ∧ Below w.heap.size w w' := by
  go_enter Tryz.func7, Tryz.ntmps7
  go_wp2_with fail
  refine (open_any w b D hz hd).mono ?_
  rintro e w1 ⟨⟨l, c, t, rfl, hT, hL, hl⟩, b1⟩
  have hts := tells_size hT
  go_wp2_with fail
  refine (decode_any w1 t (by omega)).mono ?_
  rintro e w2 ⟨v, L, n, rfl, hD, hR, b2⟩
  have hnle : n ≤ t.size := by have := hD.le; rwa [of_len] at this
  have bw := chain2 b1 b2
  have HD := hid hD
  have HR := hid hR
  have hLn := hD.few
  have HT := hid hT
  obtain ⟨a, cc, rfl, hLl⟩ := hR.recs.slice
  have HL := hid hL
  clear hD hR hT hL
  by_cases hn : n < t.size
  · go_wp2
    refine bodyPost_ret (v := .tuple #[.pointer none, .slice none 0 0, .int .i64 51]) (by simp [results, Tryz.results7, go_sem]) rfl ?_
    exact ⟨⟨c, t, HT.out, L, n, HD.out, Or.inl ⟨hn, rfl⟩⟩, bw⟩
  · have hne : n = t.size := by omega
    have ba := (Below.refl w2.heap.size w2).alloc (Nat.le_refl _) (Obj.cells #[.pointer (some ⟨l, 0, none⟩), .int .i64 (L.length : Int)] 69)
    have bw2 := chain2 bw ba
    have hS := store_new w2 l L.length
    have HR2 := hid ((HR.out.below ba))
    have HL2 := hid (LogAt.below (LogAt.below HL.out b2 (lt_of_block (LogAt.blk HL.out))) ba (by have := lt_of_block (LogAt.blk HL.out); have := b2.size; omega))
    have h1 := b1.size
    have h2 := b2.size
    have HNE := hid hne
    clear hne
    go_wp2
    refine bodyPost_ret (v := .tuple #[.pointer (some ⟨w2.heap.size, 0, none⟩), .slice a L.length cc, .int .i64 0]) (by simp [results, Tryz.results7, go_sem]) rfl ?_
    exact ⟨⟨c, t, HT.out, L, n, HD.out, Or.inr ⟨HNE.out, w2.heap.size, l, _, rfl, by omega, by omega, HL2.out, hS, HR2.out.mono h1⟩⟩, bw2⟩
end Go.Proofs.YtjldlmonccgopaaGreat.Rc
/- store: what the laws call. -/
namespace Go.Proofs.YtjldlmonccgopaaGreat.Rc
open Go.RowKit
set_option linter.unusedVariables false
set_option maxRecDepth 100000
set_option linter.unusedSimpArgs false

/-- A log whose text is t on a disk that does what it is told, behind at most n calls. -/
structure Hc (D : Dsk) (L : Lg) (t : ByteArray) (n : Nat) : Prop where
  hl : Hl D L t
  calm : Calm D
  ops : D.ops ≤ 300 * n
  num : L.c.num ≤ n
theorem nP_le {tl s : ByteArray} (h : tl.size + s.size ≤ 33000) : nP (tl ++ s) ≤ 130 := by unfold nP; rw [ByteArray.size_append]; omega
theorem chg_len {c : Com} {tl s : ByteArray} (h : tl.size + s.size ≤ 33000) : (chg c tl s).length ≤ 130 := by
  unfold chg
  split
  · simp
  · simp only [pcs, List.length_map, List.length_range]; exact nP_le h
theorem Hc.append {D : Dsk} {L : Lg} {t s : ByteArray} {n : Nat} (h : Hc D L t n) (hs : t.size + s.size ≤ 32512) (hn : n ≤ 1000000000) : (L.append D s).2.2 = 0 ∧ Hc (L.append D s).1 (L.append D s).2.1 (t ++ s) (n + 1) := by
  obtain ⟨e1, e2, e3, e4⟩ := h.hl.len
  have hnum := h.num
  have hops := h.ops
  have hts : L.tail.size = L.c.len % 256 := by rw [h.hl.tail, tailT_size, e1]
  have hc := append_calm (s := s) h.calm h.hl.er e3 hts (by omega)
  have hl := chg_len (c := L.c) (tl := L.tail) (s := s) (by omega)
  obtain ⟨_, _, ⟨a1, a2, a3, a4⟩ | ⟨a1, _⟩⟩ := h.hl.append (s := s) hs (by omega)
  · refine ⟨a1, a2, hc.2.1, by rw [hc.2.2.1]; omega, ?_⟩
    rw [a4]
    show (L.c.num + 1) % 18446744073709551616 ≤ _
    omega
  · exact absurd hc.1 a1
theorem Hc.check {D : Dsk} {L : Lg} {t s : ByteArray} {n : Nat} (h : Hc D L t n) (hs : s.size ≤ 32512) (hn : n ≤ 1000000000) : (L.checkpoint D s).2.2 = 0 ∧ Hc (L.checkpoint D s).1 (L.checkpoint D s).2.1 s (n + 1) := by
  have hnum := h.num
  have hops := h.ops
  have hc := checkpoint_calm (s := s) h.calm h.hl.er hs
  obtain ⟨_, _, ⟨a1, a2, a3, a4⟩ | ⟨a1, _⟩⟩ := h.hl.checkpoint (s := s) hs (by omega)
  · exact ⟨a1, a2, hc.2.1, by have := hc.2.2; omega, by rw [a4]; omega⟩
  · exact absurd hc.1 a1
theorem Hc.full {D : Dsk} {L : Lg} {t s : ByteArray} {n : Nat} (h : Hc D L t n) (hs : 32512 < t.size + s.size) : L.append D s = (D, L, 50) := append_full h.hl hs
theorem Hc.fit {D : Dsk} {L : Lg} {t : ByteArray} {n : Nat} (h : Hc D L t n) (hn : n ≤ 1000000000) : L.c.Fit ∧ L.tail.size ≤ 32512 ∧ D.ops + 1000 < 4611686018427387904 ∧ L.c.len = t.size ∧ t.size ≤ 32512 := by
  obtain ⟨e1, e2, e3, e4⟩ := h.hl.len
  have hops := h.ops
  exact ⟨e3, e4, by omega, e1, e2⟩
theorem hc_new : Hc Dsk.new ⟨com0, tailT ByteArray.empty, 0⟩ ByteArray.empty 0 := ⟨⟨rfl, ok_new, rfl, Dsk.good_new, sz_new⟩, calm_new, Nat.le_refl _, Nat.le_refl _⟩
/-- What a log tells that is opened where one lies as it should. -/
theorem Hc.tells {D : Dsk} {L : Lg} {t t0 : ByteArray} {c0 : Com} {n : Nat} (h : Hc D L t n) (k : Tells D.wr c0 t0) : t0 = t ∧ c0 = L.c ∧ Hc D ⟨c0, tailT t0, 0⟩ t n := by
  obtain ⟨e1, e2, e3⟩ := open_hl h.hl.ok h.hl.good h.hl.sz k
  exact ⟨e1, e2, e3, h.calm, h.ops, by rw [e2]; exact h.num⟩
/-- A disk in b, a log in l and a store in s; all below B lies as it lay in w0. -/
structure So (B : Nat) (w0 w : World) (b l s : Nat) (D : Dsk) (L : Lg) (m : Nat) : Prop where
  st : St B w0 w b l D L
  sat : StoreAt w s l m
  hs : B ≤ s
theorem So.next {B : Nat} {w0 w w' : World} {b l s m m' : Nat} {D D' : Dsk} {L L' : Lg} {sl : Value} (h : So B w0 w b l s D L m) (k : SNext B b l s sl D' L' m' w w') : So B w0 w' b l s D' L' m' := by
  obtain ⟨h1, h2, sl', h3, _, h5⟩ := k
  exact ⟨⟨⟨sl', h3⟩, h2, h.st.bel.trans h5.bel, h.st.hb, h.st.hl⟩, h1, h.hs⟩
theorem So.below {B : Nat} {w0 w w' : World} {b l s m : Nat} {D : Dsk} {L : Lg} (h : So B w0 w b l s D L m) (k : Below w.heap.size w w') : So B w0 w' b l s D L m := ⟨h.st.below k, h.sat.below k, h.hs⟩
theorem St.low {B B1 : Nat} {w0 w w' : World} {b l : Nat} {D : Dsk} {L : Lg} (h : St B w0 w b l D L) (hB : B1 ≤ w.heap.size) (hb : b < B1) (hc : ∀ sl g, DiskAt w b D sl → sl.ownBlock = some g → g < B1) (hl : l < B1) (hBB : B ≤ B1) (k : Below B1 w w') : St B w0 w' b l D L := by
  obtain ⟨sl, hd⟩ := h.disk
  refine ⟨⟨sl, (k.block b hb).trans hd.blk, ownsRow_same hd.own fun g hg => k.block g (hc sl g hd hg), hd.good⟩, LogAt.below h.log k hl, h.bel.trans (k.mono hBB), h.hb, h.hl⟩
theorem o_add {B : Nat} {w0 w : World} {b l s m n : Nat} {D : Dsk} {L : Lg} {t : ByteArray} (h : So B w0 w b l s D L m) (c : Hc D L t n) (hn : n ≤ 1000000000) (hm : m ≤ 1099511627776) (v : Value) (R : List Rec) (hR : R.length ≤ 1048576) (hv : IsRecs w v R) :
    Calls Tryz.prog 9 #[.pointer (some ⟨s, 0, none⟩), v] w fun e w' => e = .returned (.int .i64 (laid D L m (L.append D (allT R)) m R).2.2.2) ∧ So B w0 w' b l s (laid D L m (L.append D (allT R)) m R).1 (laid D L m (L.append D (allT R)) m R).2.1 (laid D L m (L.append D (allT R)) m R).2.2.1 := by
  obtain ⟨sl, hd⟩ := h.st.disk
  obtain ⟨f1, f2, f3, _⟩ := c.fit hn
  exact (Add_any w B s l b m D sl L v R hR hm f1 f2 f3 h.st.hb h.st.hl h.hs hd h.st.log h.sat hv).mono fun e w' ⟨h1, h2⟩ => ⟨h1, h.next h2⟩
theorem o_replace {B : Nat} {w0 w : World} {b l s m n : Nat} {D : Dsk} {L : Lg} {t : ByteArray} (h : So B w0 w b l s D L m) (c : Hc D L t n) (hn : n ≤ 1000000000) (hm : m ≤ 1099511627776) (v : Value) (R : List Rec) (hR : R.length ≤ 1048576) (hv : IsRecs w v R) :
    Calls Tryz.prog 11 #[.pointer (some ⟨s, 0, none⟩), v] w fun e w' => e = .returned (.int .i64 (laid D L m (L.checkpoint D (allT R)) 0 R).2.2.2) ∧ So B w0 w' b l s (laid D L m (L.checkpoint D (allT R)) 0 R).1 (laid D L m (L.checkpoint D (allT R)) 0 R).2.1 (laid D L m (L.checkpoint D (allT R)) 0 R).2.2.1 := by
  obtain ⟨sl, hd⟩ := h.st.disk
  obtain ⟨f1, f2, f3, _⟩ := c.fit hn
  exact (Replace_any w B s l b m D sl L v R hR hm f1 f2 f3 h.st.hb h.st.hl h.hs hd h.st.log h.sat hv).mono fun e w' ⟨h1, h2⟩ => ⟨h1, h.next h2⟩
theorem o_len {B : Nat} {w0 w : World} {b l s m : Nat} {D : Dsk} {L : Lg} (h : So B w0 w b l s D L m) : Calls Tryz.prog 24 #[.pointer (some ⟨s, 0, none⟩)] w fun e w' => e = .returned (.int .i64 (m : Int)) ∧ w' = w := olen_any w s l m h.sat
theorem o_room {B : Nat} {w0 w : World} {b l s m n : Nat} {D : Dsk} {L : Lg} {t : ByteArray} (h : So B w0 w b l s D L m) (c : Hc D L t n) (hn : n ≤ 1000000000) : Calls Tryz.prog 25 #[.pointer (some ⟨s, 0, none⟩)] w fun e w' => e = .returned (.int .i64 (32512 - t.size : Nat)) ∧ w' = w := by
  obtain ⟨f1, f2, f3, f4, f5⟩ := c.fit hn
  rw [← f4]
  exact oroom_any w s l m b L h.st.log f1.len h.sat
/-- A new disk, and a store of it. -/
theorem o_first (w0 w : World) (B b : Nat) (hB : B ≤ b) (hd : DiskIs w b Dsk.new) (hbel : Below B w0 w) :
    Calls Tryz.prog 7 #[.pointer (some ⟨b, 0, none⟩)] w fun e w' => (∃ s l v, e = .returned (.tuple #[.pointer (some ⟨s, 0, none⟩), v, .int .i64 0]) ∧ IsRecs w' v [] ∧ So B w0 w' b l s Dsk.new ⟨com0, tailT ByteArray.empty, 0⟩ 0) ∧ Below w.heap.size w w' := by
  have hlt : B ≤ w.heap.size := by obtain ⟨sl, hd⟩ := hd; have := lt_of_block hd.blk; omega
  refine (oopen_any w b Dsk.new (sz_new.now Dsk.good_new) hd).mono ?_
  rintro e w' ⟨⟨c, t, hT, L, n, hD, h⟩, hb⟩
  obtain ⟨rfl, rfl, k⟩ := open_hl ok_new Dsk.good_new sz_new hT
  have hn : n = 0 := by have := hD.le; simpa [of_len] using this
  have hL : L = [] := by have := hD.few; rw [hn] at this; exact List.eq_nil_of_length_eq_zero (by omega)
  subst hn hL
  rcases h with ⟨h1, _⟩ | ⟨_, s, l, v, h1, h2, h3, h4, h5, h6⟩
  · simp at h1
  · exact ⟨⟨s, l, v, h1, h6.recs, ⟨hd.below hb, h4, hbel.trans (hb.mono hlt), hB, by omega⟩, h5, by omega⟩, hb⟩
end Go.Proofs.YtjldlmonccgopaaGreat.Rc
