/- What the script's calls make of both sides. -/
import Derived.Test.YtjldlmonccgopaaGreatPk31
import Derived.Test.YtjldlmonccgopaaGreatPk29
namespace Go.Proofs.YtjldlmonccgopaaGreat
open Go.RowKit
set_option linter.unusedVariables false
set_option maxRecDepth 100000
set_option linter.unusedSimpArgs false

theorem vps_ok {a : Nat} {t : ByteArray} {f : Nat} (ha : a ≤ 1) (ht : t.size ≤ 32512) : ∀ x ∈ vps a t f, x.1 < 256 ∧ x.2.size ≤ 256 := fun x hx => by
  simp only [vps, List.mem_map, List.mem_range] at hx
  obtain ⟨j, hj, rfl⟩ := hx
  have hn : nP t ≤ 127 := by unfold nP; omega
  exact ⟨by simp only; omega, pc_size _ _⟩
/-- What holds of both disks at all times. -/
structure Fine (D : Dsk) : Prop where
  inv : Inv D
  sz : All Sz D
  good : D.Good
theorem Fine.lay {D : Dsk} (h : Fine D) {xs : List (Nat × ByteArray)} {i : Nat} {s : ByteArray} (hx : ∀ x ∈ xs, x.1 < 256 ∧ x.2.size ≤ 256) (hi : i < 256) (hs : s.size ≤ 256) : Fine (D.lay xs i s).1 ∧ (D.lay xs i s).1.ops ≤ D.ops + xs.length + 3 := by
  have g1 := Inv.wrs xs h.inv h.good
  have o1 := wrs_ops xs D
  have o2 := (wrs D xs).1.sync_ops
  have o3 := (wrs D xs).1.sync.1.write_ops i s
  have o4 := ((wrs D xs).1.sync.1.write i s).1.sync_ops
  have z := lay_sz (i := i) (t := s) h.sz h.good hx hi hs
  have g2 := g1.2.sync
  have g3 := g2.write (i : Int) s
  have i2 := g1.1.sync
  have i3 := i2.write g2 (i : Int) s
  refine ⟨⟨?_, z, ?_⟩, ?_⟩
  · unfold Dsk.lay
    (repeat' split)
    · exact g1.1
    · exact i2
    · exact i3
    · exact i3.sync
  · unfold Dsk.lay
    (repeat' split)
    · exact g1.2
    · exact g2
    · exact g3
    · exact g3.sync
  · unfold Dsk.lay
    (repeat' split) <;> omega
theorem Fine.bec {D : Dsk} (h : Fine D) {t0 : ByteArray} {n a0 : Nat} {er : Int} {t : ByteArray} {a f : Nat} (ha : a ≤ 1) : Fine (bec D t0 n a0 er t a f).D ∧ (bec D t0 n a0 er t a f).D.ops ≤ D.ops + 200 := by
  unfold Go.Proofs.YtjldlmonccgopaaGreat.bec
  split
  · exact ⟨h, by simp only; omega⟩
  · split
    · exact ⟨h, by simp only; omega⟩
    · rename_i hx
      have hk := h.lay (xs := vps a t f) (i := (comV n a t).num % 2) (s := comT (comV n a t)) (vps_ok ha (by omega)) (by omega) (by rw [comT_size]; omega)
      have hl : (vps a t f).length ≤ 127 := by rw [vps_len]; unfold nP; omega
      split
      · exact ⟨hk.1, by simp only; omega⟩
      · exact ⟨hk.1, by simp only; omega⟩
theorem Fine.write {D : Dsk} (h : Fine D) (i : Int) (s : ByteArray) : Fine (D.write i s).1 := by
  refine ⟨h.inv.write h.good i s, ?_, h.good.write i s⟩
  by_cases hi : i < 0 ∨ 256 ≤ i
  · rw [ewrite_out D i s hi]; exact h.sz
  · by_cases hs : 256 < s.size
    · have : D.write i s = (D, 41) := by unfold Dsk.write; rw [if_neg hi, if_pos hs]
      rw [this]; exact h.sz
    · obtain ⟨j, rfl⟩ : ∃ j : Nat, i = (j : Int) := ⟨i.toNat, by omega⟩
      exact h.sz.write (Q := Sz) h.good (by omega) (by omega) (fun _ k => k) (fun V hV k => sz_set k (by rw [hV]; omega) (by omega))
theorem Fine.crash {D : Dsk} (h : Fine D) (keep : Nat) : Fine (D.crash keep) := ⟨h.inv.crash keep, h.sz.crash h.good keep, h.good.crash keep⟩
theorem Fine.power {D : Dsk} (h : Fine D) : Fine D.power := ⟨h.inv, h.sz.power, h.good.power⟩
theorem Fine.cut {D : Dsk} (h : Fine D) (n : Int) (keep : Nat) (hn : n < 9223372036854775808) (hk : keep < 18446744073709551616) : Fine (D.cut n keep) := ⟨h.inv, h.sz, h.good.cut n keep hn hk⟩
theorem Fine.fail {D : Dsk} (h : Fine D) (n : Int) (hn : n < 9223372036854775808) : Fine (D.fail n) := ⟨h.inv, h.sz, h.good.fail n hn⟩
theorem Fine.new : Fine Dsk.new := ⟨Inv.new, sz_new, Dsk.good_new⟩
/-- Both sides alike. -/
structure Pb (B : Nat) (w0 w : World) (b l c r : Nat) (D : Dsk) (t : ByteArray) (n a : Nat) (er : Int) : Prop where
  pr : Pr B w0 w b l c r D (VL t n a er) D t n a er
  fine : Fine D
  fit : VFit t n a
theorem VFit.com {t : ByteArray} {n a : Nat} (h : VFit t n a) : (⟨n, a, t.size, sumOf t⟩ : Com).Fit := ⟨h.n, h.a, h.t, sum_lt t⟩
theorem tail_le (t : ByteArray) : (tailT t).size ≤ 32512 := by rw [tailT_size]; omega
section
variable {B : Nat} {w0 w : World} {b l c r : Nat} {D : Dsk} {t : ByteArray} {n a : Nat} {er : Int}
theorem f_append1 (h : Pb B w0 w b l c r D t n a er) (s : ByteArray) (hs : s.size ≤ 1099511627776) (ho : D.ops + 1000 < 4611686018427387904) :
    Calls Tryz.prog 34 #[.pointer (some ⟨l, 0, none⟩), .string s] w fun e w' => e = .returned (.int .i64 (vapp D t n a er s).E) ∧ Pr B w0 w' b l c r (vapp D t n a er s).D (VL (vapp D t n a er s).t (vapp D t n a er s).n (vapp D t n a er s).a (vapp D t n a er s).er) D t n a er ∧ Kt w w' := by
  obtain ⟨sl, vw, vi, vc, cl, fk, keep, h2⟩ := h.pr.two
  have k := append_any w B l b D sl (VL t n a er) s h.fit.com (tail_le t) hs ho h.pr.hb h.pr.hl h2.d h.pr.log
  rw [vapp_is] at k
  exact k.mono fun e w' ⟨h1, h3⟩ => ⟨h1, h.pr.lnext h2 h3, h.pr.lkt h2 h3⟩
theorem f_check1 (h : Pb B w0 w b l c r D t n a er) (s : ByteArray) (hs : s.size ≤ 1099511627776) (ho : D.ops + 1000 < 4611686018427387904) :
    Calls Tryz.prog 37 #[.pointer (some ⟨l, 0, none⟩), .string s] w fun e w' => e = .returned (.int .i64 (vchk D t n a er s).E) ∧ Pr B w0 w' b l c r (vchk D t n a er s).D (VL (vchk D t n a er s).t (vchk D t n a er s).n (vchk D t n a er s).a (vchk D t n a er s).er) D t n a er ∧ Kt w w' := by
  obtain ⟨sl, vw, vi, vc, cl, fk, keep, h2⟩ := h.pr.two
  have k := checkpoint_any w B l b D sl (VL t n a er) s h.fit.com hs ho h.pr.hb h.pr.hl h2.d h.pr.log
  rw [vchk_is] at k
  exact k.mono fun e w' ⟨h1, h3⟩ => ⟨h1, h.pr.lnext h2 h3, h.pr.lkt h2 h3⟩
theorem f_append2 {D1 : Dsk} {L1 : Lg} (h : Pr B w0 w b l c r D1 L1 D t n a er) (hf : Fine D) (hv : VFit t n a) (s : ByteArray) (hs : s.size ≤ 1099511627776) (ho : D.ops + 1000 < 4611686018427387904) :
    Calls Tryz.prog 36 #[.pointer (some ⟨r, 0, none⟩), .string s] w fun e w' => e = .returned (.int .i64 (vapp D t n a er s).E) ∧ Pr B w0 w' b l c r D1 L1 (vapp D t n a er s).D (vapp D t n a er s).t (vapp D t n a er s).n (vapp D t n a er s).a (vapp D t n a er s).er ∧ Kt w w' := by
  obtain ⟨sl, vw, vi, vc, cl, fk, keep, h2⟩ := h.two
  exact (vappend_any w B r c D vw vi vc cl fk keep t n a er s h.hc h.hr hv hs ho h2.r hf.inv h.vat).mono fun e w' ⟨h1, h3⟩ => ⟨h1, h.vnext h2 h3, h.vkt h2 h3⟩
theorem f_check2 {D1 : Dsk} {L1 : Lg} (h : Pr B w0 w b l c r D1 L1 D t n a er) (hf : Fine D) (hv : VFit t n a) (s : ByteArray) (hs : s.size ≤ 1099511627776) (ho : D.ops + 1000 < 4611686018427387904) :
    Calls Tryz.prog 38 #[.pointer (some ⟨r, 0, none⟩), .string s] w fun e w' => e = .returned (.int .i64 (vchk D t n a er s).E) ∧ Pr B w0 w' b l c r D1 L1 (vchk D t n a er s).D (vchk D t n a er s).t (vchk D t n a er s).n (vchk D t n a er s).a (vchk D t n a er s).er ∧ Kt w w' := by
  obtain ⟨sl, vw, vi, vc, cl, fk, keep, h2⟩ := h.two
  exact (vcheck_any w B r c D vw vi vc cl fk keep t n a er s h.hc h.hr hv hs ho h2.r hf.inv h.vat).mono fun e w' ⟨h1, h3⟩ => ⟨h1, h.vnext h2 h3, h.vkt h2 h3⟩
/-- Behind both calls. -/
theorem Pb.app (h : Pb B w0 w b l c r D t n a er) {w' : World} {s : ByteArray} (k : Pr B w0 w' b l c r (vapp D t n a er s).D (VL (vapp D t n a er s).t (vapp D t n a er s).n (vapp D t n a er s).a (vapp D t n a er s).er) (vapp D t n a er s).D (vapp D t n a er s).t (vapp D t n a er s).n (vapp D t n a er s).a (vapp D t n a er s).er) : Pb B w0 w' b l c r (vapp D t n a er s).D (vapp D t n a er s).t (vapp D t n a er s).n (vapp D t n a er s).a (vapp D t n a er s).er ∧ (vapp D t n a er s).D.ops ≤ D.ops + 200 :=
  ⟨⟨k, (h.fine.bec h.fit.a).1, bec_fit h.fit h.fit.a⟩, (h.fine.bec h.fit.a).2⟩
theorem Pb.chk (h : Pb B w0 w b l c r D t n a er) {w' : World} {s : ByteArray} (k : Pr B w0 w' b l c r (vchk D t n a er s).D (VL (vchk D t n a er s).t (vchk D t n a er s).n (vchk D t n a er s).a (vchk D t n a er s).er) (vchk D t n a er s).D (vchk D t n a er s).t (vchk D t n a er s).n (vchk D t n a er s).a (vchk D t n a er s).er) : Pb B w0 w' b l c r (vchk D t n a er s).D (vchk D t n a er s).t (vchk D t n a er s).n (vchk D t n a er s).a (vchk D t n a er s).er ∧ (vchk D t n a er s).D.ops ≤ D.ops + 200 :=
  ⟨⟨k, (h.fine.bec (by omega)).1, bec_fit h.fit (by omega)⟩, (h.fine.bec (by omega)).2⟩
theorem Pb.below (h : Pb B w0 w b l c r D t n a er) {w' : World} (k : Below w.heap.size w w') : Pb B w0 w' b l c r D t n a er := ⟨h.pr.below k, h.fine, h.fit⟩
theorem f_cut1 {E : Dsk} (h : Pr B w0 w b l c r D (VL t n a er) E t n a er) (i : Int) (keep : Nat) (hi : -9223372036854775808 ≤ i ∧ i < 9223372036854775808) (hk : keep < 18446744073709551616) :
    Calls Tryz.prog 13 #[.pointer (some ⟨b, 0, none⟩), .int .i64 i, .int .u64 (keep : Int)] w fun e w' => e = .returned (.tuple #[]) ∧ Pr B w0 w' b l c r (D.cut i keep) (VL t n a er) E t n a er ∧ Kt w w' := by
  obtain ⟨sl, vw, vi, vc, cl, fk, kp, h2⟩ := h.two
  exact (cut_at w B b D sl i keep hi hk h.hb h2.d).mono fun e w' ⟨h1, h3⟩ => ⟨h1, h.dnext h2 h3, Pr.dkt h2 h3⟩
theorem f_cut2 {D1 : Dsk} (h : Pr B w0 w b l c r D1 (VL t n a er) D t n a er) (i : Int) (keep : Nat) (hi : -9223372036854775808 ≤ i ∧ i < 9223372036854775808) (hk : keep < 18446744073709551616) :
    Calls Tryz.prog 14 #[.pointer (some ⟨c, 0, none⟩), .int .i64 i, .int .u64 (keep : Int)] w fun e w' => e = .returned (.tuple #[]) ∧ Pr B w0 w' b l c r D1 (VL t n a er) (D.cut i keep) t n a er ∧ Kt w w' := by
  obtain ⟨sl, vw, vi, vc, cl, fk, kp, h2⟩ := h.two
  exact (ecut_any w B c D vw vi vc cl fk kp i keep hi hk h.hc h2.r).mono fun e w' ⟨h1, h3⟩ => ⟨h1, h.rnext h2 h3, Pr.rkt h2 h3⟩
theorem f_fail1 {E : Dsk} (h : Pr B w0 w b l c r D (VL t n a er) E t n a er) (i : Int) (hi : -9223372036854775808 ≤ i ∧ i < 9223372036854775808) :
    Calls Tryz.prog 15 #[.pointer (some ⟨b, 0, none⟩), .int .i64 i] w fun e w' => e = .returned (.tuple #[]) ∧ Pr B w0 w' b l c r (D.fail i) (VL t n a er) E t n a er ∧ Kt w w' := by
  obtain ⟨sl, vw, vi, vc, cl, fk, kp, h2⟩ := h.two
  exact (fail_at w B b D sl i hi h.hb h2.d).mono fun e w' ⟨h1, h3⟩ => ⟨h1, h.dnext h2 h3, Pr.dkt h2 h3⟩
theorem f_fail2 {D1 : Dsk} (h : Pr B w0 w b l c r D1 (VL t n a er) D t n a er) (i : Int) (hi : -9223372036854775808 ≤ i ∧ i < 9223372036854775808) :
    Calls Tryz.prog 16 #[.pointer (some ⟨c, 0, none⟩), .int .i64 i] w fun e w' => e = .returned (.tuple #[]) ∧ Pr B w0 w' b l c r D1 (VL t n a er) (D.fail i) t n a er ∧ Kt w w' := by
  obtain ⟨sl, vw, vi, vc, cl, fk, kp, h2⟩ := h.two
  exact (efail_any w B c D vw vi vc cl fk kp i hi h.hc h2.r).mono fun e w' ⟨h1, h3⟩ => ⟨h1, h.rnext h2 h3, Pr.rkt h2 h3⟩
theorem f_crash1 {E : Dsk} (h : Pr B w0 w b l c r D (VL t n a er) E t n a er) (keep : Nat) (hk : keep < 18446744073709551616) :
    Calls Tryz.prog 17 #[.pointer (some ⟨b, 0, none⟩), .int .u64 (keep : Int)] w fun e w' => e = .returned (.tuple #[]) ∧ Pr B w0 w' b l c r (D.crash keep) (VL t n a er) E t n a er ∧ Kt w w' := by
  obtain ⟨sl, vw, vi, vc, cl, fk, kp, h2⟩ := h.two
  exact (crash_at w B b D sl keep hk h.hb h2.d).mono fun e w' ⟨h1, h3⟩ => ⟨h1, h.dnext h2 h3, Pr.dkt h2 h3⟩
theorem f_crash2 {D1 : Dsk} (h : Pr B w0 w b l c r D1 (VL t n a er) D t n a er) (hv : Inv D) (keep : Nat) (hk : keep < 18446744073709551616) :
    Calls Tryz.prog 18 #[.pointer (some ⟨c, 0, none⟩), .int .u64 (keep : Int)] w fun e w' => e = .returned (.tuple #[]) ∧ Pr B w0 w' b l c r D1 (VL t n a er) (D.crash keep) t n a er ∧ Kt w w' := by
  obtain ⟨sl, vw, vi, vc, cl, fk, kp, h2⟩ := h.two
  exact (ecrash_any w B c D vw vi vc cl fk kp keep hk h.hc h2.r hv).mono fun e w' ⟨h1, h3⟩ => ⟨h1, h.rnext h2 h3, Pr.rkt h2 h3⟩
theorem f_power1 {E : Dsk} (h : Pr B w0 w b l c r D (VL t n a er) E t n a er) :
    Calls Tryz.prog 21 #[.pointer (some ⟨b, 0, none⟩)] w fun e w' => e = .returned (.tuple #[]) ∧ Pr B w0 w' b l c r D.power (VL t n a er) E t n a er ∧ Kt w w' := by
  obtain ⟨sl, vw, vi, vc, cl, fk, kp, h2⟩ := h.two
  exact (power_at w B b D sl h.hb h2.d).mono fun e w' ⟨h1, h3⟩ => ⟨h1, h.dnext h2 h3, Pr.dkt h2 h3⟩
theorem f_power2 {D1 : Dsk} (h : Pr B w0 w b l c r D1 (VL t n a er) D t n a er) :
    Calls Tryz.prog 22 #[.pointer (some ⟨c, 0, none⟩)] w fun e w' => e = .returned (.tuple #[]) ∧ Pr B w0 w' b l c r D1 (VL t n a er) D.power t n a er ∧ Kt w w' := by
  obtain ⟨sl, vw, vi, vc, cl, fk, kp, h2⟩ := h.two
  exact (epower_any w B c D vw vi vc cl fk kp h.hc h2.r).mono fun e w' ⟨h1, h3⟩ => ⟨h1, h.rnext h2 h3, Pr.rkt h2 h3⟩
theorem f_write1 {E : Dsk} (h : Pr B w0 w b l c r D (VL t n a er) E t n a er) (i : Int) (s : ByteArray) (ho : D.ops < 4611686018427387904) :
    Calls Tryz.prog 19 #[.pointer (some ⟨b, 0, none⟩), .int .i64 i, .string s] w fun e w' => e = .returned (.int .i64 (D.write i s).2) ∧ Pr B w0 w' b l c r (D.write i s).1 (VL t n a er) E t n a er ∧ Kt w w' := by
  obtain ⟨sl, vw, vi, vc, cl, fk, kp, h2⟩ := h.two
  exact (write_at w B b D sl i s ho h.hb h2.d).mono fun e w' ⟨h1, h3⟩ => ⟨h1, h.dnext h2 h3, Pr.dkt h2 h3⟩
theorem f_write2 {D1 : Dsk} (h : Pr B w0 w b l c r D1 (VL t n a er) D t n a er) (hv : Inv D) (i : Int) (s : ByteArray) (ho : D.ops < 4611686018427387904) :
    Calls Tryz.prog 20 #[.pointer (some ⟨c, 0, none⟩), .int .i64 i, .string s] w fun e w' => e = .returned (.int .i64 (D.write i s).2) ∧ Pr B w0 w' b l c r D1 (VL t n a er) (D.write i s).1 t n a er ∧ Kt w w' := by
  obtain ⟨sl, vw, vi, vc, cl, fk, kp, h2⟩ := h.two
  exact (ewrite_any w B c D vw vi vc cl fk kp i s ho h.hc h2.r hv).mono fun e w' ⟨h1, h3⟩ => ⟨h1, h.rnext h2 h3, Pr.rkt h2 h3⟩
theorem tells_vl {V : List ByteArray} {k : Com} {u : ByteArray} (h : Tells V k u) : (⟨k, tailT u, 0⟩ : Lg) = VL u k.num k.area 0 ∧ VFit u k.num k.area := by
  obtain ⟨h1, h2, _, h4⟩ := Tells.fit h
  refine ⟨?_, by rw [h2]; exact h1.len, h1.num, h1.area⟩
  unfold VL
  obtain ⟨a1, a2, a3, a4⟩ := k
  simp only at h2 h4 ⊢
  rw [h2, h4]
/-- Both are opened. -/
theorem f_open1 (h : Pb B w0 w b l c r D t n a er) :
    Calls Tryz.prog 29 #[.pointer (some ⟨b, 0, none⟩)] w fun e w' => ∃ l' k u, e = .returned (.tuple #[.pointer (some ⟨l', 0, none⟩), .string u, .int .i64 0]) ∧ Tells D.wr k u ∧ Pr B w0 w' b l' c r D (VL u k.num k.area 0) D t n a er ∧ Kt w w' := by
  obtain ⟨sl, vw, vi, vc, cl, fk, kp, h2⟩ := h.pr.two
  have := lt_of_block h2.d.blk
  have hB := h.pr.hb
  refine (open_any w b D (h.fine.sz.now h.fine.good) ⟨sl, h2.d⟩).mono ?_
  rintro e w' ⟨⟨l', k, u, h3, h4, h5, h6⟩, h7⟩
  have hp := h.pr.below h7
  refine ⟨l', k, u, h3, h4, ⟨hp.two, ?_, hp.vat, hp.bel, hp.hb, by omega, hp.hc, hp.hr⟩, Kt.of_below h7⟩
  rw [← (tells_vl h4).1]; exact h5
theorem f_open2 {L1 : Lg} {l1 : Nat} (h : Pr B w0 w b l1 c r D L1 D t n a er) (hf : Fine D) :
    Calls Tryz.prog 31 #[.pointer (some ⟨c, 0, none⟩)] w fun e w' => ∃ r' k u, e = .returned (.tuple #[.pointer (some ⟨r', 0, none⟩), .string u, .int .i64 0]) ∧ Tells D.wr k u ∧ Pr B w0 w' b l1 c r' D L1 D u k.num k.area 0 ∧ Kt w w' := by
  obtain ⟨sl, vw, vi, vc, cl, fk, kp, h2⟩ := h.two
  have := lt_of_block h2.d.blk
  have hB := h.hb
  refine (vopen_any w c D (hf.sz.now hf.good) ⟨vw, vi, vc, cl, fk, kp, h2.r⟩).mono ?_
  rintro e w' ⟨⟨r', k, u, h3, h4, h5, h6⟩, h7⟩
  have hp := h.below h7
  exact ⟨r', k, u, h3, h4, ⟨hp.two, hp.log, h5, hp.bel, hp.hb, hp.hl, hp.hc, by omega⟩, Kt.of_below h7⟩
end
end Go.Proofs.YtjldlmonccgopaaGreat
