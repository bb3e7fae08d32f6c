/- wal: what the laws call, over a disk and a log in memory. -/
import Derived.Test.YthcefjkpiaecjaaWHealth
namespace Go.Proofs.Ythcefjkpiaecjaa
open Go.RowKit
set_option linter.unusedVariables false
set_option maxRecDepth 100000
set_option linter.unusedSimpArgs false

/-- A disk in block b and a log of it in block l; all that lay below B in w0 lies as it lay. -/
structure St (B : Nat) (w0 w : World) (b l : Nat) (D : Dsk) (L : Lg) : Prop where
  disk : ∃ sl, DiskAt w b D sl
  log : LgAt w l b L
  bel : Below B w0 w
  hb : B ≤ b
  hl : B ≤ l
theorem St.next {B : Nat} {w0 w w' : World} {b l : Nat} {D D' : Dsk} {L L' : Lg} {sl : Value} (h : St B w0 w b l D L) (k : LNext B b l sl D' L' w w') : St B w0 w' b l D' L' := by
  obtain ⟨h1, sl', h2, _, h3⟩ := k
  exact ⟨⟨sl', h2⟩, h1, h.bel.trans h3.bel, h.hb, h.hl⟩
theorem St.dnext {B : Nat} {w0 w w' : World} {b l : Nat} {D D' : Dsk} {L : Lg} {sl : Value} (h : St B w0 w b l D L) (hd : DiskAt w b D sl) (k : DNext B b sl D' w w') : St B w0 w' b l D' L := by
  obtain ⟨sl', h2, _, h3⟩ := k
  exact ⟨⟨sl', h2⟩, ⟨(h3.oth l (lt_of_block (LogAt.blk h.log)) (log_off h.log hd)).trans (LogAt.blk h.log)⟩, h.bel.trans h3.bel, h.hb, h.hl⟩
theorem St.below {B : Nat} {w0 w w' : World} {b l : Nat} {D : Dsk} {L : Lg} (h : St B w0 w b l D L) (k : Below w.heap.size w w') : St B w0 w' b l D L := by
  obtain ⟨sl, hd⟩ := h.disk
  exact ⟨⟨sl, hd.below k⟩, LogAt.below h.log k (lt_of_block (LogAt.blk h.log)), h.bel.trans (k.mono (by have := lt_of_block hd.blk; have := h.hb; omega)), h.hb, h.hl⟩
theorem s_append {B : Nat} {w0 w : World} {b l : Nat} {D : Dsk} {L : Lg} (h : St B w0 w b l D L) (s : ByteArray) (hf : L.c.Fit) (ht : L.tail.size ≤ 32512) (hs : s.size ≤ 1099511627776) (ho : D.ops + 1000 < 4611686018427387904) :
    Calls Try.prog 9 #[.pointer (some ⟨l, 0, none⟩), .string s] w fun e w' => e = .returned (.int .i64 (L.append D s).2.2) ∧ St B w0 w' b l (L.append D s).1 (L.append D s).2.1 := by
  obtain ⟨sl, hd⟩ := h.disk
  exact (append_any w B l b D sl L s hf ht hs ho h.hb h.hl hd h.log).mono fun e w' ⟨h1, h2⟩ => ⟨h1, h.next h2⟩
theorem s_check {B : Nat} {w0 w : World} {b l : Nat} {D : Dsk} {L : Lg} (h : St B w0 w b l D L) (s : ByteArray) (hf : L.c.Fit) (hs : s.size ≤ 1099511627776) (ho : D.ops + 1000 < 4611686018427387904) :
    Calls Try.prog 11 #[.pointer (some ⟨l, 0, none⟩), .string s] w fun e w' => e = .returned (.int .i64 (L.checkpoint D s).2.2) ∧ St B w0 w' b l (L.checkpoint D s).1 (L.checkpoint D s).2.1 := by
  obtain ⟨sl, hd⟩ := h.disk
  exact (checkpoint_any w B l b D sl L s hf hs ho h.hb h.hl hd h.log).mono fun e w' ⟨h1, h2⟩ => ⟨h1, h.next h2⟩
theorem s_fail {B : Nat} {w0 w : World} {b l : Nat} {D : Dsk} {L : Lg} (h : St B w0 w b l D L) (n : Int) (hn : -9223372036854775808 ≤ n ∧ n < 9223372036854775808) :
    Calls Try.prog 15 #[.pointer (some ⟨b, 0, none⟩), .int .i64 n] w fun e w' => e = .returned (.tuple #[]) ∧ St B w0 w' b l (D.fail n) L := by
  obtain ⟨sl, hd⟩ := h.disk
  exact (fail_at w B b D sl n hn h.hb hd).mono fun e w' ⟨h1, h2⟩ => ⟨h1, h.dnext hd h2⟩
theorem s_cut {B : Nat} {w0 w : World} {b l : Nat} {D : Dsk} {L : Lg} (h : St B w0 w b l D L) (n : Int) (keep : Nat) (hn : -9223372036854775808 ≤ n ∧ n < 9223372036854775808) (hk : keep < 18446744073709551616) :
    Calls Try.prog 13 #[.pointer (some ⟨b, 0, none⟩), .int .i64 n, .int .u64 (keep : Int)] w fun e w' => e = .returned (.tuple #[]) ∧ St B w0 w' b l (D.cut n keep) L := by
  obtain ⟨sl, hd⟩ := h.disk
  exact (cut_at w B b D sl n keep hn hk h.hb hd).mono fun e w' ⟨h1, h2⟩ => ⟨h1, h.dnext hd h2⟩
theorem s_crash {B : Nat} {w0 w : World} {b l : Nat} {D : Dsk} {L : Lg} (h : St B w0 w b l D L) (keep : Nat) (hk : keep < 18446744073709551616) :
    Calls Try.prog 17 #[.pointer (some ⟨b, 0, none⟩), .int .u64 (keep : Int)] w fun e w' => e = .returned (.tuple #[]) ∧ St B w0 w' b l (D.crash keep) L := by
  obtain ⟨sl, hd⟩ := h.disk
  exact (crash_at w B b D sl keep hk h.hb hd).mono fun e w' ⟨h1, h2⟩ => ⟨h1, h.dnext hd h2⟩
theorem s_power {B : Nat} {w0 w : World} {b l : Nat} {D : Dsk} {L : Lg} (h : St B w0 w b l D L) :
    Calls Try.prog 21 #[.pointer (some ⟨b, 0, none⟩)] w fun e w' => e = .returned (.tuple #[]) ∧ St B w0 w' b l D.power L := by
  obtain ⟨sl, hd⟩ := h.disk
  exact (power_at w B b D sl h.hb hd).mono fun e w' ⟨h1, h2⟩ => ⟨h1, h.dnext hd h2⟩
theorem s_ops {B : Nat} {w0 w : World} {b l : Nat} {D : Dsk} {L : Lg} (h : St B w0 w b l D L) :
    Calls Try.prog 41 #[.pointer (some ⟨b, 0, none⟩)] w fun e w' => e = .returned (.int .i64 (D.ops : Int)) ∧ w' = w := ops_any w b D h.disk
theorem s_len {B : Nat} {w0 w : World} {b l : Nat} {D : Dsk} {L : Lg} (h : St B w0 w b l D L) :
    Calls Try.prog 23 #[.pointer (some ⟨l, 0, none⟩)] w fun e w' => e = .returned (.int .i64 (L.c.len : Int)) ∧ w' = w := len_any w l b L h.log
theorem s_err {B : Nat} {w0 w : World} {b l : Nat} {D : Dsk} {L : Lg} (h : St B w0 w b l D L) :
    Calls Try.prog 24 #[.pointer (some ⟨l, 0, none⟩)] w fun e w' => e = .returned (.int .i64 L.er) ∧ w' = w := err_any w l b L h.log
theorem s_open {B : Nat} {w0 w : World} {b l : Nat} {D : Dsk} {L : Lg} (h : St B w0 w b l D L) (hz : Sz D.wr) :
    Calls Try.prog 7 #[.pointer (some ⟨b, 0, none⟩)] w fun e w' => ∃ l' c t, e = .returned (.tuple #[.pointer (some ⟨l', 0, none⟩), .string t, .int .i64 0]) ∧ Tells D.wr c t ∧ St B w0 w' b l' D ⟨c, tailT t, 0⟩ ∧ St B w0 w' b l D L := by
  have hlt : B ≤ w.heap.size := by obtain ⟨sl, hd⟩ := h.disk; have := lt_of_block hd.blk; have := h.hb; omega
  refine (open_any w b D hz h.disk).mono ?_
  rintro e w' ⟨⟨l', c, t, h1, h2, h3, h4⟩, hb⟩
  have hs := h.below hb
  exact ⟨l', c, t, h1, h2, ⟨hs.disk, h3, hs.bel, h.hb, by omega⟩, hs⟩
/-- A new disk, and a log of it. -/
theorem s_first (w0 w : World) (B b : Nat) (hB : B ≤ b) (hd : DiskIs w b Dsk.new) (hbel : Below B w0 w) :
    Calls Try.prog 7 #[.pointer (some ⟨b, 0, none⟩)] w fun e w' => ∃ l, e = .returned (.tuple #[.pointer (some ⟨l, 0, none⟩), .string ByteArray.empty, .int .i64 0]) ∧ St B w0 w' b l Dsk.new ⟨com0, tailT ByteArray.empty, 0⟩ ∧ Hl Dsk.new ⟨com0, tailT ByteArray.empty, 0⟩ ByteArray.empty ∧ Below w.heap.size w w' := by
  have hlt : B ≤ w.heap.size := by obtain ⟨sl, hd⟩ := hd; have := lt_of_block hd.blk; omega
  refine (open_any w b Dsk.new (sz_new.now Dsk.good_new) hd).mono ?_
  rintro e w' ⟨⟨l', c, t, h1, h2, h3, h4⟩, hb⟩
  obtain ⟨rfl, rfl, k⟩ := open_hl ok_new Dsk.good_new sz_new h2
  exact ⟨l', h1, ⟨hd.below hb, h3, hbel.trans (hb.mono hlt), hB, by omega⟩, k, hb⟩
end Go.Proofs.Ythcefjkpiaecjaa
