/-
  The contract of package pack's Count at a reader with no error.
  Conditions: the reader holds its bytes (at most 2^47), stands within them; the most is an int.
  The contracts of package code's Put and of its closure: instructions that may be are their bytes, else the first error.
  Conditions: the tables hold what they hold at the start; the instructions lie in memory that was there before; at most 2^20 of them, of at most 2^20 bytes each.
  What a reader's calls answer wherever it stands, and what they answer if it stands ahead of what was written; what the texts of instructions that may be are made of.
  Conditions: for texts, unicode/utf8's tables hold what they hold at the start.
-/
import Derived.Test.YtpincofjopmaaaaGreatDoorM15
import Derived.Test.YtpincofjopmaaaaGreatDoorM10
import Derived.Test.YtpincofjopmaaaaGreatDoorM14
import Derived.Lib.ValidLaws
namespace Go.Proofs.YtpincofjopmaaaaGreatDoor
open Go.RowKit
set_option maxHeartbeats 2000000 in
set_option maxRecDepth 100000 in
theorem rcount_num (b : Nat) (v : Value) (l : List UInt8) (i E V K : Nat) (most : Int) (w : World) (h : RdAt w b v l i 0) (hR : numFrom 0 0 (l.drop i) = (E, V, K)) (hE : E ≠ 0) :
    Calls Tryz.prog 216 #[.pointer (some ⟨b, 0, none⟩), .int .i64 most] w (Got b v l i E (.int .i64 0) w) := by
  have hlt := lt_of_block h.blk
  have hal := (h.alloc (.cells #[.pointer (some ⟨b, 0, none⟩)] 127)).alloc (.cells #[.int .i64 most] 3)
  have c2 : ((w.alloc (.cells #[.pointer (some ⟨b, 0, none⟩)] 127)).alloc (.cells #[.int .i64 most] 3)).cell? ⟨b, 2, none⟩ = some (.int .i64 0) := hal.c2
  have c1 := hal.c1
  have hle := h.le
  have hn := number_any b v l i 0 _ hal
  rw [hR] at hn
  have HN := Lib.hid hn
  have hb : ((E : Int) != 0) = true := by rw [bne_iff_ne]; omega
  clear h hn hR hal
  go_enter Tryz.func216, Tryz.ntmps216
  go_wp2_with (first | (go_at_call 251; refine HN.out.mono ?_; rintro e w1 ⟨rfl, hon, j, hrd, _⟩; have d1 := hrd.c1; have d2 := hrd.c2; have f1 := hrd.free 1; have f2 := hrd.free 2) | go_in)
  go_ret
  obtain ⟨h1, h2⟩ := hrd.failed ((((Only.refl _ _).alloc _).alloc _).trans hon) i E hle
  exact ⟨rfl, h1, h2⟩
set_option maxHeartbeats 2000000 in
set_option maxRecDepth 100000 in
theorem rcount_ok (b : Nat) (v : Value) (l : List UInt8) (i V K m : Nat) (w : World) (h : RdAt w b v l i 0) (hm : m ≤ 9223372036854775807) (hR : numFrom 0 0 (l.drop i) = (0, V, K)) (hV : V ≤ m) (hL : i + K + V ≤ l.length) :
    Calls Tryz.prog 216 #[.pointer (some ⟨b, 0, none⟩), .int .i64 (m : Nat)] w (Got b v l (i + K) 0 (.int .i64 (V : Nat)) w) := by
  have hlt := lt_of_block h.blk
  have hal := (h.alloc (.cells #[.pointer (some ⟨b, 0, none⟩)] 127)).alloc (.cells #[.int .i64 (m : Nat)] 3)
  have c2 : ((w.alloc (.cells #[.pointer (some ⟨b, 0, none⟩)] 127)).alloc (.cells #[.int .i64 (m : Nat)] 3)).cell? ⟨b, 2, none⟩ = some (.int .i64 0) := hal.c2
  have c1 := hal.c1
  have hsm := h.small
  have hn := number_any b v l i 0 _ hal
  rw [hR] at hn
  have HN := Lib.hid hn
  obtain ⟨p, hp⟩ : ∃ p, p = i + K := ⟨_, rfl⟩
  rw [← hp] at hL ⊢
  have HP := Lib.hid hp
  have hz1 : decide ((m : Int) < (V : Int)) = false := by simp; omega
  have hz2 : decide ((l.length : Int) - (p : Int) < (V : Int)) = false := by simp; omega
  have hz3 : (0 : Int) ≤ (l.length : Int) - (p : Int) := by omega
  clear h hn hR hal hp
  go_enter Tryz.func216, Tryz.ntmps216
  go_wp2_with (first | (go_at_call 251; refine HN.out.mono ?_; rintro e w1 ⟨rfl, hon, j, hrd, hj⟩; obtain rfl : p = j := HP.out.trans (hj rfl).symm; clear hj) | (go_at_call 252; refine (left_any b v l p 0 _ hrd).mono ?_; rintro e w2 ⟨rfl, q, rfl⟩) | go_in)
  go_ret
  exact ⟨rfl, ((((Only.refl _ _).alloc _).alloc _).trans hon).drewN _, hrd.drewN _⟩
set_option maxHeartbeats 2000000 in
set_option maxRecDepth 100000 in
theorem rcount_neg (b : Nat) (v : Value) (l : List UInt8) (i V K : Nat) (most : Int) (w : World) (h : RdAt w b v l i 0) (hR : numFrom 0 0 (l.drop i) = (0, V, K)) (hneg : most < 0) :
    Calls Tryz.prog 216 #[.pointer (some ⟨b, 0, none⟩), .int .i64 most] w (Got b v l i 12 (.int .i64 0) w) := by
  have hlt := lt_of_block h.blk
  have hal := (h.alloc (.cells #[.pointer (some ⟨b, 0, none⟩)] 127)).alloc (.cells #[.int .i64 most] 3)
  have c2 : ((w.alloc (.cells #[.pointer (some ⟨b, 0, none⟩)] 127)).alloc (.cells #[.int .i64 most] 3)).cell? ⟨b, 2, none⟩ = some (.int .i64 0) := hal.c2
  have c1 := hal.c1
  have hle := h.le
  have hn := number_any b v l i 0 _ hal
  rw [hR] at hn
  have HN := Lib.hid hn
  clear h hn hR hal
  go_enter Tryz.func216, Tryz.ntmps216
  go_wp2_with (first | (go_at_call 251; refine HN.out.mono ?_; rintro e w1 ⟨rfl, hon, j, hrd, _⟩; have d1 := hrd.c1; have d2 := hrd.c2; have f1 := hrd.free 1; have f2 := hrd.free 2) | go_in)
  go_ret
  obtain ⟨h1, h2⟩ := hrd.failed ((((Only.refl _ _).alloc _).alloc _).trans hon) i 12 hle
  exact ⟨rfl, h1, h2⟩
set_option maxHeartbeats 2000000 in
set_option maxRecDepth 100000 in
theorem rcount_over (b : Nat) (v : Value) (l : List UInt8) (i V K m : Nat) (w : World) (h : RdAt w b v l i 0) (hm : m ≤ 9223372036854775807) (hR : numFrom 0 0 (l.drop i) = (0, V, K)) (hV : m < V) :
    Calls Tryz.prog 216 #[.pointer (some ⟨b, 0, none⟩), .int .i64 (m : Nat)] w (Got b v l i 12 (.int .i64 0) w) := by
  have hlt := lt_of_block h.blk
  have hal := (h.alloc (.cells #[.pointer (some ⟨b, 0, none⟩)] 127)).alloc (.cells #[.int .i64 (m : Nat)] 3)
  have c2 : ((w.alloc (.cells #[.pointer (some ⟨b, 0, none⟩)] 127)).alloc (.cells #[.int .i64 (m : Nat)] 3)).cell? ⟨b, 2, none⟩ = some (.int .i64 0) := hal.c2
  have c1 := hal.c1
  have hle := h.le
  have hn := number_any b v l i 0 _ hal
  rw [hR] at hn
  have HN := Lib.hid hn
  have hz1 : (m : Int) < (V : Int) := by omega
  clear h hn hR hal
  go_enter Tryz.func216, Tryz.ntmps216
  go_wp2_with (first | (go_at_call 251; refine HN.out.mono ?_; rintro e w1 ⟨rfl, hon, j, hrd, _⟩; have d1 := hrd.c1; have d2 := hrd.c2; have f1 := hrd.free 1; have f2 := hrd.free 2) | go_in)
  go_ret
  obtain ⟨h1, h2⟩ := hrd.failed ((((Only.refl _ _).alloc _).alloc _).trans hon) i 12 hle
  exact ⟨rfl, h1, h2⟩
set_option maxHeartbeats 2000000 in
set_option maxRecDepth 100000 in
theorem rcount_more (b : Nat) (v : Value) (l : List UInt8) (i V K m : Nat) (w : World) (h : RdAt w b v l i 0) (hm : m ≤ 9223372036854775807) (hR : numFrom 0 0 (l.drop i) = (0, V, K)) (hV : V ≤ m) (hL : l.length < i + K + V) :
    Calls Tryz.prog 216 #[.pointer (some ⟨b, 0, none⟩), .int .i64 (m : Nat)] w (Got b v l i 12 (.int .i64 0) w) := by
  have hlt := lt_of_block h.blk
  have hal := (h.alloc (.cells #[.pointer (some ⟨b, 0, none⟩)] 127)).alloc (.cells #[.int .i64 (m : Nat)] 3)
  have c2 : ((w.alloc (.cells #[.pointer (some ⟨b, 0, none⟩)] 127)).alloc (.cells #[.int .i64 (m : Nat)] 3)).cell? ⟨b, 2, none⟩ = some (.int .i64 0) := hal.c2
  have c1 := hal.c1
  have hle := h.le
  have hsm := h.small
  have hn := number_any b v l i 0 _ hal
  have hkl := numFrom_pos (l.drop i) 0 0
  rw [hR] at hn hkl
  have hkl2 := (hkl rfl).2
  rw [List.length_drop] at hkl2
  simp only [] at hkl2
  have HN := Lib.hid hn
  obtain ⟨p, hp⟩ : ∃ p, p = i + K := ⟨_, rfl⟩
  rw [← hp] at hL
  have HP := Lib.hid hp
  have hz1 : decide ((m : Int) < (V : Int)) = false := by simp; omega
  have hz2 : (l.length : Int) - (p : Int) < (V : Int) := by omega
  have hz3 : (0 : Int) ≤ (l.length : Int) - (p : Int) := by omega
  clear h hn hR hal hp hkl hkl2
  go_enter Tryz.func216, Tryz.ntmps216
  go_wp2_with (first | (go_at_call 251; refine HN.out.mono ?_; rintro e w1 ⟨rfl, hon, j, hrd, hj⟩; obtain rfl : p = j := HP.out.trans (hj rfl).symm; clear hj) | (go_at_call 252; refine (left_any b v l p 0 _ hrd).mono ?_; rintro e w2 ⟨rfl, q, rfl⟩; have hrd2 := hrd.drewN q; have d1 := hrd2.c1; have d2 := hrd2.c2; have f1 := hrd2.free 1; have f2 := hrd2.free 2) | go_in)
  go_ret
  obtain ⟨h1, h2⟩ := hrd2.failed (((((Only.refl _ _).alloc _).alloc _).trans hon).drewN q) i 12 hle
  exact ⟨rfl, h1, h2⟩
end Go.Proofs.YtpincofjopmaaaaGreatDoor
namespace Go.Proofs.YtpincofjopmaaaaGreatDoor
open Go.RowKit
/-- A writer of the call's own, and a cell that points to it. -/
structure WC (w0 w : World) (b c : Nat) (v : Value) (l : List UInt8) : Prop where
  ws : WS w0 w b v l
  cell : w.cell? ⟨c, 0, none⟩ = some (.pointer (some ⟨b, 0, none⟩))
  ne : c ≠ b
  nv : v.ownBlock ≠ some c
theorem WC.lt {w0 w : World} {b c : Nat} {v : Value} {l : List UInt8} (h : WC w0 w b c v l) : c < w.heap.size := World.block_lt_of_cell? w _ h.cell
theorem WC.alloc {w0 w : World} {b c : Nat} {v : Value} {l : List UInt8} (h : WC w0 w b c v l) (o : Obj) : WC w0 (w.alloc o) b c v l :=
  ⟨h.ws.alloc o, ((Only.refl (fun _ => False) w).alloc o).cell h.cell id, h.ne, h.nv⟩
theorem WC.keep {w0 w w' : World} {b c : Nat} {v : Value} {l : List UInt8} (h : WC w0 w b c v l) (hb : Below w.heap.size w w') : WC w0 w' b c v l :=
  ⟨h.ws.keep hb, (Only.ofBelow (S := fun _ => False) hb).cell h.cell id, h.ne, h.nv⟩
/-- What is said of a call that writes. -/
def WroteC (w0 : World) (b c : Nat) (l : List UInt8) (e : Ending) (w' : World) : Prop := e = .returned (.tuple #[]) ∧ ∃ v', WC w0 w' b c v' l
/-- The same, with what else stays: the blocks that are not the writer's. -/
def WroteG (w0 w : World) (b c : Nat) (v : Value) (l : List UInt8) (e : Ending) (w' : World) : Prop := e = .returned (.tuple #[]) ∧ ∃ v', WC w0 w' b c v' l ∧ WrGrew w b v w' v'
theorem WC.wrote {w0 w w' : World} {b c : Nat} {v : Value} {l m : List UInt8} {e : Ending} (h : WC w0 w b c v l) (hw : Wrote b v l m w e w') : WroteG w0 w b c v (l ++ m) e w' := by
  obtain ⟨he, v', h1, h2⟩ := hw
  refine ⟨he, v', ⟨h.ws.step h1 h2, h2.keeps h.ne h.nv h.cell, h.ne, fun q => ?_⟩, h2⟩
  rcases h2.came with e | e
  · exact h.nv (e ▸ q)
  · have h3 := e c q
    have h4 := h.lt
    omega
theorem wc_num {w0 w : World} {b c : Nat} {v : Value} {l : List UInt8} (h : WC w0 w b c v l) (x : Nat) (hx : x < 18446744073709551616) (hlim : l.length + 10 ≤ 140737488355328) :
    Calls Tryz.prog 246 #[.pointer (some ⟨b, 0, none⟩), .slice (some ⟨w.heap.size, 0, none⟩) 1 1] (w.alloc (.cells #[.int .u64 x] 213)) (WroteG w0 (w.alloc (.cells #[.int .u64 x] 213)) b c v (l ++ Lib.uvarint x)) :=
  (wnum_one b w.heap.size v l x _ (h.ws.wr.alloc _) h.ws.wr.notNew.1 h.ws.wr.notNew.2 (by simp) hx hlim).mono fun _ _ hw => (h.alloc _).wrote hw
theorem wc_int {w0 w : World} {b c : Nat} {v : Value} {l : List UInt8} (h : WC w0 w b c v l) (x : Int) (hx : -9223372036854775808 ≤ x ∧ x ≤ 9223372036854775807) (hlim : l.length + 10 ≤ 140737488355328) :
    Calls Tryz.prog 249 #[.pointer (some ⟨b, 0, none⟩), .slice (some ⟨w.heap.size, 0, none⟩) 1 1] (w.alloc (.cells #[.int .i64 x] 2)) (WroteG w0 (w.alloc (.cells #[.int .i64 x] 2)) b c v (l ++ Lib.uvarint (Lib.zigzag x))) :=
  (wint_one b w.heap.size v l x _ (h.ws.wr.alloc _) h.ws.wr.notNew.1 h.ws.wr.notNew.2 (by simp) hx hlim).mono fun _ _ hw => (h.alloc _).wrote hw
theorem wc_text {w0 w : World} {b c : Nat} {v : Value} {l : List UInt8} (h : WC w0 w b c v l) (s : List UInt8) (hlim : l.length + (s.length + 10) ≤ 140737488355328) :
    Calls Tryz.prog 206 #[.pointer (some ⟨b, 0, none⟩), .slice (some ⟨w.heap.size, 0, none⟩) 1 1] (w.alloc (.cells #[.string (S s)] 9)) (WroteG w0 (w.alloc (.cells #[.string (S s)] 9)) b c v (l ++ textBytes s)) :=
  (wtext_one b w.heap.size v l s _ (h.ws.wr.alloc _) h.ws.wr.notNew.1 h.ws.wr.notNew.2 (by simp) hlim).mono fun _ _ hw => (h.alloc _).wrote hw
/-- An instruction's operand as bytes. -/
def argBytes (h : Nat) (n : Int) (s : List UInt8) : List UInt8 := if h = 1 then Lib.uvarint (Lib.zigzag n) else if 2 ≤ h then textBytes s else []
set_option maxHeartbeats 2000000 in
set_option maxRecDepth 100000 in
theorem put1_any {w0 w : World} {b c : Nat} {v : Value} {l : List UInt8} (hw : WC w0 w b c v l) (op nm s : List UInt8) (n : Int) (q h : Nat) (hq : q ≤ 42) (hn : -9223372036854775808 ≤ n ∧ n ≤ 9223372036854775807) (hlim : l.length + (s.length + 30) ≤ 140737488355328) :
    Calls Tryz.prog 248 #[insV op n s, .int .i64 (q : Nat), .agg #[.string (S nm), .int .i64 (h : Nat)], .pointer (some ⟨c, 0, none⟩)] w (WroteC w0 b c (l ++ (Lib.uvarint q ++ argBytes h n s))) := by
  have HW := Lib.hid hw
  have HL := Lib.hid hlim
  have HN := Lib.hid hn
  have huv : (Lib.uvarint q).length ≤ 10 := Lib.uvarint_length64 (by omega)
  have HU := Lib.hid huv
  clear hw hlim hn huv
  go_enter Tryz.func248, Tryz.ntmps248
  go_upto_region 1 with fail
  have s0 := (HW.out.alloc (.cells #[.string (S op), .int .i64 n, .string (S s)] 70)).alloc (.cells #[.string (S nm), .int .i64 (h : Nat)] 242)
  have hI : ((w.alloc (.cells #[.string (S op), .int .i64 n, .string (S s)] 70)).alloc (.cells #[.string (S nm), .int .i64 (h : Nat)] 242)).heap[w.heap.size]? = some (.cells #[.string (S op), .int .i64 n, .string (S s)] 70 (0, 0)) := ((Only.refl (fun _ => False) _).alloc _).heap (heap_alloc_new w _) id
  have hP : ((w.alloc (.cells #[.string (S op), .int .i64 n, .string (S s)] 70)).alloc (.cells #[.string (S nm), .int .i64 (h : Nat)] 242)).heap[w.heap.size + 1]? = some (.cells #[.string (S nm), .int .i64 (h : Nat)] 242 (0, 0)) := (heap_alloc_new' (w.alloc _) _ _ (by simp)).trans rfl
  have hbI : w.heap.size ≠ b := HW.out.ws.wr.notNew.1
  have hvI : v.ownBlock ≠ some w.heap.size := HW.out.ws.wr.notNew.2
  have hbP : w.heap.size + 1 ≠ b := by have := lt_of_block HW.out.ws.wr.blk; omega
  have hvP : v.ownBlock ≠ some (w.heap.size + 1) := fun e => by have := (HW.out.ws.wr.row.lt _ e).2; omega
  generalize (w.alloc (.cells #[.string (S op), .int .i64 n, .string (S s)] 70)).alloc (.cells #[.string (S nm), .int .i64 (h : Nat)] 242) = wA at s0 hI hP ⊢
  generalize w.heap.size = BI at hI hbI hvI hP hbP hvP ⊢
  generalize BI + 1 = BP at hP hbP hvP ⊢
  have hcc := s0.cell
  have HS0 := Lib.hid s0
  have HII := Lib.hid hI
  have HPP := Lib.hid hP
  clear s0 hI hP HW
  go_wp2_with fail
  refine (wc_num HS0.out q (by omega) (by have := HL.out; omega)).mono ?_
  rintro e w1 ⟨rfl, v1, s1, g1⟩
  have hI1 := g1.only.heap (((Only.refl (fun _ => False) wA).alloc _).heap HII.out id) (fun z => z.elim hbI hvI)
  have hP1 := g1.only.heap (((Only.refl (fun _ => False) wA).alloc _).heap HPP.out id) (fun z => z.elim hbP hvP)
  have hp1 : w1.cell? ⟨BP, 1, none⟩ = some (.int .i64 (h : Nat)) := by simp [World.cell?, hP1]
  have hi1 : w1.cell? ⟨BI, 1, none⟩ = some (.int .i64 n) := by simp [World.cell?, hI1]
  have hi2 : w1.cell? ⟨BI, 2, none⟩ = some (.string (S s)) := by simp [World.cell?, hI1]
  have hc1 := s1.cell
  have HS1 := Lib.hid s1
  have hlen : (l ++ Lib.uvarint q).length + (s.length + 10) ≤ 140737488355328 := by
    rw [List.length_append]
    have h1 := HL.out
    have h2 := HU.out
    omega
  have HLL := Lib.hid hlen
  clear s1 g1 hI1 hP1 hcc HS0 HII HPP hbI hvI hbP hvP hlen
  by_cases h1 : h = 1
  · subst h1
    have HAB : Hid (argBytes 1 n s = Lib.uvarint (Lib.zigzag n)) := Lib.hid (if_pos rfl)
    have HCT := Lib.hid (wc_int HS1.out n HN.out (by have := HLL.out; omega))
    go_wp2_with (go_at_call 249; refine HCT.out.mono ?_; rintro e w2 ⟨rfl, v2, s2, g2⟩)
    go_end0
    rw [HAB.out, ← List.append_assoc]
    exact ⟨rfl, v2, s2⟩
  · have e1 : ((h : Int) == 1) = false := by rw [beq_eq_false_iff_ne]; omega
    have HIT : Hid (Calls Tryz.prog 250 #[.int .i64 h] w1 fun e w' => e = .returned (.bool (decide (2 ≤ h))) ∧ w1 = w') := Lib.hid (istext_any h w1)
    by_cases h2 : 2 ≤ h
    · have HAB : Hid (argBytes h n s = textBytes s) := Lib.hid ((if_neg h1).trans (if_pos h2))
      rw [decide_eq_true h2] at HIT
      have HCT := Lib.hid (wc_text HS1.out s HLL.out)
      clear h1 h2
      go_wp2_with (first | (go_at_call 250; refine HIT.out.mono ?_; rintro e w2 ⟨rfl, rfl⟩) | (go_at_call 206; refine HCT.out.mono ?_; rintro e w2 ⟨rfl, v2, s2, g2⟩))
      go_end0
      rw [HAB.out, ← List.append_assoc]
      exact ⟨rfl, v2, s2⟩
    · have HAB : Hid (argBytes h n s = []) := Lib.hid ((if_neg h1).trans (if_neg h2))
      rw [decide_eq_false h2] at HIT
      clear h1 h2
      go_wp2_with (go_at_call 250; refine HIT.out.mono ?_; rintro e w2 ⟨rfl, rfl⟩)
      go_end0
      rw [HAB.out, List.append_nil]
      exact ⟨rfl, v1, HS1.out⟩
/-- An instruction as bytes. -/
def Ins.bytes (x : Ins) : List UInt8 := Lib.uvarint (idx x.op) ++ argBytes (hasAt (idx x.op)) x.n x.s
/-- Instructions as bytes. -/
def putL (l : List Ins) : List UInt8 := Lib.uvarint l.length ++ l.flatMap Ins.bytes
/-- Numbers of 64 bits, texts that are not too long. -/
def Ins.ok (x : Ins) : Prop := (-9223372036854775808 ≤ x.n ∧ x.n ≤ 9223372036854775807) ∧ x.s.length ≤ 1048576
theorem Ins.bytes_le (x : Ins) (h : x.ok) : x.bytes.length ≤ 1048600 := by
  have h1 : (Lib.uvarint (idx x.op)).length ≤ 10 := Lib.uvarint_length64 (by have := idx_le x.op; omega)
  have h2 : (Lib.uvarint (Lib.zigzag x.n)).length ≤ 10 := Lib.uvarint_length64 (Lib.zigzag_lt h.1.1 h.1.2)
  have h3 : (Lib.uvarint x.s.length).length ≤ 10 := Lib.uvarint_length64 (by have := h.2; omega)
  have h4 := h.2
  unfold Ins.bytes argBytes textBytes
  rw [List.length_append]
  split
  · omega
  · split
    · rw [List.length_append]; omega
    · simp; omega
theorem insBytes_le (l : List Ins) (h : ∀ x ∈ l, x.ok) : (l.flatMap Ins.bytes).length ≤ 1048600 * l.length := by
  induction l with
  | nil => simp
  | cons x r ih =>
    have h1 := x.bytes_le (h x (by simp))
    have h2 := ih (fun y hy => h y (by simp [hy]))
    rw [List.flatMap_cons, List.length_append, List.length_cons]
    omega
theorem ins_snoc (l : List Ins) (k : Nat) (x : Ins) (h : l[k]? = some x) : (l.take (k + 1)).flatMap Ins.bytes = (l.take k).flatMap Ins.bytes ++ x.bytes := by
  rw [List.take_add_one, h, List.flatMap_append]
  simp
set_option maxHeartbeats 2000000 in
set_option maxRecDepth 100000 in
theorem put_any (l : List Ins) (sv : Value) (w : World) (hT : CT w) (hs : InsSrc w sv l) (hlen : l.length ≤ 1048576) (hok : ∀ x ∈ l, x.ok) :
    Calls Tryz.prog 211 #[sv] w fun e w' => (allE l = 0 → ∃ v, e = .returned (.tuple #[v, .int .i64 0]) ∧ BS w w' v (putL l)) ∧ (allE l ≠ 0 → e = .returned (.tuple #[.slice none 0 0, .int .i64 (allE l : Nat)]) ∧ Below w.heap.size w w') := by
  have hmf : ∀ (fn : Fn) (first cap : Array Value) (w : World), (Instr.makeFunc fn first cap).run Tryz.prog w = .ok (.func fn first cap) w := fun _ _ _ _ => rfl
  obtain ⟨so, sn, sc, rfl, hsn⟩ : ∃ so sn sc, sv = .slice so sn sc ∧ sn = l.length := by
    rcases hs with ⟨ao, cp0, rfl, rfl⟩ | ⟨b, o, cap, rfl, _⟩
    · exact ⟨_, _, _, rfl, rfl⟩
    · exact ⟨_, _, _, rfl, rfl⟩
  have HSN := Lib.hid hsn
  have HT := Lib.hid hT
  have HS := Lib.hid hs
  have HOK := Lib.hid hok
  have HLN := Lib.hid hlen
  have hsn1 : sn ≤ 1048576 := by omega
  clear hsn hT hs hok hlen
  go_enter Tryz.func211, Tryz.ntmps211
  go_wp2_with fail
  refine (write_any _).mono ?_
  rintro e w1 ⟨rfl, rfl⟩
  go_upto_region 2 with fail
  have s0 : WC w ((w.alloc (.cells #[.slice none 0 0] 237)).alloc (.cells #[.pointer (some ⟨w.heap.size, 0, none⟩)] 199)) w.heap.size (w.heap.size + 1) (.slice none 0 0) [] :=
    ⟨(WS.new (Below.refl _ w)).alloc _, by simp, by omega, by simp [Value.ownBlock]⟩
  have HQ := Lib.hid (Nat.le_refl w.heap.size)
  generalize (w.alloc (.cells #[.slice none 0 0] 237)).alloc (.cells #[.pointer (some ⟨w.heap.size, 0, none⟩)] 199) = wB at s0 ⊢
  generalize hbc : w.heap.size + 1 = c at s0 ⊢
  generalize hbb : w.heap.size = b at s0 HQ ⊢
  clear hbc
  have hcc := s0.cell
  have HS0 := Lib.hid s0
  clear s0
  go_wp2_with fail
  have hk1 := wc_num HS0.out sn (by omega) (by simp)
  refine hk1.mono ?_
  rintro e w2 ⟨rfl, v2, s2, g2⟩
  rw [List.nil_append] at s2
  clear hk1 g2 hcc
  have HS2 := Lib.hid s2
  clear s2
  go_wp2_with fail
  have hea := each_any 248 (.pointer (some ⟨c, 0, none⟩)) w w2 l (.slice so sn sc) (fun k w' => ∃ v, WC w w' b c v (Lib.uvarint l.length ++ (l.take k).flatMap Ins.bytes)) (enters_cf Tryz.func248 (by kernel_rfl) rfl)
    HT.out HS.out (fun x hx => by have := (HOK.out x hx).2; omega) (by have := HLN.out; omega) ⟨v2, by have h := HS2.out; rw [HSN.out] at h; simpa using h⟩ (fun k w' ⟨v, h⟩ => h.ws.bel) (fun k w' w'' ⟨v, h⟩ hb => ⟨v, h.keep hb⟩)
    (fun k x w' hx he ⟨v, h⟩ => by
      have hxo := HOK.out x (List.mem_of_getElem? hx)
      have hl1 := insBytes_le (l.take k) (fun y hy => HOK.out y (List.mem_of_mem_take hy))
      have hl2 : (l.take k).length ≤ l.length := by rw [List.length_take]; omega
      have hl3 : (Lib.uvarint l.length).length ≤ 10 := Lib.uvarint_length64 (by have := HLN.out; omega)
      have hl4 := HLN.out
      have hp := put1_any h x.op (nameAt (idx x.op)) x.s x.n (idx x.op) (hasAt (idx x.op)) (idx_le x.op) hxo.1 (by rw [List.length_append]; have := hxo.2; omega)
      refine hp.mono ?_
      rintro e w'' ⟨rfl, v', h'⟩
      refine ⟨rfl, v', ?_⟩
      rw [ins_snoc l k x hx, ← List.append_assoc]
      exact h')
  refine hea.mono ?_
  clear hea
  rintro e w3 ⟨rfl, h3, hb3⟩
  by_cases hz : allE l = 0
  · obtain ⟨v3, s3⟩ := h3 hz
    rw [List.take_of_length_le (Nat.le_refl _)] at s3
    have hlb : (Lib.uvarint l.length ++ l.flatMap Ins.bytes).length ≤ 140737488355328 := by
      have h1 := insBytes_le l HOK.out
      have h2 : (Lib.uvarint l.length).length ≤ 10 := Lib.uvarint_length64 (by have := HLN.out; omega)
      have h4 := HLN.out
      rw [List.length_append]
      omega
    have HBY := Lib.hid (ws_bytes s3.ws hlb)
    have hc3 := s3.cell
    have HZ := Lib.hid hz
    rw [hz]
    clear h3 s3 hlb hz
    go_wp2_with (go_at_call 207; refine HBY.out.mono ?_; rintro e w4 ⟨v4, rfl, s4⟩; obtain ⟨ao4, m4, c4, rfl⟩ := row_shape s4.row)
    go_ret2
    exact ⟨fun _ => ⟨_, rfl, s4⟩, fun h => absurd HZ.out h⟩
  · have hzb : (((allE l : Nat) : Int) != 0) = true := by rw [bne_iff_ne]; omega
    have HZ := Lib.hid hz
    clear h3 hz
    generalize hE : allE l = E at hzb HZ ⊢
    have HE := Lib.hid hE
    clear hE
    go_wp2
    go_ret2
    rw [HE.out]
    exact ⟨fun h => absurd h HZ.out, fun _ => ⟨rfl, hb3⟩⟩
end Go.Proofs.YtpincofjopmaaaaGreatDoor
namespace Go.Proofs.YtpincofjopmaaaaGreatDoor
open Go.RowKit
def NumG (b : Nat) (v : Value) (l : List UInt8) (i err : Nat) (w : World) (e : Ending) (w' : World) : Prop :=
  ∃ V i' err' : Nat, V < 18446744073709551616 ∧ Got b v l i' err' (.int .u64 V) w e w' ∧ (∀ (q : Nat) (r : List UInt8), err = 0 → q < 18446744073709551616 → l.drop i = Lib.uvarint q ++ r → V = q ∧ i' = i + (Lib.uvarint q).length ∧ err' = 0)
theorem rnum_g {w : World} {b : Nat} {v : Value} {l : List UInt8} {i err : Nat} (h : RdAt w b v l i err) : Calls Tryz.prog 219 #[.pointer (some ⟨b, 0, none⟩)] w (NumG b v l i err w) := by
  by_cases he : err = 0
  · subst he
    rcases hR : numFrom 0 0 (l.drop i) with ⟨E, V, K⟩
    by_cases hE : E = 0
    · subst hE
      refine (rnum_ok b v l i V K w h hR).mono fun e w' g => ⟨V, i + K, 0, num_lt hR, g, fun q r _ hq hd => ?_⟩
      rw [hd, num_var q hq r] at hR
      cases hR
      exact ⟨rfl, rfl, rfl⟩
    · refine (rnum_bad b v l i E V K w h hR hE).mono fun e w' g => ⟨0, i, E, by decide, g, fun q r _ hq hd => ?_⟩
      rw [hd, num_var q hq r] at hR
      cases hR
      exact absurd rfl hE
  · exact (rnum_stop b v l i err w h he).mono fun e w' g => ⟨0, i, err, by decide, g, fun _ _ h0 => absurd h0 he⟩
theorem zag_bounds (V : Nat) (h : V < 18446744073709551616) : -9223372036854775808 ≤ zag V ∧ zag V ≤ 9223372036854775807 := by
  unfold zag
  split
  · omega
  · omega
def IntG (b : Nat) (v : Value) (l : List UInt8) (i err : Nat) (w : World) (e : Ending) (w' : World) : Prop :=
  ∃ (n : Int) (i' err' : Nat), (-9223372036854775808 ≤ n ∧ n ≤ 9223372036854775807) ∧ Got b v l i' err' (.int .i64 n) w e w' ∧ (∀ (m : Int) (r : List UInt8), err = 0 → (-9223372036854775808 ≤ m ∧ m ≤ 9223372036854775807) → l.drop i = Lib.uvarint (Lib.zigzag m) ++ r → n = m ∧ i' = i + (Lib.uvarint (Lib.zigzag m)).length ∧ err' = 0)
theorem rint_g {w : World} {b : Nat} {v : Value} {l : List UInt8} {i err : Nat} (h : RdAt w b v l i err) : Calls Tryz.prog 277 #[.pointer (some ⟨b, 0, none⟩)] w (IntG b v l i err w) := by
  by_cases he : err = 0
  · subst he
    rcases hR : numFrom 0 0 (l.drop i) with ⟨E, V, K⟩
    by_cases hE : E = 0
    · subst hE
      refine (rint_ok b v l i V K w h hR).mono fun e w' g => ⟨zag V, i + K, 0, zag_bounds V (num_lt hR), g, fun m r _ hm hd => ?_⟩
      rw [hd, num_var _ (Lib.zigzag_lt hm.1 hm.2) r] at hR
      cases hR
      exact ⟨zag_zigzag m, rfl, rfl⟩
    · refine (rint_bad b v l i E V K w h hR hE).mono fun e w' g => ⟨0, i, E, by decide, g, fun m r _ hm hd => ?_⟩
      rw [hd, num_var _ (Lib.zigzag_lt hm.1 hm.2) r] at hR
      cases hR
      exact absurd rfl hE
  · exact (rint_stop b v l i err w h he).mono fun e w' g => ⟨0, i, err, by decide, g, fun _ _ h0 => absurd h0 he⟩
def TextG (b : Nat) (v : Value) (l : List UInt8) (i err : Nat) (w : World) (e : Ending) (w' : World) : Prop :=
  ∃ (s : List UInt8) (i' err' : Nat), s.length ≤ 4096 ∧ Got b v l i' err' (.string (S s)) w e w' ∧ (∀ (t : List UInt8) (r : List UInt8), err = 0 → t.length ≤ 4096 → Lib.validD t = true → l.drop i = textBytes t ++ r → s = t ∧ i' = i + (textBytes t).length ∧ err' = 0)
theorem rtext_g {w : World} {b : Nat} {v : Value} {l : List UInt8} {i err : Nat} (h : RdAt w b v l i err) (hT : Tabs w) (hb0 : b ≠ 2) (hb1 : b ≠ 3) : Calls Tryz.prog 149 #[.pointer (some ⟨b, 0, none⟩)] w (TextG b v l i err w) := by
  by_cases he : err = 0
  · subst he
    have key : ∀ (t r : List UInt8) (E V K : Nat), numFrom 0 0 (l.drop i) = (E, V, K) → t.length ≤ 4096 → l.drop i = textBytes t ++ r → E = 0 ∧ V = t.length ∧ K = (Lib.uvarint t.length).length ∧ i + K + V ≤ l.length ∧ (l.drop (i + K)).take V = t := by
      intro t r E V K hR ht hd
      have hd' := hd
      unfold textBytes at hd
      rw [List.append_assoc] at hd
      rw [hd, num_var _ (by omega) _] at hR
      cases hR
      have hle := h.le
      have hlen := congrArg List.length hd
      rw [List.length_drop, List.length_append, List.length_append] at hlen
      refine ⟨rfl, rfl, rfl, by omega, ?_⟩
      rw [← List.drop_drop, hd, List.drop_left, List.take_left]
    rcases hR : numFrom 0 0 (l.drop i) with ⟨E, V, K⟩
    by_cases hE : E = 0
    · subst hE
      by_cases hV : V ≤ 4096
      · by_cases hL : i + K + V ≤ l.length
        · cases hU : Lib.validD ((l.drop (i + K)).take V) with
          | true =>
            refine (rtext_ok b v l i V K w h hT hb0 hb1 hR hV hL hU).mono fun e w' g => ⟨_, i + K + V, 0, ?_, g, fun t r _ ht hv hd => ?_⟩
            · rw [List.length_take]; omega
            · obtain ⟨_, h2, h3, _, h5⟩ := key t r _ _ _ hR ht hd
              exact ⟨h5, by unfold textBytes; rw [List.length_append, h3, h2]; omega, rfl⟩
          | false =>
            refine (rtext_form b v l i V K w h hT hb0 hb1 hR hV hL hU).mono fun e w' g => ⟨[], i, 11, by simp, g, fun t r _ ht hv hd => ?_⟩
            obtain ⟨_, _, _, _, h5⟩ := key t r _ _ _ hR ht hd
            rw [h5, hv] at hU
            cases hU
        · refine (rtext_short b v l i V K w h hR hV (by omega)).mono fun e w' g => ⟨[], i, 10, by simp, g, fun t r _ ht hv hd => ?_⟩
          obtain ⟨_, _, _, h4, _⟩ := key t r _ _ _ hR ht hd
          exact absurd h4 hL
      · refine (rtext_big b v l i V K w h hR (by omega)).mono fun e w' g => ⟨[], i, 12, by simp, g, fun t r _ ht hv hd => ?_⟩
        obtain ⟨_, h2, _, _, _⟩ := key t r _ _ _ hR ht hd
        omega
    · refine (rtext_num b v l i E V K w h hR hE).mono fun e w' g => ⟨[], i, E, by simp, g, fun t r _ ht hv hd => ?_⟩
      obtain ⟨h1, _, _, _, _⟩ := key t r _ _ _ hR ht hd
      exact absurd h1 hE
  · exact (rtext_stop b v l i err w h he).mono fun e w' g => ⟨[], i, err, by simp, g, fun _ _ h0 => absurd h0 he⟩
def CountG (b : Nat) (v : Value) (l : List UInt8) (i err : Nat) (w : World) (e : Ending) (w' : World) : Prop :=
  ∃ (c i' err' : Nat), c ≤ 200 ∧ Got b v l i' err' (.int .i64 (c : Nat)) w e w' ∧ (∀ (n : Nat) (r : List UInt8), err = 0 → n ≤ 200 → n ≤ r.length → l.drop i = Lib.uvarint n ++ r → c = n ∧ i' = i + (Lib.uvarint n).length ∧ err' = 0)
theorem rcount_g {w : World} {b : Nat} {v : Value} {l : List UInt8} {i err : Nat} (h : RdAt w b v l i err) : Calls Tryz.prog 216 #[.pointer (some ⟨b, 0, none⟩), .int .i64 200] w (CountG b v l i err w) := by
  by_cases he : err = 0
  · subst he
    have key : ∀ (n : Nat) (r : List UInt8) (E V K : Nat), numFrom 0 0 (l.drop i) = (E, V, K) → n ≤ 200 → n ≤ r.length → l.drop i = Lib.uvarint n ++ r → E = 0 ∧ V = n ∧ K = (Lib.uvarint n).length ∧ i + K + V ≤ l.length := by
      intro n r E V K hR hn hr hd
      rw [hd, num_var _ (by omega) _] at hR
      cases hR
      have hle := h.le
      have hlen := congrArg List.length hd
      rw [List.length_drop, List.length_append] at hlen
      exact ⟨rfl, rfl, rfl, by omega⟩
    rcases hR : numFrom 0 0 (l.drop i) with ⟨E, V, K⟩
    by_cases hE : E = 0
    · subst hE
      by_cases hV : V ≤ 200
      · by_cases hL : i + K + V ≤ l.length
        · refine (rcount_ok b v l i V K 200 w h (by decide) hR hV hL).mono fun e w' g => ⟨V, i + K, 0, hV, g, fun n r _ hn hr hd => ?_⟩
          obtain ⟨_, h2, h3, _⟩ := key n r _ _ _ hR hn hr hd
          exact ⟨h2, by rw [h3], rfl⟩
        · refine (rcount_more b v l i V K 200 w h (by decide) hR hV (by omega)).mono fun e w' g => ⟨0, i, 12, by decide, g, fun n r _ hn hr hd => ?_⟩
          obtain ⟨_, _, _, h4⟩ := key n r _ _ _ hR hn hr hd
          exact absurd h4 hL
      · refine (rcount_over b v l i V K 200 w h (by decide) hR (by omega)).mono fun e w' g => ⟨0, i, 12, by decide, g, fun n r _ hn hr hd => ?_⟩
        obtain ⟨_, h2, _, _⟩ := key n r _ _ _ hR hn hr hd
        omega
    · refine (rcount_num b v l i E V K 200 w h hR hE).mono fun e w' g => ⟨0, i, E, by decide, g, fun n r _ hn hr hd => ?_⟩
      obtain ⟨h1, _, _, _⟩ := key n r _ _ _ hR hn hr hd
      exact absurd h1 hE
  · exact (rcount_stop b v l i err 200 w h he).mono fun e w' g => ⟨0, i, err, by decide, g, fun _ _ h0 => absurd h0 he⟩
/-- Letters, digits and the like: none above ASCII, no line feed, no blank. -/
def plainC (c : UInt8) : Prop := c.toNat < 128 ∧ c.toNat ≠ 10 ∧ c.toNat ≠ 32
theorem okAt_plain {i : Nat} {c : UInt8} (h : okAt i c = true) : plainC c := by
  unfold okAt letterB digitB at h
  simp at h
  unfold plainC
  omega
theorem name_plain {l : List UInt8} (h : nameB l = true) : (∀ c ∈ l, plainC c) ∧ l.length ≤ 32 := by
  refine ⟨fun c hc => ?_, (nameB_pos h).2⟩
  obtain ⟨i, hi, rfl⟩ := List.getElem_of_mem hc
  have h1 := nameB_ok h i hi
  rw [List.getD, List.getElem?_eq_getElem hi, Option.getD_some] at h1
  exact okAt_plain h1
theorem right_plain : ∀ (n : Nat) (l : List UInt8), l.length ≤ n → rightB l = true → ∀ c ∈ l, plainC c := by
  intro n
  induction n with
  | zero =>
    intro l hl _ c hc
    rw [List.length_eq_zero_iff.1 (by omega : l.length = 0)] at hc
    simp at hc
  | succ n ih =>
    intro l hl hr c hc
    cases hE : endsB l with
    | false =>
      have hd := deepN_not hE
      have hb : baseL l = l := by unfold baseL; rw [hd]; simp
      have := right_base hr
      rw [hb] at this
      exact (name_plain this).1 c hc
    | true =>
      have hof := ends_of hE
      have h2 := endsB_two hE
      rw [← hof] at hr hc
      rw [ofL_right, Bool.and_eq_true] at hr
      unfold ofL at hc
      rw [List.mem_append] at hc
      rcases hc with hc | hc
      · exact ih _ (by rw [List.length_take]; omega) hr.1 c hc
      · simp at hc
        rcases hc with rfl | rfl <;> (unfold plainC; decide)
theorem right_len {l : List UInt8} (h : rightB l = true) : l.length ≤ 38 := by
  have h1 := (name_plain (right_base h)).2
  rw [baseL_length] at h1
  have h2 : deepN l ≤ 3 := by
    unfold rightB at h
    simp at h
    exact h.1
  omega
theorem parts_plain {l : List UInt8} (h : partsB l = true) : (∀ c ∈ l, plainC c) ∧ l.length ≤ 65 := by
  unfold partsB memberB at h
  simp only [Bool.and_eq_true, decide_eq_true_eq] at h
  obtain ⟨h0, h1, h2, _⟩ := h
  have p1 := name_plain (classB_name h1)
  have p2 := name_plain h2
  have hs : l = l.take (dotAt l) ++ (l[dotAt l] :: l.drop (dotAt l + 1)) := by
    rw [← List.drop_eq_getElem_cons h0, List.take_append_drop]
  have hdot : l[dotAt l] = 46 := by
    have := List.findIdx_getElem (p := fun c : UInt8 => c == 46) (xs := l) (w := h0)
    exact beq_iff_eq.1 this
  refine ⟨fun c hc => ?_, ?_⟩
  · rw [hs, List.mem_append, List.mem_cons] at hc
    rcases hc with hc | rfl | hc
    · exact p1.1 c hc
    · rw [hdot]; unfold plainC; decide
    · exact p2.1 c hc
  · have q1 := p1.2
    have q2 := p2.2
    rw [List.length_take] at q1
    rw [List.length_drop] at q2
    omega
theorem plain_valid {l : List UInt8} (h : ∀ c ∈ l, plainC c) : Lib.validD l = true := by
  rw [Lib.validD_ascii l.length l (fun c hc => (h c (List.mem_of_mem_take hc)).1), List.drop_length]
  exact Lib.validD_nil
/-- The text of an instruction that may be: of whole characters, short, without a line feed. -/
theorem allows_text {h : Nat} {s : List UInt8} (ha : allowsB h s = true) : Lib.validD s = true ∧ s.length ≤ 4096 ∧ s.contains 10 = false := by
  have nolf : (∀ c ∈ s, plainC c) → s.contains 10 = false := fun hp => by
    rw [Bool.eq_false_iff]
    intro hc
    rw [List.contains_iff_mem] at hc
    exact (hp 10 hc).2.1 rfl
  unfold allowsB at ha
  by_cases e2 : h = 2
  · rw [if_pos e2] at ha
    simp only [Bool.and_eq_true, decide_eq_true_eq, Bool.not_eq_true'] at ha
    exact ⟨ha.1.2, by omega, ha.2⟩
  rw [if_neg e2] at ha
  by_cases e3 : h = 3
  · rw [if_pos e3] at ha
    have p := name_plain (classB_name ha)
    exact ⟨plain_valid p.1, by omega, nolf p.1⟩
  rw [if_neg e3] at ha
  by_cases e4 : h = 4
  · rw [if_pos e4, Bool.or_eq_true, decide_eq_true_eq] at ha
    rcases ha with ha | ha
    · have p := name_plain (classB_name ha)
      exact ⟨plain_valid p.1, by omega, nolf p.1⟩
    · have hr : rightB s = true := by
        cases hq : rightB s with
        | true => rfl
        | false => rw [depN_not hq] at ha; omega
      have p := right_plain _ s (Nat.le_refl _) hr
      have q := right_len hr
      exact ⟨plain_valid p, by omega, nolf p⟩
  rw [if_neg e4] at ha
  by_cases e5 : h = 5
  · rw [if_pos e5, Bool.and_eq_true] at ha
    have p := right_plain _ s (Nat.le_refl _) ha.1
    have q := right_len ha.1
    exact ⟨plain_valid p, by omega, nolf p⟩
  rw [if_neg e5] at ha
  by_cases e6 : h = 6
  · rw [if_pos e6] at ha
    have p := parts_plain ha
    exact ⟨plain_valid p.1, by omega, nolf p.1⟩
  rw [if_neg e6] at ha
  have : s = [] := by simpa using ha
  rw [this]
  exact ⟨rfl, by simp, rfl⟩
/-- What an instruction that may be is. -/
theorem ins_fine {x : Ins} (h : x.e = 0) : idx x.op < 42 ∧ nameAt (idx x.op) = x.op ∧ (hasAt (idx x.op) ≠ 1 → x.n = 0) ∧ allowsB (hasAt (idx x.op)) x.s = true := by
  unfold Ins.e checkE at h
  by_cases hN : idx x.op < 42
  · rw [if_pos hN] at h
    refine ⟨hN, beq_iff_eq.1 (idx_at x.op hN), fun h1 => ?_, ?_⟩
    · by_cases hn : x.n = 0
      · exact hn
      · rw [if_pos ⟨h1, hn⟩] at h; cases h
    · split at h
      · cases h
      · split at h
        · assumption
        · cases h
  · rw [if_neg hN] at h; cases h
theorem ins_short {x : Ins} (h : x.e = 0) (h2 : hasAt (idx x.op) < 2) : x.s = [] := by
  have ha := (ins_fine h).2.2.2
  unfold allowsB at ha
  rw [if_neg (by omega), if_neg (by omega), if_neg (by omega), if_neg (by omega), if_neg (by omega)] at ha
  simpa using ha
end Go.Proofs.YtpincofjopmaaaaGreatDoor
