/-
  The contracts of package code's Put and of its closure: instructions that may be are their bytes, else the first error.
  Conditions: the tables hold what they hold at the start; the instructions lie in memory that was there before; at most 2^20 of them, of at most 2^20 bytes each.
-/
import Derived.Test.YtcoobdbfgiiejaaDoorCEach
import Derived.Test.YtcoobdbfgiiejaaDoorWS
namespace Go.Proofs.YtcoobdbfgiiejaaDoor
open Go.RowKit
/-- A writer of the call's own, and a cell that points to it. -/
structure WC (w0 w : World) (b c : Nat) (v : Value) (l : List UInt8) : Prop where
  ws : WS w0 w b v l
  cell : w.cell? ⟨c, 0, none⟩ = some (.pointer (some ⟨b, 0, none⟩))
  ne : c ≠ b
  nv : v.ownBlock ≠ some c
theorem WC.lt {w0 w : World} {b c : Nat} {v : Value} {l : List UInt8} (h : WC w0 w b c v l) : c < w.heap.size := World.block_lt_of_cell? w _ h.cell
theorem WC.alloc {w0 w : World} {b c : Nat} {v : Value} {l : List UInt8} (h : WC w0 w b c v l) (o : Obj) : WC w0 (w.alloc o) b c v l :=
  ⟨h.ws.alloc o, ((Only.refl (fun _ => False) w).alloc o).cell h.cell id, h.ne, h.nv⟩
theorem WC.keep {w0 w w' : World} {b c : Nat} {v : Value} {l : List UInt8} (h : WC w0 w b c v l) (hb : Below w.heap.size w w') : WC w0 w' b c v l :=
  ⟨h.ws.keep hb, (Only.ofBelow (S := fun _ => False) hb).cell h.cell id, h.ne, h.nv⟩
/-- What is said of a call that writes. -/
def WroteC (w0 : World) (b c : Nat) (l : List UInt8) (e : Ending) (w' : World) : Prop := e = .returned (.tuple #[]) ∧ ∃ v', WC w0 w' b c v' l
/-- The same, with what else stays: the blocks that are not the writer's. -/
def WroteG (w0 w : World) (b c : Nat) (v : Value) (l : List UInt8) (e : Ending) (w' : World) : Prop := e = .returned (.tuple #[]) ∧ ∃ v', WC w0 w' b c v' l ∧ WrGrew w b v w' v'
theorem WC.wrote {w0 w w' : World} {b c : Nat} {v : Value} {l m : List UInt8} {e : Ending} (h : WC w0 w b c v l) (hw : Wrote b v l m w e w') : WroteG w0 w b c v (l ++ m) e w' := by
  obtain ⟨he, v', h1, h2⟩ := hw
  refine ⟨he, v', ⟨h.ws.step h1 h2, h2.keeps h.ne h.nv h.cell, h.ne, fun q => ?_⟩, h2⟩
  rcases h2.came with e | e
  · exact h.nv (e ▸ q)
  · have h3 := e c q
    have h4 := h.lt
    omega
theorem wc_num {w0 w : World} {b c : Nat} {v : Value} {l : List UInt8} (h : WC w0 w b c v l) (x : Nat) (hx : x < 18446744073709551616) (hlim : l.length + 10 ≤ 140737488355328) :
    Calls Tryd.prog 26 #[.pointer (some ⟨b, 0, none⟩), .slice (some ⟨w.heap.size, 0, none⟩) 1 1] (w.alloc (.cells #[.int .u64 x] 53)) (WroteG w0 (w.alloc (.cells #[.int .u64 x] 53)) b c v (l ++ Lib.uvarint x)) :=
  (wnum_one b w.heap.size v l x _ (h.ws.wr.alloc _) h.ws.wr.notNew.1 h.ws.wr.notNew.2 (by simp) hx hlim).mono fun _ _ hw => (h.alloc _).wrote hw
theorem wc_int {w0 w : World} {b c : Nat} {v : Value} {l : List UInt8} (h : WC w0 w b c v l) (x : Int) (hx : -9223372036854775808 ≤ x ∧ x ≤ 9223372036854775807) (hlim : l.length + 10 ≤ 140737488355328) :
    Calls Tryd.prog 29 #[.pointer (some ⟨b, 0, none⟩), .slice (some ⟨w.heap.size, 0, none⟩) 1 1] (w.alloc (.cells #[.int .i64 x] 2)) (WroteG w0 (w.alloc (.cells #[.int .i64 x] 2)) b c v (l ++ Lib.uvarint (Lib.zigzag x))) :=
  (wint_one b w.heap.size v l x _ (h.ws.wr.alloc _) h.ws.wr.notNew.1 h.ws.wr.notNew.2 (by simp) hx hlim).mono fun _ _ hw => (h.alloc _).wrote hw
theorem wc_text {w0 w : World} {b c : Nat} {v : Value} {l : List UInt8} (h : WC w0 w b c v l) (s : List UInt8) (hlim : l.length + (s.length + 10) ≤ 140737488355328) :
    Calls Tryd.prog 30 #[.pointer (some ⟨b, 0, none⟩), .slice (some ⟨w.heap.size, 0, none⟩) 1 1] (w.alloc (.cells #[.string (S s)] 9)) (WroteG w0 (w.alloc (.cells #[.string (S s)] 9)) b c v (l ++ textBytes s)) :=
  (wtext_one b w.heap.size v l s _ (h.ws.wr.alloc _) h.ws.wr.notNew.1 h.ws.wr.notNew.2 (by simp) hlim).mono fun _ _ hw => (h.alloc _).wrote hw
/-- An instruction's operand as bytes. -/
def argBytes (h : Nat) (n : Int) (s : List UInt8) : List UInt8 := if h = 1 then Lib.uvarint (Lib.zigzag n) else if 2 ≤ h then textBytes s else []
set_option maxHeartbeats 2000000 in
set_option maxRecDepth 100000 in
theorem put1_any {w0 w : World} {b c : Nat} {v : Value} {l : List UInt8} (hw : WC w0 w b c v l) (op nm s : List UInt8) (n : Int) (q h : Nat) (hq : q ≤ 42) (hn : -9223372036854775808 ≤ n ∧ n ≤ 9223372036854775807) (hlim : l.length + (s.length + 30) ≤ 140737488355328) :
    Calls Tryd.prog 28 #[insV op n s, .int .i64 (q : Nat), .agg #[.string (S nm), .int .i64 (h : Nat)], .pointer (some ⟨c, 0, none⟩)] w (WroteC w0 b c (l ++ (Lib.uvarint q ++ argBytes h n s))) := by
  have HW := Lib.hid hw
  have HL := Lib.hid hlim
  have HN := Lib.hid hn
  have huv : (Lib.uvarint q).length ≤ 10 := Lib.uvarint_length64 (by omega)
  have HU := Lib.hid huv
  clear hw hlim hn huv
  go_enter Tryd.func28, Tryd.ntmps28
  go_upto_region 1 with fail
  have s0 := (HW.out.alloc (.cells #[.string (S op), .int .i64 n, .string (S s)] 23)).alloc (.cells #[.string (S nm), .int .i64 (h : Nat)] 43)
  have hI : ((w.alloc (.cells #[.string (S op), .int .i64 n, .string (S s)] 23)).alloc (.cells #[.string (S nm), .int .i64 (h : Nat)] 43)).heap[w.heap.size]? = some (.cells #[.string (S op), .int .i64 n, .string (S s)] 23 (0, 0)) := ((Only.refl (fun _ => False) _).alloc _).heap (heap_alloc_new w _) id
  have hP : ((w.alloc (.cells #[.string (S op), .int .i64 n, .string (S s)] 23)).alloc (.cells #[.string (S nm), .int .i64 (h : Nat)] 43)).heap[w.heap.size + 1]? = some (.cells #[.string (S nm), .int .i64 (h : Nat)] 43 (0, 0)) := (heap_alloc_new' (w.alloc _) _ _ (by simp)).trans rfl
  have hbI : w.heap.size ≠ b := HW.out.ws.wr.notNew.1
  have hvI : v.ownBlock ≠ some w.heap.size := HW.out.ws.wr.notNew.2
  have hbP : w.heap.size + 1 ≠ b := by have := lt_of_block HW.out.ws.wr.blk; omega
  have hvP : v.ownBlock ≠ some (w.heap.size + 1) := fun e => by have := (HW.out.ws.wr.row.lt _ e).2; omega
  generalize (w.alloc (.cells #[.string (S op), .int .i64 n, .string (S s)] 23)).alloc (.cells #[.string (S nm), .int .i64 (h : Nat)] 43) = wA at s0 hI hP ⊢
  generalize w.heap.size = BI at hI hbI hvI hP hbP hvP ⊢
  generalize BI + 1 = BP at hP hbP hvP ⊢
  have hcc := s0.cell
  have HS0 := Lib.hid s0
  have HII := Lib.hid hI
  have HPP := Lib.hid hP
  clear s0 hI hP HW
  go_wp2_with fail
  refine (wc_num HS0.out q (by omega) (by have := HL.out; omega)).mono ?_
  rintro e w1 ⟨rfl, v1, s1, g1⟩
  have hI1 := g1.only.heap (((Only.refl (fun _ => False) wA).alloc _).heap HII.out id) (fun z => z.elim hbI hvI)
  have hP1 := g1.only.heap (((Only.refl (fun _ => False) wA).alloc _).heap HPP.out id) (fun z => z.elim hbP hvP)
  have hp1 : w1.cell? ⟨BP, 1, none⟩ = some (.int .i64 (h : Nat)) := by simp [World.cell?, hP1]
  have hi1 : w1.cell? ⟨BI, 1, none⟩ = some (.int .i64 n) := by simp [World.cell?, hI1]
  have hi2 : w1.cell? ⟨BI, 2, none⟩ = some (.string (S s)) := by simp [World.cell?, hI1]
  have hc1 := s1.cell
  have HS1 := Lib.hid s1
  have hlen : (l ++ Lib.uvarint q).length + (s.length + 10) ≤ 140737488355328 := by
    rw [List.length_append]
    have h1 := HL.out
    have h2 := HU.out
    omega
  have HLL := Lib.hid hlen
  clear s1 g1 hI1 hP1 hcc HS0 HII HPP hbI hvI hbP hvP hlen
  by_cases h1 : h = 1
  · subst h1
    have HAB : Hid (argBytes 1 n s = Lib.uvarint (Lib.zigzag n)) := Lib.hid (if_pos rfl)
    have HCT := Lib.hid (wc_int HS1.out n HN.out (by have := HLL.out; omega))
    go_wp2_with (go_at_call 29; refine HCT.out.mono ?_; rintro e w2 ⟨rfl, v2, s2, g2⟩)
    go_end0
    rw [HAB.out, ← List.append_assoc]
    exact ⟨rfl, v2, s2⟩
  · have e1 : ((h : Int) == 1) = false := by rw [beq_eq_false_iff_ne]; omega
    have HIT : Hid (Calls Tryd.prog 16 #[.int .i64 h] w1 fun e w' => e = .returned (.bool (decide (2 ≤ h))) ∧ w1 = w') := Lib.hid (istext_any h w1)
    by_cases h2 : 2 ≤ h
    · have HAB : Hid (argBytes h n s = textBytes s) := Lib.hid ((if_neg h1).trans (if_pos h2))
      rw [decide_eq_true h2] at HIT
      have HCT := Lib.hid (wc_text HS1.out s HLL.out)
      clear h1 h2
      go_wp2_with (first | (go_at_call 16; refine HIT.out.mono ?_; rintro e w2 ⟨rfl, rfl⟩) | (go_at_call 30; refine HCT.out.mono ?_; rintro e w2 ⟨rfl, v2, s2, g2⟩))
      go_end0
      rw [HAB.out, ← List.append_assoc]
      exact ⟨rfl, v2, s2⟩
    · have HAB : Hid (argBytes h n s = []) := Lib.hid ((if_neg h1).trans (if_neg h2))
      rw [decide_eq_false h2] at HIT
      clear h1 h2
      go_wp2_with (go_at_call 16; refine HIT.out.mono ?_; rintro e w2 ⟨rfl, rfl⟩)
      go_end0
      rw [HAB.out, List.append_nil]
      exact ⟨rfl, v1, HS1.out⟩
/-- An instruction as bytes. -/
def Ins.bytes (x : Ins) : List UInt8 := Lib.uvarint (idx x.op) ++ argBytes (hasAt (idx x.op)) x.n x.s
/-- Instructions as bytes. -/
def putL (l : List Ins) : List UInt8 := Lib.uvarint l.length ++ l.flatMap Ins.bytes
/-- Numbers of 64 bits, texts that are not too long. -/
def Ins.ok (x : Ins) : Prop := (-9223372036854775808 ≤ x.n ∧ x.n ≤ 9223372036854775807) ∧ x.s.length ≤ 1048576
theorem Ins.bytes_le (x : Ins) (h : x.ok) : x.bytes.length ≤ 1048600 := by
  have h1 : (Lib.uvarint (idx x.op)).length ≤ 10 := Lib.uvarint_length64 (by have := idx_le x.op; omega)
  have h2 : (Lib.uvarint (Lib.zigzag x.n)).length ≤ 10 := Lib.uvarint_length64 (Lib.zigzag_lt h.1.1 h.1.2)
  have h3 : (Lib.uvarint x.s.length).length ≤ 10 := Lib.uvarint_length64 (by have := h.2; omega)
  have h4 := h.2
  unfold Ins.bytes argBytes textBytes
  rw [List.length_append]
  split
  · omega
  · split
    · rw [List.length_append]; omega
    · simp; omega
theorem insBytes_le (l : List Ins) (h : ∀ x ∈ l, x.ok) : (l.flatMap Ins.bytes).length ≤ 1048600 * l.length := by
  induction l with
  | nil => simp
  | cons x r ih =>
    have h1 := x.bytes_le (h x (by simp))
    have h2 := ih (fun y hy => h y (by simp [hy]))
    rw [List.flatMap_cons, List.length_append, List.length_cons]
    omega
theorem ins_snoc (l : List Ins) (k : Nat) (x : Ins) (h : l[k]? = some x) : (l.take (k + 1)).flatMap Ins.bytes = (l.take k).flatMap Ins.bytes ++ x.bytes := by
  rw [List.take_add_one, h, List.flatMap_append]
  simp
set_option maxHeartbeats 2000000 in
set_option maxRecDepth 100000 in
theorem put_any (l : List Ins) (sv : Value) (w : World) (hT : CT w) (hs : InsSrc w sv l) (hlen : l.length ≤ 1048576) (hok : ∀ x ∈ l, x.ok) :
    Calls Tryd.prog 13 #[sv] w fun e w' => (allE l = 0 → ∃ v, e = .returned (.tuple #[v, .int .i64 0]) ∧ BS w w' v (putL l)) ∧ (allE l ≠ 0 → e = .returned (.tuple #[.slice none 0 0, .int .i64 (allE l : Nat)]) ∧ Below w.heap.size w w') := by
  have hmf : ∀ (fn : Fn) (first cap : Array Value) (w : World), (Instr.makeFunc fn first cap).run Tryd.prog w = .ok (.func fn first cap) w := fun _ _ _ _ => rfl
  obtain ⟨so, sn, sc, rfl, hsn⟩ : ∃ so sn sc, sv = .slice so sn sc ∧ sn = l.length := by
    rcases hs with ⟨ao, cp0, rfl, rfl⟩ | ⟨b, o, cap, rfl, _⟩
    · exact ⟨_, _, _, rfl, rfl⟩
    · exact ⟨_, _, _, rfl, rfl⟩
  have HSN := Lib.hid hsn
  have HT := Lib.hid hT
  have HS := Lib.hid hs
  have HOK := Lib.hid hok
  have HLN := Lib.hid hlen
  have hsn1 : sn ≤ 1048576 := by omega
  clear hsn hT hs hok hlen
  go_enter Tryd.func13, Tryd.ntmps13
  go_wp2_with fail
  refine (write_any _).mono ?_
  rintro e w1 ⟨rfl, rfl⟩
  go_upto_region 2 with fail
  have s0 : WC w ((w.alloc (.cells #[.slice none 0 0] 75)).alloc (.cells #[.pointer (some ⟨w.heap.size, 0, none⟩)] 50)) w.heap.size (w.heap.size + 1) (.slice none 0 0) [] :=
    ⟨(WS.new (Below.refl _ w)).alloc _, by simp, by omega, by simp [Value.ownBlock]⟩
  have HQ := Lib.hid (Nat.le_refl w.heap.size)
  generalize (w.alloc (.cells #[.slice none 0 0] 75)).alloc (.cells #[.pointer (some ⟨w.heap.size, 0, none⟩)] 50) = wB at s0 ⊢
  generalize hbc : w.heap.size + 1 = c at s0 ⊢
  generalize hbb : w.heap.size = b at s0 HQ ⊢
  clear hbc
  have hcc := s0.cell
  have HS0 := Lib.hid s0
  clear s0
  go_wp2_with fail
  have hk1 := wc_num HS0.out sn (by omega) (by simp)
  refine hk1.mono ?_
  rintro e w2 ⟨rfl, v2, s2, g2⟩
  rw [List.nil_append] at s2
  clear hk1 g2 hcc
  have HS2 := Lib.hid s2
  clear s2
  go_wp2_with fail
  have hea := each_any 28 (.pointer (some ⟨c, 0, none⟩)) w w2 l (.slice so sn sc) (fun k w' => ∃ v, WC w w' b c v (Lib.uvarint l.length ++ (l.take k).flatMap Ins.bytes)) (enters_cf Tryd.func28 (by kernel_rfl) rfl)
    HT.out HS.out (fun x hx => by have := (HOK.out x hx).2; omega) (by have := HLN.out; omega) ⟨v2, by have h := HS2.out; rw [HSN.out] at h; simpa using h⟩ (fun k w' ⟨v, h⟩ => h.ws.bel) (fun k w' w'' ⟨v, h⟩ hb => ⟨v, h.keep hb⟩)
    (fun k x w' hx he ⟨v, h⟩ => by
      have hxo := HOK.out x (List.mem_of_getElem? hx)
      have hl1 := insBytes_le (l.take k) (fun y hy => HOK.out y (List.mem_of_mem_take hy))
      have hl2 : (l.take k).length ≤ l.length := by rw [List.length_take]; omega
      have hl3 : (Lib.uvarint l.length).length ≤ 10 := Lib.uvarint_length64 (by have := HLN.out; omega)
      have hl4 := HLN.out
      have hp := put1_any h x.op (nameAt (idx x.op)) x.s x.n (idx x.op) (hasAt (idx x.op)) (idx_le x.op) hxo.1 (by rw [List.length_append]; have := hxo.2; omega)
      refine hp.mono ?_
      rintro e w'' ⟨rfl, v', h'⟩
      refine ⟨rfl, v', ?_⟩
      rw [ins_snoc l k x hx, ← List.append_assoc]
      exact h')
  refine hea.mono ?_
  clear hea
  rintro e w3 ⟨rfl, h3, hb3⟩
  by_cases hz : allE l = 0
  · obtain ⟨v3, s3⟩ := h3 hz
    rw [List.take_of_length_le (Nat.le_refl _)] at s3
    have hlb : (Lib.uvarint l.length ++ l.flatMap Ins.bytes).length ≤ 140737488355328 := by
      have h1 := insBytes_le l HOK.out
      have h2 : (Lib.uvarint l.length).length ≤ 10 := Lib.uvarint_length64 (by have := HLN.out; omega)
      have h4 := HLN.out
      rw [List.length_append]
      omega
    have HBY := Lib.hid (ws_bytes s3.ws hlb)
    have hc3 := s3.cell
    have HZ := Lib.hid hz
    rw [hz]
    clear h3 s3 hlb hz
    go_wp2_with (go_at_call 31; refine HBY.out.mono ?_; rintro e w4 ⟨v4, rfl, s4⟩; obtain ⟨ao4, m4, c4, rfl⟩ := row_shape s4.row)
    go_ret2
    exact ⟨fun _ => ⟨_, rfl, s4⟩, fun h => absurd HZ.out h⟩
  · have hzb : (((allE l : Nat) : Int) != 0) = true := by rw [bne_iff_ne]; omega
    have HZ := Lib.hid hz
    clear h3 hz
    generalize hE : allE l = E at hzb HZ ⊢
    have HE := Lib.hid hE
    clear hE
    go_wp2
    go_ret2
    rw [HE.out]
    exact ⟨fun h => absurd h HZ.out, fun _ => ⟨rfl, hb3⟩⟩
end Go.Proofs.YtcoobdbfgiiejaaDoor
