/-
  The contracts of package code's numbered (with its closure) and takeOne.
  Conditions: the tables hold what they hold at the start.
  The contract of package code's takeOne: an instruction, or none; the instruction that was written, if the reader stands ahead of one.
  Conditions: the tables hold what they hold at the start.
  The contract of package code's Take: some instructions, at most 200; those that were written, if the reader stands ahead of them.
  Conditions: the tables hold what they hold at the start.
-/
import Derived.Test.YtpincofjopmaaaaGreatDoorM15
import Derived.Deep.RegionHeld
import Derived.Laws.MakeOwn
namespace Go.Proofs.YtpincofjopmaaaaGreatDoor
open Go.RowKit
set_option maxHeartbeats 2000000 in
set_option maxRecDepth 100000 in
theorem numbered1_any (k b V : Nat) (a : List UInt8) (h : Int) (w : World) (hk : k < 42) (hc : w.cell? ⟨b, 0, none⟩ = some (.int .u64 (V : Nat))) :
    Calls Tryz.prog 285 #[.int .i64 k, .agg #[.string (S a), .int .i64 h], .pointer (some ⟨b, 0, none⟩)] w fun e w' => e = .returned (.bool (decide (k = V))) ∧ Below w.heap.size w w' := by
  have hcA : ∀ o : Obj, (w.alloc o).cell? ⟨b, 0, none⟩ = some (.int .u64 (V : Nat)) := fun o => ((Only.refl (fun _ => False) w).alloc o).cell hc id
  clear hc
  have hk0 : (0 : Int) ≤ k := by omega
  have hk1 : (k : Int) < 42 := by omega
  go_enter Tryz.func285, Tryz.ntmps285
  go_wp2
  go_ret
  refine ⟨?_, (Below.refl _ w).alloc (Nat.le_refl _) _⟩
  refine congrArg (fun q => Ending.returned (.bool q)) ?_
  rw [Bool.eq_iff_iff, decide_eq_true_eq, beq_iff_eq]
  omega
/-- Where a number leads: an operator, or none. -/
def at42 (V : Nat) : Nat := if V < 42 then V else 42
theorem at42_lt {V : Nat} (h : V < 42) : at42 V = V := if_pos h
theorem at42_ge {V : Nat} (h : ¬ V < 42) : at42 V = 42 := if_neg h
set_option maxHeartbeats 2000000 in
set_option maxRecDepth 100000 in
theorem numbered_any (V : Nat) (w : World) (hO : OpTab w) :
    Calls Tryz.prog 276 #[.int .u64 (V : Nat)] w fun e w' => e = .returned (.tuple #[.agg #[.string (S (nameAt (at42 V))), .int .i64 (hasAt (at42 V) : Nat)], .bool (decide (V < 42))]) ∧ Below w.heap.size w w' := by
  have hmf : ∀ (fn : Fn) (first cap : Array Value) (w : World), (Instr.makeFunc fn first cap).run Tryz.prog w = .ok (.func fn first cap) w := fun _ _ _ _ => rfl
  have HO := Lib.hid hO
  clear hO
  have hN : at42 V ≤ 42 := by unfold at42; split <;> omega
  have hd : decide (at42 V < 42) = decide (V < 42) := by unfold at42; split <;> simp_all
  have HN := Lib.hid hN
  have HD := Lib.hid hd
  clear hN hd
  go_enter Tryz.func276, Tryz.ntmps276
  go_wp2_with fail
  have hb0 : Below w.heap.size w ((w.alloc (.cells #[.int .u64 (V : Nat)] 213)).alloc (.cells #[.string ⟨#[]⟩, .int .i64 0] 242)) := ((Below.refl _ w).alloc (Nat.le_refl _) _).alloc (by simp) _
  have hc0 : ((w.alloc (.cells #[.int .u64 (V : Nat)] 213)).alloc (.cells #[.string ⟨#[]⟩, .int .i64 0] 242)).heap[w.heap.size]? = some (.cells #[.int .u64 (V : Nat)] 213 (0, 0)) := ((Only.refl (fun _ => False) _).alloc _).heap (heap_alloc_new w _) id
  have hr0 : ((w.alloc (.cells #[.int .u64 (V : Nat)] 213)).alloc (.cells #[.string ⟨#[]⟩, .int .i64 0] 242)).heap[w.heap.size + 1]? = some (.cells #[.string ⟨#[]⟩, .int .i64 0] 242 (0, 0)) := (heap_alloc_new' (w.alloc _) _ _ (by simp)).trans rfl
  generalize hw0 : (w.alloc (.cells #[.int .u64 (V : Nat)] 213)).alloc (.cells #[.string ⟨#[]⟩, .int .i64 0] 242) = w0 at hb0 hc0 hr0 ⊢
  clear hw0
  have hfind := find_any 285 (.pointer (some ⟨w.heap.size, 0, none⟩)) (fun k => decide (k = V)) (at42 V) (enters_cf Tryz.func285 (by kernel_rfl) rfl) w0 (HO.out.keep hb0)
    (fun k w' hk hb => numbered1_any k _ V _ _ w' hk (by simp [World.cell?, (Only.ofBelow (S := fun _ => False) hb).heap hc0 id])) HN.out (fun j hj => by
      rw [decide_eq_false_iff_not]
      unfold at42 at hj
      split at hj <;> omega) (fun h => by
      rw [decide_eq_true_eq]
      unfold at42 at h ⊢
      split at h
      · rw [if_pos (by assumption)]
      · omega)
  rw [HD.out] at hfind
  generalize (if at42 V < 42 then at42 V else 0) = q at hfind
  refine hfind.mono ?_
  clear hfind
  rintro e w1 ⟨rfl, hb1⟩
  have hr1 : w1.heap[w.heap.size + 1]? = some (.cells #[.string ⟨#[]⟩, .int .i64 0] 242 (0, 0)) := (Only.ofBelow (S := fun _ => False) hb1).heap hr0 id
  have hbw : Below w.heap.size w w1 := hb0.trans (hb1.mono hb0.size)
  clear hb1 hb0 hc0 hr0
  have hlt : w.heap.size + 1 < w1.heap.size := lt_of_block hr1
  obtain ⟨nm, hnm⟩ : ∃ nm, nm = nameAt (at42 V) := ⟨_, rfl⟩
  obtain ⟨ha, hha⟩ : ∃ ha, ha = hasAt (at42 V) := ⟨_, rfl⟩
  obtain ⟨d, hd⟩ : ∃ d, d = decide (V < 42) := ⟨_, rfl⟩
  rw [← hnm, ← hha, ← hd]
  have HNM := Lib.hid hnm
  have HHA := Lib.hid hha
  have HDD := Lib.hid hd
  clear hnm hha hd
  have hf0 : w1.frozen? ⟨w.heap.size + 1, 0, none⟩ = false := by simp [World.frozen?, hr1]
  have hf1 : w1.frozen? ⟨w.heap.size + 1, 1, none⟩ = false := by simp [World.frozen?, hr1]
  have hd0 : w1.cell? ⟨w.heap.size + 1, 0, none⟩ = some (.string ⟨#[]⟩) := by simp [World.cell?, hr1]
  have hd1 : w1.cell? ⟨w.heap.size + 1, 1, none⟩ = some (.int .i64 0) := by simp [World.cell?, hr1]
  have HR := Lib.hid hr1
  clear hr1
  go_wp2
  have hl := load_op (w := ((w1.setCell ⟨w.heap.size + 1, 0, none⟩ (.string (S nm))).setCell ⟨w.heap.size + 1, 1, none⟩ (.int .i64 (ha : Nat))).alloc (.cells #[.string (S nm), .int .i64 (ha : Nat)] 242)) (((Only.refl (fun _ => False) _).alloc _).heap (set2 HR.out) id)
  refine bodyPost_ret (v := .tuple #[.agg #[.string (S nm), .int .i64 (ha : Nat)], .bool d]) ?_ rfl ⟨?_, ?_⟩
  · simp [results, Tryz.results276, asAddr, hl]
  · rw [HNM.out, HHA.out, HDD.out]
  · exact ((hbw.setCell (by simp) _).setCell (by simp) _).alloc (by simp; omega) _
end Go.Proofs.YtpincofjopmaaaaGreatDoor
namespace Go.Proofs.YtpincofjopmaaaaGreatDoor
open Go.RowKit
/-- From w on nothing that was there has changed but the reader, and the reader stands so. -/
structure TK (w0 w w' : World) (b : Nat) (v : Value) (l : List UInt8) (i err : Nat) : Prop where
  rs : RS w0 w' b v l i err
  on : Only (fun k => k = b) w w'
  blt : b < w.heap.size
  vlt : ∀ g, v.ownBlock = some g → g < w.heap.size
  lo : w0.heap.size ≤ w.heap.size
theorem TK.start {w0 w : World} {b : Nat} {v : Value} {l : List UInt8} {i err : Nat} (r : RS w0 w b v l i err) : TK w0 w w b v l i err :=
  ⟨r, Only.refl _ _, lt_of_block r.rd.blk, fun g hg => (r.rd.row.lt g hg).2, r.bel.size⟩
theorem TK.below {w0 w w' w'' : World} {b : Nat} {v : Value} {l : List UInt8} {i err : Nat} (h : TK w0 w w' b v l i err) (hb : Below w'.heap.size w' w'') : TK w0 w w'' b v l i err :=
  ⟨h.rs.keep hb, h.on.trans (Only.ofBelow hb), h.blt, h.vlt, h.lo⟩
theorem TK.alloc {w0 w w' : World} {b : Nat} {v : Value} {l : List UInt8} {i err : Nat} (h : TK w0 w w' b v l i err) (o : Obj) : TK w0 w (w'.alloc o) b v l i err :=
  h.below ((Below.refl _ _).alloc (Nat.le_refl _) o)
theorem TK.got {w0 w w' w'' : World} {b : Nat} {v : Value} {l : List UInt8} {i err i' err' : Nat} (h : TK w0 w w' b v l i err) (ho : Only (fun k => k = b) w' w'') (hr : RdAt w'' b v l i' err') : TK w0 w w'' b v l i' err' :=
  ⟨h.rs.step ho hr, h.on.trans ho, h.blt, h.vlt, h.lo⟩
theorem TK.set {w0 w w' : World} {b : Nat} {v : Value} {l : List UInt8} {i err : Nat} (h : TK w0 w w' b v l i err) {I : Nat} (hI : w.heap.size ≤ I) (o : Nat) (u : Value) : TK w0 w (w'.setCell ⟨I, o, none⟩ u) b v l i err := by
  have ho : Only (fun k => k = I) w' (w'.setCell ⟨I, o, none⟩ u) := (Only.refl (fun k => k = I) w').setCell (p := ⟨I, o, none⟩) rfl u
  refine ⟨⟨h.rs.rd.keep ho (fun e => ?_) (fun g hg e => ?_), h.rs.lo, h.rs.own, h.rs.bel.setCell (p := ⟨I, o, none⟩) (Nat.le_trans h.lo hI) u⟩, h.on.then ho (fun k hk e => ?_), h.blt, h.vlt, h.lo⟩
  · have := h.blt; omega
  · have := h.vlt g hg; omega
  · omega
theorem TK.drew {w0 w w' : World} {b : Nat} {v : Value} {l : List UInt8} {i err : Nat} (h : TK w0 w w' b v l i err) : TK w0 w w'.drew b v l i err := h.below ((Below.refl _ _).drew)
/-- A block of three cells. -/
def Three (w : World) (I : Nat) (x y z : Value) : Prop := w.heap[I]? = some (.cells #[x, y, z] 70 (0, 0))
theorem Three.cells {w : World} {I : Nat} {x y z : Value} (h : Three w I x y z) : (w.cell? ⟨I, 0, none⟩ = some x ∧ w.cell? ⟨I, 1, none⟩ = some y ∧ w.cell? ⟨I, 2, none⟩ = some z) ∧ (∀ o, w.frozen? ⟨I, o, none⟩ = false) ∧ I < w.heap.size := by
  unfold Three at h
  exact ⟨⟨by simp [World.cell?, h], by simp [World.cell?, h], by simp [World.cell?, h]⟩, fun o => by simp [World.frozen?, h], lt_of_block h⟩
theorem Three.keep {T : Nat → Prop} {w w' : World} {I : Nat} {x y z : Value} (h : Three w I x y z) (ho : Only T w w') (hn : ¬ T I) : Three w' I x y z := ho.heap h hn
theorem Three.below {w w' : World} {I : Nat} {x y z : Value} (h : Three w I x y z) (hb : Below w.heap.size w w') : Three w' I x y z := h.keep (Only.ofBelow (S := fun _ => False) hb) id
theorem Three.alloc {w : World} {I : Nat} {x y z : Value} (h : Three w I x y z) (o : Obj) : Three (w.alloc o) I x y z := h.keep ((Only.refl (fun _ => False) w).alloc o) id
theorem Three.set_ne {w : World} {I J o : Nat} {x y z u : Value} (h : Three w I x y z) (hn : I ≠ J) : Three (w.setCell ⟨J, o, none⟩ u) I x y z :=
  h.keep ((Only.refl (fun k => k = J) w).setCell (p := ⟨J, o, none⟩) rfl u) hn
theorem Three.new (w : World) (x y z : Value) : Three (w.alloc (.cells #[x, y, z] 70)) w.heap.size x y z := heap_alloc_new w _
theorem Three.all {w : World} {I : Nat} {x y z x' y' z' : Value} (h : Three w I x y z) : Three (((w.setCell ⟨I, 0, none⟩ x').setCell ⟨I, 1, none⟩ y').setCell ⟨I, 2, none⟩ z') I x' y' z' := by
  unfold Three at h ⊢
  rw [heap_setCell_self (heap_setCell_self (heap_setCell_self h))]
  rfl
theorem Three.one {w : World} {I : Nat} {x y z y' : Value} (h : Three w I x y z) : Three (w.setCell ⟨I, 1, none⟩ y') I x y' z := by
  unfold Three at h ⊢
  rw [heap_setCell_self h]
  rfl
theorem Three.two {w : World} {I : Nat} {x y z z' : Value} (h : Three w I x y z) : Three (w.setCell ⟨I, 2, none⟩ z') I x y z' := by
  unfold Three at h ⊢
  rw [heap_setCell_self h]
  rfl
theorem range3 {w : World} {I : Nat} {x y z : Value} (h : Three w I x y z) : w.rangeAt I 0 [x, y, z] := by
  intro j v hj
  obtain ⟨⟨h0, h1, h2⟩, _, _⟩ := h.cells
  match j, hj with
  | 0, hj => simp at hj; subst hj; simpa using h0
  | 1, hj => simp at hj; subst hj; simpa using h1
  | 2, hj => simp at hj; subst hj; simpa using h2
  | j + 3, hj => simp at hj
theorem info_ins3 : (Tryz.prog.info? 70).map (·.size) = some 3 := by kernel_rfl
theorem load_ins {w : World} {I : Nat} {x y z : Value} (h : Three w I x y z) : (loadVar 70 ⟨I, 0, none⟩).run Tryz.prog w = .ok (.agg #[x, y, z]) w :=
  run_loadVar_mid (P := Tryz.prog) w I 0 70 [x, y, z] _ (range3 h) Tryz.underlying70 rfl info_ins3
/-- What is said of takeOne. -/
def OneG (w0 : World) (b : Nat) (v : Value) (l : List UInt8) (i err : Nat) (w : World) (e : Ending) (w' : World) : Prop :=
  ∃ (x : Ins) (ok : Bool) (i' err' : Nat), e = .returned (.tuple #[x.v, .bool ok]) ∧ x.ok ∧ TK w0 w w' b v l i' err' ∧ (ok = true → x.e = 0) ∧
    (∀ (y : Ins) (r : List UInt8), err = 0 → y.ok → y.e = 0 → l.drop i = y.bytes ++ r → x = y ∧ ok = true ∧ i' = i + y.bytes.length ∧ err' = 0)
theorem ins_eq {a s : List UInt8} {n : Int} {y : Ins} (h1 : a = y.op) (h2 : n = y.n) (h3 : s = y.s) : (⟨a, n, s⟩ : Ins) = y := by subst h1 h2 h3; rfl
theorem bytes_len (y : Ins) (h : Nat) (e : h = hasAt (idx y.op)) : y.bytes.length = (Lib.uvarint (idx y.op)).length + (argBytes h y.n y.s).length := by
  unfold Ins.bytes
  rw [List.length_append, e]
theorem drop_more {l a r : List UInt8} {i k : Nat} (h : l.drop i = a ++ r) (hk : k = a.length) : l.drop (i + k) = r := by
  rw [← List.drop_drop, h, hk, List.drop_left]
set_option maxHeartbeats 4000000 in
set_option maxRecDepth 100000 in
theorem takeOne_any {w0 w : World} {b : Nat} {v : Value} {l : List UInt8} {i err : Nat} (r0 : RS w0 w b v l i err) (hT : CT w0) :
    Calls Tryz.prog 259 #[.pointer (some ⟨b, 0, none⟩)] w (OneG w0 b v l i err w) := by
  have HT := Lib.hid hT
  have t0 := TK.start r0
  have T0 := Lib.hid t0
  clear r0 hT t0
  go_enter Tryz.func259, Tryz.ntmps259
  go_wp2_with fail
  have hRW : w.heap.size ≤ w.heap.size := Nat.le_refl _
  have hbR : w.heap.size ≠ b := by have := T0.out.blt; omega
  have qA := Three.new w (.string ⟨#[]⟩) (.int .i64 0) (.string ⟨#[]⟩)
  have tA := T0.out.alloc (.cells #[.string ⟨#[]⟩, .int .i64 0, .string ⟨#[]⟩] 70)
  generalize w.alloc (.cells #[.string ⟨#[]⟩, .int .i64 0, .string ⟨#[]⟩] 70) = wA at qA tA ⊢
  generalize hRR : w.heap.size = R at qA hbR ⊢
  rw [hRR] at hRW
  have HRW : Hid (w.heap.size ≤ R) := Lib.hid (by omega)
  clear hRR hRW
  refine (rnum_g tA.rs.rd).mono ?_
  rintro e w1 ⟨V, i1, err1, hV, ⟨rfl, ho1, rd1⟩, g1⟩
  have t1 := tA.got ho1 rd1
  have q1 := qA.keep ho1 hbR
  have T1 := Lib.hid t1
  have Q1 := Lib.hid q1
  have G1 := Lib.hid g1
  clear tA qA ho1 rd1 t1 q1 g1 T0 hV
  go_wp2_with fail
  refine (numbered_any V w1 (HT.out.keep T1.out.rs.bel).ops).mono ?_
  rintro e w2 ⟨rfl, hb2⟩
  have t2 := T1.out.below hb2
  have q2 := Q1.out.below hb2
  have T2 := Lib.hid t2
  have Q2 := Lib.hid q2
  clear t2 q2 hb2 T1 Q1
  by_cases hV : V < 42
  · rw [at42_lt hV, decide_eq_true hV]
    obtain ⟨nm, hnm⟩ : ∃ nm, nm = nameAt V := ⟨_, rfl⟩
    obtain ⟨h, hh⟩ : ∃ h, h = hasAt V := ⟨_, rfl⟩
    rw [← hnm, ← hh]
    have HNM := Lib.hid hnm
    have HHH := Lib.hid hh
    have HV := Lib.hid hV
    clear hnm hh hV
    -- what the guarantee says of the operator
    have HGO : Hid (∀ (y : Ins) (r : List UInt8), err = 0 → y.e = 0 → l.drop i = y.bytes ++ r → nm = y.op ∧ h = hasAt (idx y.op) ∧ i1 = i + (Lib.uvarint (idx y.op)).length ∧ err1 = 0 ∧ l.drop i1 = argBytes h y.n y.s ++ r) := Lib.hid (fun y r he hye hd => by
      have hd' := hd
      unfold Ins.bytes at hd
      rw [List.append_assoc] at hd
      obtain ⟨e1, e2, e3⟩ := G1.out (idx y.op) _ he (by have := idx_le y.op; omega) hd
      have ha : h = hasAt (idx y.op) := by rw [HHH.out, e1]
      refine ⟨by rw [HNM.out, e1]; exact (ins_fine hye).2.1, ha, e2, e3, ?_⟩
      rw [e2, ha]
      exact drop_more hd rfl)
    have HH6 : Hid (h ≤ 6) := Lib.hid (by rw [HHH.out]; exact hasAt_le V)
    clear G1
    by_cases h1 : h = 1
    · subst h1
      go_wp2_with fail
      have iB : Three ((w2.alloc (.cells #[.string (S nm), .int .i64 (1 : Nat)] 242)).alloc (.cells #[.string (S nm), .int .i64 0, .string ⟨#[]⟩] 70)) (w2.heap.size + 1) (.string (S nm)) (.int .i64 0) (.string ⟨#[]⟩) := by
        have h := Three.new (w2.alloc (.cells #[.string (S nm), .int .i64 (1 : Nat)] 242)) (.string (S nm)) (.int .i64 0) (.string ⟨#[]⟩)
        simpa using h
      have tB := (T2.out.alloc (.cells #[.string (S nm), .int .i64 (1 : Nat)] 242)).alloc (.cells #[.string (S nm), .int .i64 0, .string ⟨#[]⟩] 70)
      have qB := (Q2.out.alloc (.cells #[.string (S nm), .int .i64 (1 : Nat)] 242)).alloc (.cells #[.string (S nm), .int .i64 0, .string ⟨#[]⟩] 70)
      have oB : ((w2.alloc (.cells #[.string (S nm), .int .i64 (1 : Nat)] 242)).alloc (.cells #[.string (S nm), .int .i64 0, .string ⟨#[]⟩] 70)).heap[w2.heap.size]? = some (.cells #[.string (S nm), .int .i64 (1 : Nat)] 242 (0, 0)) := ((Only.refl (fun _ => False) _).alloc _).heap (heap_alloc_new w2 _) id
      have hIR : w2.heap.size + 1 ≠ R := by have := Q2.out.cells.2.2; omega
      have hIb : w2.heap.size + 1 ≠ b := by have h1 := T2.out.blt; have h2 := T2.out.on.size; omega
      have hIW : w.heap.size ≤ w2.heap.size + 1 := by have h2 := T2.out.on.size; omega
      generalize (w2.alloc (.cells #[.string (S nm), .int .i64 (1 : Nat)] 242)).alloc (.cells #[.string (S nm), .int .i64 0, .string ⟨#[]⟩] 70) = wB at iB tB qB oB ⊢
      generalize w2.heap.size + 1 = I at iB hIR hIb hIW ⊢
      have oc1 : wB.cell? ⟨w2.heap.size, 1, none⟩ = some (.int .i64 (1 : Nat)) := by simp [World.cell?, oB]
      have HIR := Lib.hid hIR
      have HIW := Lib.hid hIW
      clear oB hIR hIW
      clear oc1
      refine (rint_g tB.rs.rd).mono ?_
      rintro e w3 ⟨n, i3, err3, hn, ⟨rfl, ho3, rd3⟩, g3⟩
      have t3 := tB.got ho3 rd3
      have j3 := iB.keep ho3 hIb
      have q3 := qB.keep ho3 hbR
      have G3 := Lib.hid g3
      have HNB := Lib.hid hn
      obtain ⟨⟨_, c1, _⟩, f, _⟩ := j3.cells
      have f1 := f 1
      have J3 := Lib.hid j3
      have K3 := Lib.hid t3
      have Q3 := Lib.hid q3
      clear tB iB qB ho3 rd3 g3 hn t3 j3 q3 f T2 Q2
      go_upto_region 9 with fail
      have t9 := K3.out.set (I := I) HIW.out 1 (.int .i64 n)
      have i9 := J3.out.one (y' := .int .i64 n)
      have q9 := Q3.out.set_ne (o := 1) (u := .int .i64 n) (fun e => HIR.out e.symm)
      generalize w3.setCell ⟨I, 1, none⟩ (.int .i64 n) = w9 at t9 i9 q9 ⊢
      clear c1 f1 J3 K3 Q3
      clear hbR hIb
      have HCK : Hid (∀ W, Below w9.heap.size w9 W → Calls Tryz.prog 266 #[.agg #[.string (S nm), .int .i64 n, .string ⟨#[]⟩]] W fun e w' => e = .returned (.int .i64 (checkE nm n [] : Nat)) ∧ Below w9.heap.size w9 w') := Lib.hid (fun W hW => by
        exact (check_any nm n [] W (HT.out.keep (t9.below hW).rs.bel) (by simp)).mono (fun _ _ h => ⟨h.1, hW.trans (h.2.mono hW.size)⟩))
      have T9 := Lib.hid t9
      have I9 := Lib.hid i9
      have R9 := Lib.hid q9
      have HCL : Hid (∀ W, Below w9.heap.size w9 W → W.cell? ⟨I, 0, none⟩ = some (.string (S nm)) ∧ W.cell? ⟨I, 1, none⟩ = some (.int .i64 n) ∧ W.cell? ⟨I, 2, none⟩ = some (.string ⟨#[]⟩)) := Lib.hid (fun W hW => (I9.out.below hW).cells.1)
      clear t9 i9 q9
      obtain ⟨E, hE⟩ : ∃ E, E = checkE nm n [] := ⟨_, rfl⟩
      rw [← hE] at HCK
      have HE := Lib.hid hE
      clear hE
      first
      | (go_region_held (fun W => W.cell? ⟨I, 0, none⟩ = some (.string (S nm)) ∧ W.cell? ⟨I, 1, none⟩ = some (.int .i64 n) ∧ W.cell? ⟨I, 2, none⟩ = some (.string ⟨#[]⟩)) (first | with_reducible exact HCL.out _ b5 | with_reducible exact HCL.out _ ((Below.refl _ _).drew) | with_reducible exact k5)
          (first | (go_at_call 266; refine (HCK.out _ (by exact (Below.refl _ _).drew)).mono ?_; rintro e w5 ⟨rfl, b5⟩; obtain ⟨⟨x0, x1, x2⟩, xf, xl⟩ := (R9.out.below b5).cells; have xf0 := xf 0; have xf1 := xf 1; have xf2 := xf 2; clear xf; have k5 := (((I9.out.below b5).set_ne (o := 0) (u := .string (S nm)) HIR.out).set_ne (o := 1) (u := .int .i64 n) HIR.out |>.set_ne (o := 2) (u := .string ⟨#[]⟩) HIR.out).cells.1)))
      | fail
      all_goals go_wp2
      have l5 := load_ins ((R9.out.below b5).all (x' := .string (S nm)) (y' := .int .i64 n) (z' := .string ⟨#[]⟩))
      have t5 := (((T9.out.below b5).set (I := R) HRW.out 0 (.string (S nm))).set (I := R) HRW.out 1 (.int .i64 n)).set (I := R) HRW.out 2 (.string ⟨#[]⟩)
      refine bodyPost_ret (v := .tuple #[.agg #[.string (S nm), .int .i64 n, .string ⟨#[]⟩], .bool ((E : Int) == 0)]) ?_ rfl ?_
      · simp [results, Tryz.results259, asAddr, l5]
      · refine ⟨⟨nm, n, []⟩, ((E : Int) == 0), i3, err3, rfl, ⟨HNB.out, by simp⟩, t5, fun hk => ?_, fun y r he hy hye hd => ?_⟩
        · unfold Ins.e
          rw [← HE.out]
          rw [beq_iff_eq] at hk
          omega
        · obtain ⟨e1, e2, e3, e4, e5⟩ := HGO.out y r he hye hd
          rw [show argBytes 1 y.n y.s = Lib.uvarint (Lib.zigzag y.n) from if_pos rfl] at e5
          obtain ⟨f1, f2, f3⟩ := G3.out y.n r e4 hy.1 e5
          have hx : (⟨nm, n, []⟩ : Ins) = y := ins_eq e1 f1 (ins_short hye (by rw [← e2]; decide)).symm
          have hz : E = 0 := by rw [HE.out, ← hye, ← hx]; rfl
          refine ⟨hx, by rw [hz]; rfl, ?_, f3⟩
          rw [bytes_len y 1 e2, show argBytes 1 y.n y.s = Lib.uvarint (Lib.zigzag y.n) from if_pos rfl, f2, e3]
          omega
    · have e1 : ((h : Int) == 1) = false := by rw [beq_eq_false_iff_ne]; omega
      by_cases h2 : 2 ≤ h
      · have HIT : Hid (∀ W, Calls Tryz.prog 250 #[.int .i64 h] W fun e w' => e = .returned (.bool true) ∧ W = w') := Lib.hid (fun W => by
          have q := istext_any h W
          rw [decide_eq_true h2] at q
          exact q)
        have HH1 := Lib.hid h1
        have HH2 := Lib.hid h2
        clear h1 h2
        go_upto_region 5 with fail
        have iB : Three ((w2.alloc (.cells #[.string (S nm), .int .i64 (h : Nat)] 242)).alloc (.cells #[.string (S nm), .int .i64 0, .string ⟨#[]⟩] 70)) (w2.heap.size + 1) (.string (S nm)) (.int .i64 0) (.string ⟨#[]⟩) := by
          have h := Three.new (w2.alloc (.cells #[.string (S nm), .int .i64 (h : Nat)] 242)) (.string (S nm)) (.int .i64 0) (.string ⟨#[]⟩)
          simpa using h
        have tB := (T2.out.alloc (.cells #[.string (S nm), .int .i64 (h : Nat)] 242)).alloc (.cells #[.string (S nm), .int .i64 0, .string ⟨#[]⟩] 70)
        have qB := (Q2.out.alloc (.cells #[.string (S nm), .int .i64 (h : Nat)] 242)).alloc (.cells #[.string (S nm), .int .i64 0, .string ⟨#[]⟩] 70)
        have oB : ((w2.alloc (.cells #[.string (S nm), .int .i64 (h : Nat)] 242)).alloc (.cells #[.string (S nm), .int .i64 0, .string ⟨#[]⟩] 70)).heap[w2.heap.size]? = some (.cells #[.string (S nm), .int .i64 (h : Nat)] 242 (0, 0)) := ((Only.refl (fun _ => False) _).alloc _).heap (heap_alloc_new w2 _) id
        have hIR : w2.heap.size + 1 ≠ R := by have := Q2.out.cells.2.2; omega
        have hIb : w2.heap.size + 1 ≠ b := by have h1 := T2.out.blt; have h2 := T2.out.on.size; omega
        have hIW : w.heap.size ≤ w2.heap.size + 1 := by have h2 := T2.out.on.size; omega
        generalize (w2.alloc (.cells #[.string (S nm), .int .i64 (h : Nat)] 242)).alloc (.cells #[.string (S nm), .int .i64 0, .string ⟨#[]⟩] 70) = wB at iB tB qB oB ⊢
        generalize w2.heap.size + 1 = I at iB hIR hIb hIW ⊢
        have oc1 : wB.cell? ⟨w2.heap.size, 1, none⟩ = some (.int .i64 (h : Nat)) := by simp [World.cell?, oB]
        have HIR := Lib.hid hIR
        have HIW := Lib.hid hIW
        clear oB hIR hIW
        have ocB := oc1
        go_wp2_with (go_at_call 250; refine (HIT.out _).mono ?_; rintro e w' ⟨rfl, rfl⟩)
        refine (rtext_g tB.rs.rd (HT.out.keep tB.rs.bel).tabs (tB.rs.ne HT.out.tabs).1 (tB.rs.ne HT.out.tabs).2).mono ?_
        rintro e w3 ⟨s, i3, err3, hs, ⟨rfl, ho3, rd3⟩, g3⟩
        have t3 := tB.got ho3 rd3
        have j3 := iB.keep ho3 hIb
        have q3 := qB.keep ho3 hbR
        have G3 := Lib.hid g3
        have HNB := Lib.hid hs
        obtain ⟨⟨_, _, c2⟩, f, _⟩ := j3.cells
        have f2 := f 2
        have J3 := Lib.hid j3
        have K3 := Lib.hid t3
        have Q3 := Lib.hid q3
        clear tB iB qB ho3 rd3 g3 hs t3 j3 q3 f T2 Q2 oc1 ocB
        go_upto_region 9 with fail
        have t9 := K3.out.set (I := I) HIW.out 2 (.string (S s))
        have i9 := J3.out.two (z' := .string (S s))
        have q9 := Q3.out.set_ne (o := 2) (u := .string (S s)) (fun e => HIR.out e.symm)
        generalize w3.setCell ⟨I, 2, none⟩ (.string (S s)) = w9 at t9 i9 q9 ⊢
        clear c2 f2 J3 K3 Q3 e1
        clear hbR hIb
        have HCK : Hid (∀ W, Below w9.heap.size w9 W → Calls Tryz.prog 266 #[.agg #[.string (S nm), .int .i64 0, .string (S s)]] W fun e w' => e = .returned (.int .i64 (checkE nm 0 s : Nat)) ∧ Below w9.heap.size w9 w') := Lib.hid (fun W hW => by
          exact (check_any nm 0 s W (HT.out.keep (t9.below hW).rs.bel) (by have := HNB.out; omega)).mono (fun _ _ h => ⟨h.1, hW.trans (h.2.mono hW.size)⟩))
        have T9 := Lib.hid t9
        have I9 := Lib.hid i9
        have R9 := Lib.hid q9
        have HCL : Hid (∀ W, Below w9.heap.size w9 W → W.cell? ⟨I, 0, none⟩ = some (.string (S nm)) ∧ W.cell? ⟨I, 1, none⟩ = some (.int .i64 0) ∧ W.cell? ⟨I, 2, none⟩ = some (.string (S s))) := Lib.hid (fun W hW => (I9.out.below hW).cells.1)
        clear t9 i9 q9
        obtain ⟨E, hE⟩ : ∃ E, E = checkE nm 0 s := ⟨_, rfl⟩
        rw [← hE] at HCK
        have HE := Lib.hid hE
        clear hE
        first
        | (go_region_held (fun W => W.cell? ⟨I, 0, none⟩ = some (.string (S nm)) ∧ W.cell? ⟨I, 1, none⟩ = some (.int .i64 0) ∧ W.cell? ⟨I, 2, none⟩ = some (.string (S s))) (first | with_reducible exact HCL.out _ b5 | with_reducible exact HCL.out _ ((Below.refl _ _).drew) | with_reducible exact k5)
            (first | (go_at_call 266; refine (HCK.out _ (by exact (Below.refl _ _).drew)).mono ?_; rintro e w5 ⟨rfl, b5⟩; obtain ⟨⟨x0, x1, x2⟩, xf, xl⟩ := (R9.out.below b5).cells; have xf0 := xf 0; have xf1 := xf 1; have xf2 := xf 2; clear xf; have k5 := (((I9.out.below b5).set_ne (o := 0) (u := .string (S nm)) HIR.out).set_ne (o := 1) (u := .int .i64 0) HIR.out |>.set_ne (o := 2) (u := .string (S s)) HIR.out).cells.1)))
        | fail
        all_goals go_wp2
        have l5 := load_ins ((R9.out.below b5).all (x' := .string (S nm)) (y' := .int .i64 0) (z' := .string (S s)))
        have t5 := (((T9.out.below b5).set (I := R) HRW.out 0 (.string (S nm))).set (I := R) HRW.out 1 (.int .i64 0)).set (I := R) HRW.out 2 (.string (S s))
        refine bodyPost_ret (v := .tuple #[.agg #[.string (S nm), .int .i64 0, .string (S s)], .bool ((E : Int) == 0)]) ?_ rfl ?_
        · simp [results, Tryz.results259, asAddr, l5]
        · refine ⟨⟨nm, 0, s⟩, ((E : Int) == 0), i3, err3, rfl, ⟨⟨by show (-9223372036854775808 : Int) ≤ 0; decide, by show (0 : Int) ≤ 9223372036854775807; decide⟩, by have := HNB.out; show s.length ≤ 1048576; omega⟩, t5, fun hk => ?_, fun y r he hy hye hd => ?_⟩
          · unfold Ins.e
            rw [← HE.out]
            rw [beq_iff_eq] at hk
            omega
          · obtain ⟨e1, e2, e3, e4, e5⟩ := HGO.out y r he hye hd
            have hab : argBytes h y.n y.s = textBytes y.s := (if_neg HH1.out).trans (if_pos HH2.out)
            rw [hab] at e5
            obtain ⟨_, _, hfn, hfa⟩ := ins_fine hye
            have htx := allows_text hfa
            obtain ⟨f1, f2, f3⟩ := G3.out y.s r e4 htx.2.1 htx.1 e5
            have hx : (⟨nm, 0, s⟩ : Ins) = y := ins_eq e1 (hfn (by rw [← e2]; exact HH1.out)).symm f1
            have hz : E = 0 := by rw [HE.out, ← hye, ← hx]; rfl
            refine ⟨hx, by rw [hz]; rfl, ?_, f3⟩
            rw [bytes_len y h e2, hab, f2, e3]
            omega

      · have HIT : Hid (∀ W, Calls Tryz.prog 250 #[.int .i64 h] W fun e w' => e = .returned (.bool false) ∧ W = w') := Lib.hid (fun W => by
          have q := istext_any h W
          rw [decide_eq_false h2] at q
          exact q)
        have HH1 := Lib.hid h1
        have HH2 := Lib.hid h2
        clear h1 h2
        go_upto_region 5 with fail
        have iB : Three ((w2.alloc (.cells #[.string (S nm), .int .i64 (h : Nat)] 242)).alloc (.cells #[.string (S nm), .int .i64 0, .string ⟨#[]⟩] 70)) (w2.heap.size + 1) (.string (S nm)) (.int .i64 0) (.string ⟨#[]⟩) := by
          have h := Three.new (w2.alloc (.cells #[.string (S nm), .int .i64 (h : Nat)] 242)) (.string (S nm)) (.int .i64 0) (.string ⟨#[]⟩)
          simpa using h
        have tB := (T2.out.alloc (.cells #[.string (S nm), .int .i64 (h : Nat)] 242)).alloc (.cells #[.string (S nm), .int .i64 0, .string ⟨#[]⟩] 70)
        have qB := (Q2.out.alloc (.cells #[.string (S nm), .int .i64 (h : Nat)] 242)).alloc (.cells #[.string (S nm), .int .i64 0, .string ⟨#[]⟩] 70)
        have oB : ((w2.alloc (.cells #[.string (S nm), .int .i64 (h : Nat)] 242)).alloc (.cells #[.string (S nm), .int .i64 0, .string ⟨#[]⟩] 70)).heap[w2.heap.size]? = some (.cells #[.string (S nm), .int .i64 (h : Nat)] 242 (0, 0)) := ((Only.refl (fun _ => False) _).alloc _).heap (heap_alloc_new w2 _) id
        have hIR : w2.heap.size + 1 ≠ R := by have := Q2.out.cells.2.2; omega
        have hIb : w2.heap.size + 1 ≠ b := by have h1 := T2.out.blt; have h2 := T2.out.on.size; omega
        have hIW : w.heap.size ≤ w2.heap.size + 1 := by have h2 := T2.out.on.size; omega
        generalize (w2.alloc (.cells #[.string (S nm), .int .i64 (h : Nat)] 242)).alloc (.cells #[.string (S nm), .int .i64 0, .string ⟨#[]⟩] 70) = wB at iB tB qB oB ⊢
        generalize w2.heap.size + 1 = I at iB hIR hIb hIW ⊢
        have oc1 : wB.cell? ⟨w2.heap.size, 1, none⟩ = some (.int .i64 (h : Nat)) := by simp [World.cell?, oB]
        have HIR := Lib.hid hIR
        have HIW := Lib.hid hIW
        clear oB hIR hIW
        go_upto_region 9 with (go_at_call 250; refine (HIT.out _).mono ?_; rintro e w' ⟨rfl, rfl⟩)
        have t9 := tB
        have i9 := iB
        have q9 := qB
        generalize hw9 : wB = w9 at t9 i9 q9 ⊢
        clear tB iB qB T2 Q2 oc1 hw9 e1
        clear hbR hIb
        have HCK : Hid (∀ W, Below w9.heap.size w9 W → Calls Tryz.prog 266 #[.agg #[.string (S nm), .int .i64 0, .string ⟨#[]⟩]] W fun e w' => e = .returned (.int .i64 (checkE nm 0 [] : Nat)) ∧ Below w9.heap.size w9 w') := Lib.hid (fun W hW => by
          exact (check_any nm 0 [] W (HT.out.keep (t9.below hW).rs.bel) (by simp)).mono (fun _ _ h => ⟨h.1, hW.trans (h.2.mono hW.size)⟩))
        have T9 := Lib.hid t9
        have I9 := Lib.hid i9
        have R9 := Lib.hid q9
        have HCL : Hid (∀ W, Below w9.heap.size w9 W → W.cell? ⟨I, 0, none⟩ = some (.string (S nm)) ∧ W.cell? ⟨I, 1, none⟩ = some (.int .i64 0) ∧ W.cell? ⟨I, 2, none⟩ = some (.string ⟨#[]⟩)) := Lib.hid (fun W hW => (I9.out.below hW).cells.1)
        clear t9 i9 q9
        obtain ⟨E, hE⟩ : ∃ E, E = checkE nm 0 [] := ⟨_, rfl⟩
        rw [← hE] at HCK
        have HE := Lib.hid hE
        clear hE
        first
        | (go_region_held (fun W => W.cell? ⟨I, 0, none⟩ = some (.string (S nm)) ∧ W.cell? ⟨I, 1, none⟩ = some (.int .i64 0) ∧ W.cell? ⟨I, 2, none⟩ = some (.string ⟨#[]⟩)) (first | with_reducible exact HCL.out _ b5 | with_reducible exact HCL.out _ ((Below.refl _ _).drew) | with_reducible exact k5)
            (first | (go_at_call 266; refine (HCK.out _ (by exact (Below.refl _ _).drew)).mono ?_; rintro e w5 ⟨rfl, b5⟩; obtain ⟨⟨x0, x1, x2⟩, xf, xl⟩ := (R9.out.below b5).cells; have xf0 := xf 0; have xf1 := xf 1; have xf2 := xf 2; clear xf; have k5 := (((I9.out.below b5).set_ne (o := 0) (u := .string (S nm)) HIR.out).set_ne (o := 1) (u := .int .i64 0) HIR.out |>.set_ne (o := 2) (u := .string ⟨#[]⟩) HIR.out).cells.1)))
        | fail
        all_goals go_wp2
        have l5 := load_ins ((R9.out.below b5).all (x' := .string (S nm)) (y' := .int .i64 0) (z' := .string ⟨#[]⟩))
        have t5 := (((T9.out.below b5).set (I := R) HRW.out 0 (.string (S nm))).set (I := R) HRW.out 1 (.int .i64 0)).set (I := R) HRW.out 2 (.string ⟨#[]⟩)
        refine bodyPost_ret (v := .tuple #[.agg #[.string (S nm), .int .i64 0, .string ⟨#[]⟩], .bool ((E : Int) == 0)]) ?_ rfl ?_
        · simp [results, Tryz.results259, asAddr, l5]
        · refine ⟨⟨nm, 0, []⟩, ((E : Int) == 0), i1, err1, rfl, ⟨⟨by show (-9223372036854775808 : Int) ≤ 0; decide, by show (0 : Int) ≤ 9223372036854775807; decide⟩, by simp⟩, t5, fun hk => ?_, fun y r he hy hye hd => ?_⟩
          · unfold Ins.e
            rw [← HE.out]
            rw [beq_iff_eq] at hk
            omega
          · obtain ⟨e1, e2, e3, e4, e5⟩ := HGO.out y r he hye hd
            have hab : argBytes h y.n y.s = [] := (if_neg HH1.out).trans (if_neg HH2.out)
            obtain ⟨_, _, hfn, hfa⟩ := ins_fine hye
            have hx : (⟨nm, 0, []⟩ : Ins) = y := ins_eq e1 (hfn (by rw [← e2]; exact HH1.out)).symm (ins_short hye (by rw [← e2]; have := HH2.out; omega)).symm
            have hz : E = 0 := by rw [HE.out, ← hye, ← hx]; rfl
            refine ⟨hx, by rw [hz]; rfl, ?_, e4⟩
            rw [bytes_len y h e2, hab, e3]
            simp

  · rw [at42_ge hV, decide_eq_false hV]
    have HV := Lib.hid hV
    clear hV
    rw [at_end.1, at_end.2]
    obtain ⟨⟨x0, x1, x2⟩, xf, xl⟩ := Q2.out.cells
    have xf0 := xf 0
    have xf1 := xf 1
    have xf2 := xf 2
    clear xf
    go_wp2
    have l5 := load_ins ((Q2.out.all (x' := .string ⟨#[]⟩) (y' := .int .i64 0) (z' := .string ⟨#[]⟩)).alloc (.cells #[.string (S []), .int .i64 0] 242))
    have t5 := ((((T2.out.set (I := R) HRW.out 0 (.string ⟨#[]⟩)).set (I := R) HRW.out 1 (.int .i64 0)).set (I := R) HRW.out 2 (.string ⟨#[]⟩)).alloc (.cells #[.string (S []), .int .i64 0] 242))
    refine bodyPost_ret (v := .tuple #[.agg #[.string ⟨#[]⟩, .int .i64 0, .string ⟨#[]⟩], .bool false]) ?_ rfl ?_
    · simp [results, Tryz.results259, asAddr, l5]
    · refine ⟨⟨[], 0, []⟩, false, i1, err1, rfl, ⟨by decide, by simp⟩, t5, (fun hk => by cases hk), fun y r he hy hye hd => ?_⟩
      unfold Ins.bytes at hd
      rw [List.append_assoc] at hd
      obtain ⟨e1, _, _⟩ := G1.out (idx y.op) _ he (by have := idx_le y.op; omega) hd
      have := (ins_fine hye).1
      have := HV.out
      omega
end Go.Proofs.YtpincofjopmaaaaGreatDoor
namespace Go.Proofs.YtpincofjopmaaaaGreatDoor
open Go.RowKit
def insCells (l : List Ins) : List Value := l.flatMap fun x => [.string (S x.op), .int .i64 x.n, .string (S x.s)]
theorem insCells_snoc (l : List Ins) (x : Ins) : insCells (l ++ [x]) = insCells l ++ [.string (S x.op), .int .i64 x.n, .string (S x.s)] := by
  unfold insCells
  rw [List.flatMap_append]
  rfl
theorem insCells_at : ∀ (l : List Ins) (k : Nat) (x : Ins), l[k]? = some x → (insCells l)[k * 3]? = some (.string (S x.op)) ∧ (insCells l)[k * 3 + 1]? = some (.int .i64 x.n) ∧ (insCells l)[k * 3 + 2]? = some (.string (S x.s))
  | y :: l, 0, x, h => by
    simp at h
    subst h
    exact ⟨rfl, rfl, rfl⟩
  | y :: l, k + 1, x, h => by
    have ih := insCells_at l k x (by simpa using h)
    rw [show (k + 1) * 3 = k * 3 + 3 from by omega]
    exact ⟨ih.1, ih.2.1, ih.2.2⟩
  | [], k, x, h => by simp at h
/-- Instructions in a row of the call's own. -/
structure IR (w w' : World) (vs : Value) (m : List Ins) : Prop where
  row : w'.ownsRow 0 70 3 vs m.length (insCells m)
  own : ∀ g, vs.ownBlock = some g → w.heap.size ≤ g
theorem IR.nil (w w' : World) : IR w w' (.slice none 0 0) [] := ⟨World.ownsRow_nil _ _ _ _, fun g hg => by simp [Value.ownBlock] at hg⟩
theorem IR.src {w w' : World} {vs : Value} {m : List Ins} (h : IR w w' vs m) : InsSrc w' vs m := by
  rcases h.row.2 with ⟨rfl, h0⟩ | ⟨g, cap, cur, rfl, _⟩
  · exact .inl ⟨_, _, rfl, List.length_eq_zero_iff.1 h0⟩
  · refine .inr ⟨g, 0, cap, rfl, fun k x hx => ?_⟩
    obtain ⟨h0, h1, h2⟩ := insCells_at m k x hx
    have c0 := h.row.cells (g := g) rfl _ _ h0
    have c1 := h.row.cells (g := g) rfl _ _ h1
    have c2 := h.row.cells (g := g) rfl _ _ h2
    rw [Addr.add_mid] at c0 c1 c2
    exact ⟨c0, by rw [Nat.add_assoc]; exact c1, by rw [Nat.add_assoc]; exact c2⟩
theorem IR.shape {w w' : World} {vs : Value} {m : List Ins} (h : IR w w' vs m) : ∃ ao c, vs = .slice ao m.length c := by
  rcases h.row.2 with ⟨rfl, h0⟩ | ⟨g, cap, cur, rfl, _⟩
  · exact ⟨_, _, by rw [h0]⟩
  · exact ⟨_, _, rfl⟩
theorem IR.keep {w w' w'' : World} {vs : Value} {m : List Ins} (h : IR w w' vs m) (hb : Below w'.heap.size w' w'') : IR w w'' vs m := ⟨(Only.ofBelow (S := fun _ => False) hb).row h.row (fun _ _ => id), h.own⟩
theorem IR.past {w w' w'' : World} {vs : Value} {m : List Ins} {b : Nat} (h : IR w w' vs m) (ho : Only (fun k => k = b) w' w'') (hb : b < w.heap.size) : IR w w'' vs m :=
  ⟨ho.row h.row (fun g hg e => by have := h.own g hg; omega), h.own⟩
theorem TK.grew {w0 w w' w'' : World} {b : Nat} {v : Value} {l : List UInt8} {i err : Nat} {vs vs' : Value} (h : TK w0 w w' b v l i err) (hg : Grew w' vs w'' vs') (ho : ∀ g, vs.ownBlock = some g → w.heap.size ≤ g) : TK w0 w w'' b v l i err := by
  refine ⟨⟨h.rs.rd.keep hg.only (fun e => ?_) (fun g hgv e => ?_), h.rs.lo, h.rs.own, h.rs.bel.trans (hg.only.below h.rs.bel.size (fun k hk => Nat.le_trans h.lo (ho k hk)))⟩, h.on.then hg.only (fun k hk e => ?_), h.blt, h.vlt, h.lo⟩
  · have := ho b e; have := h.blt; omega
  · have := ho g e; have := h.vlt g hgv; omega
  · have := ho k e; omega
theorem info_ins : (Tryz.prog.info? 70).map (fun i => (i.zero, i.size, i.bytes)) = some (some (.agg #[.string ⟨#[]⟩, .int .i64 0, .string ⟨#[]⟩]), 3, 40) := by kernel_rfl
theorem allE_mem : ∀ (l : List Ins), allE l = 0 → ∀ x ∈ l, x.e = 0
  | y :: l, h, x, hx => by
    unfold allE at h
    by_cases hy : y.e = 0
    · rw [if_pos hy] at h
      rcases List.mem_cons.1 hx with rfl | hx
      · exact hy
      · exact allE_mem l h x hx
    · rw [if_neg hy] at h; exact absurd h hy
theorem uvarint_one (n : Nat) : 1 ≤ (Lib.uvarint n).length := by
  by_cases h : n < 128
  · rw [Lib.uvarint_small h]; simp
  · rw [Lib.uvarint_big (by omega)]; simp
theorem bytes_many : ∀ (l : List Ins), l.length ≤ (l.flatMap Ins.bytes).length
  | [] => by simp
  | x :: l => by
    have h1 := bytes_many l
    have h2 := uvarint_one (idx x.op)
    rw [List.flatMap_cons, List.length_append, List.length_cons]
    unfold Ins.bytes at *
    rw [List.length_append]
    omega
/-- How far it is read, if what stands there was written. -/
def TakeG (l : List UInt8) (i err c k : Nat) (m : List Ins) (i' err' : Nat) : Prop :=
  ∀ (y : List Ins) (r : List UInt8), err = 0 → (∀ x ∈ y, x.ok) → allE y = 0 → y.length ≤ 200 → l.drop i = putL y ++ r → c = y.length ∧ m = y.take k ∧ err' = 0 ∧ i' = i + ((Lib.uvarint y.length).length + ((y.take k).flatMap Ins.bytes).length)
/-- Where the next instruction stands. -/
theorem take_next {l : List UInt8} {i i' k : Nat} {y : List Ins} {r : List UInt8} {x : Ins} (hd : l.drop i = putL y ++ r) (hi : i' = i + ((Lib.uvarint y.length).length + ((y.take k).flatMap Ins.bytes).length)) (hx : y[k]? = some x) :
    l.drop i' = x.bytes ++ ((y.drop (k + 1)).flatMap Ins.bytes ++ r) := by
  have hk : k < y.length := by
    rcases Nat.lt_or_ge k y.length with h | h
    · exact h
    · rw [List.getElem?_eq_none h] at hx; cases hx
  have hsp : y.flatMap Ins.bytes = (y.take k).flatMap Ins.bytes ++ (x.bytes ++ (y.drop (k + 1)).flatMap Ins.bytes) := by
    conv => lhs; rw [← List.take_append_drop k y]
    rw [List.flatMap_append, List.drop_eq_getElem_cons hk, List.flatMap_cons]
    rw [List.getElem?_eq_getElem hk] at hx
    rw [Option.some.inj hx]
  rw [putL, hsp] at hd
  have hd2 : l.drop i = (Lib.uvarint y.length ++ (y.take k).flatMap Ins.bytes) ++ (x.bytes ++ ((y.drop (k + 1)).flatMap Ins.bytes ++ r)) := by
    rw [hd]; simp only [List.append_assoc]
  rw [hi]
  exact drop_more hd2 (by rw [List.length_append])
theorem TakeG.next {l : List UInt8} {i err c k : Nat} {m : List Ins} {i' err' i2 err2 : Nat} {x : Ins} {ok : Bool} (h : TakeG l i err c k m i' err') (hk : k < c)
    (g : ∀ (y : Ins) (r : List UInt8), err' = 0 → y.ok → y.e = 0 → l.drop i' = y.bytes ++ r → x = y ∧ ok = true ∧ i2 = i' + y.bytes.length ∧ err2 = 0) :
    (∀ (y : List Ins) (r : List UInt8), err = 0 → (∀ x ∈ y, x.ok) → allE y = 0 → y.length ≤ 200 → l.drop i = putL y ++ r → ok = true) ∧ TakeG l i err c (k + 1) (m ++ [x]) i2 err2 := by
  have key : ∀ (y : List Ins) (r : List UInt8), err = 0 → (∀ x ∈ y, x.ok) → allE y = 0 → y.length ≤ 200 → l.drop i = putL y ++ r → ok = true ∧ c = y.length ∧ m ++ [x] = y.take (k + 1) ∧ err2 = 0 ∧ i2 = i + ((Lib.uvarint y.length).length + ((y.take (k + 1)).flatMap Ins.bytes).length) := by
    intro y r he hy hz hl hd
    obtain ⟨h1, h2, h3, h4⟩ := h y r he hy hz hl hd
    have hky : k < y.length := by omega
    have hx : y[k]? = some y[k] := List.getElem?_eq_getElem hky
    have hm : y[k] ∈ y := List.getElem_mem hky
    obtain ⟨e1, e2, e3, e4⟩ := g y[k] _ h3 (hy _ hm) (allE_mem y hz _ hm) (take_next hd h4 hx)
    refine ⟨e2, h1, ?_, e4, ?_⟩
    · rw [List.take_succ_eq_append_getElem hky, h2, e1]
    · rw [List.take_succ_eq_append_getElem hky, List.flatMap_append, List.length_append, e3, h4]
      simp
      omega
  exact ⟨fun y r a b c d e => (key y r a b c d e).1, fun y r a b c d e => (key y r a b c d e).2⟩
/-- What is said of Take. -/
def TakenG (w0 : World) (b : Nat) (v : Value) (l : List UInt8) (i err : Nat) (w : World) (e : Ending) (w' : World) : Prop :=
  ∃ (vs : Value) (m : List Ins) (i' err' : Nat), e = .returned vs ∧ IR w w' vs m ∧ m.length ≤ 200 ∧ (∀ x ∈ m, x.ok) ∧ TK w0 w w' b v l i' err' ∧
    (∀ (y : List Ins) (r : List UInt8), err = 0 → (∀ x ∈ y, x.ok) → allE y = 0 → y.length ≤ 200 → l.drop i = putL y ++ r → m = y ∧ i' = i + (putL y).length ∧ err' = 0)
set_option maxHeartbeats 2000000 in
set_option maxRecDepth 100000 in
theorem take_any {w0 w : World} {b : Nat} {v : Value} {l : List UInt8} {i err : Nat} (r0 : RS w0 w b v l i err) (hT : CT w0) :
    Calls Tryz.prog 220 #[.pointer (some ⟨b, 0, none⟩)] w (TakenG w0 b v l i err w) := by
  have HT := Lib.hid hT
  have R0 := Lib.hid r0
  obtain ⟨j0, hji, hz0, hz1, hz2⟩ := info_parts info_ins
  clear hT r0
  go_enter Tryz.func220, Tryz.ntmps220
  go_wp2_with fail
  refine (rcount_g R0.out.rd).mono ?_
  rintro e w1 ⟨c, i1, err1, hc, ⟨rfl, ho1, rd1⟩, g1⟩
  have t1 := (TK.start R0.out).got ho1 rd1
  have tg1 : TakeG l i err c 0 [] i1 err1 := by
    intro y r he hy hz hl hd
    rw [putL, List.append_assoc] at hd
    obtain ⟨e1, e2, e3⟩ := g1 y.length _ he hl (by rw [List.length_append]; have := bytes_many y; omega) hd
    exact ⟨e1, by simp, e3, by simp [e2]⟩
  have T1 := Lib.hid t1
  have TG1 := Lib.hid tg1
  have HB : Hid (b < w.heap.size) := Lib.hid t1.blt
  clear ho1 rd1 g1 t1 tg1 R0
  go_wp2
  go_loopw [3, 10] (fun v3 v10 wr => ∃ (k : Nat) (m : List Ins) (i' err' : Nat), k ≤ c ∧ v10 = .int .i64 k ∧ m.length = k ∧ TK w0 w wr b v l i' err' ∧ IR w wr v3 m ∧ (∀ x ∈ m, x.ok) ∧ TakeG l i err c k m i' err') (fun _ v10 _ => c - (intOf v10).toNat)
  case atStart => exact ⟨0, [], i1, err1, Nat.zero_le _, rfl, rfl, T1.out, IR.nil _ _, (fun x hx => by simp at hx), TG1.out⟩
  case round =>
    obtain ⟨k, m, i', err', hk, rfl, hmk, ht, hir, hok, htg⟩ := hrel
    have HMK := Lib.hid hmk
    have HTK := Lib.hid ht
    have HIR := Lib.hid hir
    have HOK := Lib.hid hok
    have HTG := Lib.hid htg
    obtain ⟨ao, cp, rfl⟩ := hir.shape
    rw [hmk]
    clear ht hir hok htg
    by_cases hlt : k < c
    · have hlt' : (k : Int) < (c : Int) := by omega
      go_wp2_with fail
      refine (takeOne_any HTK.out.rs HT.out).mono ?_
      rintro e w2 ⟨x, ok, i2, err2, rfl, hxo, t2, hxe, g2⟩
      have t3 := HTK.out.got t2.on t2.rs.rd
      have ir2 := HIR.out.past t2.on HB.out
      obtain ⟨gn, gt⟩ := HTG.out.next hlt g2
      have T3 := Lib.hid t3
      have IR2 := Lib.hid ir2
      have GN := Lib.hid gn
      have GT := Lib.hid gt
      have HXO := Lib.hid hxo
      obtain ⟨xo, xn, xs⟩ := x
      clear t2 t3 ir2 gn gt hxo hxe g2
      cases ok
      · go_wp2
        go_ret
        refine ⟨_, [], i2, err2, rfl, IR.nil _ _, by simp, fun x hx => by simp at hx, T3.out.alloc _, fun y r he hy hz hl hd => ?_⟩
        have := GN.out y r he hy hz hl hd
        cases this
      · have HRW := Lib.hid ((((Only.refl (fun _ => False) w2).alloc (.cells #[.string (S xo), .int .i64 xn, .string (S xs)] 70)).alloc (.cells #[.string (S xo), .int .i64 xn, .string (S xs)] 70)).row IR2.out.row (fun _ _ => id))
        rw [hmk] at HRW
        have HNW : Hid (Three ((w2.alloc (.cells #[.string (S xo), .int .i64 xn, .string (S xs)] 70)).alloc (.cells #[.string (S xo), .int .i64 xn, .string (S xs)] 70)) (w2.heap.size + 1) (.string (S xo)) (.int .i64 xn) (.string (S xs))) := Lib.hid (by
          have h := Three.new (w2.alloc (.cells #[.string (S xo), .int .i64 xn, .string (S xs)] 70)) (.string (S xo)) (.int .i64 xn) (.string (S xs))
          simpa using h)
        clear hmk
        go_wp2_with (at_builtin; refine wpList_append_fine _ rfl _ _ 30 rfl 70 j0 (.agg #[.string ⟨#[]⟩, .int .i64 0, .string ⟨#[]⟩]) 3 40 Tryz.underlying30 hji hz0 hz1 hz2 rfl (by decide) _ _ _ rfl HRW.out ⟨w2.heap.size + 1, 0, none⟩ 1 1 [.string (S xo), .int .i64 xn, .string (S xs)] rfl rfl (by intro j u hj; have q := range3 HNW.out j u hj; rw [Addr.add_mid]; exact q) (by intro u hu; simp at hu; rcases hu with rfl | rfl | rfl <;> rfl) ?c3 ?c4 ?_)
        case c3 => unfold maxLen; omega
        case c4 => omega
        intro v' w3 hown' hgrow
        have t4 := ((T3.out.alloc (.cells #[.string (S xo), .int .i64 xn, .string (S xs)] 70)).alloc (.cells #[.string (S xo), .int .i64 xn, .string (S xs)] 70)).grew hgrow (fun g hg => HIR.out.own g (by rw [HMK.out]; exact hg))
        have ir4 : IR w w3 v' (m ++ [⟨xo, xn, xs⟩]) := ⟨by rw [List.length_append, HMK.out, insCells_snoc]; exact hown', fun g hg => by
          rcases hgrow.came with e | e
          · exact HIR.out.own g (by rw [HMK.out]; exact e ▸ hg)
          · have h1 := e g hg
            have h2 := T3.out.on.size
            simp at h1
            omega⟩
        have T4 := Lib.hid t4
        have IR4 := Lib.hid ir4
        clear t4 ir4 hgrow hown'
        go_wp2
        go_roundw
        case rel => exact ⟨k + 1, m ++ [⟨xo, xn, xs⟩], i2, err2, by omega, by go_num, by rw [List.length_append, HMK.out]; rfl, T4.out, IR4.out, (fun z hz => by
          rcases List.mem_append.1 hz with hz | hz
          · exact HOK.out z hz
          · rw [List.mem_singleton.1 hz]; exact HXO.out), GT.out⟩
        case measure => simp [intOf]; omega
    · obtain rfl : k = c := by omega
      by_cases he : err' = 0
      · subst he
        go_wp2_with fail
        refine (err_ok b v l i' wr HTK.out.rs.rd).mono ?_
        rintro e w2 ⟨rfl, rfl⟩
        have ir2 : IR w wr (.slice ao k cp) m := by rw [← HMK.out]; exact HIR.out
        have T2 := HTK
        have IR2 := Lib.hid ir2
        clear ir2
        go_wp2
        go_ret
        refine ⟨_, m, i', 0, rfl, IR2.out, by rw [HMK.out]; exact hc, HOK.out, T2.out, fun y r he hy hz hl hd => ?_⟩
        obtain ⟨h1, h2, h3, h4⟩ := HTG.out y r he hy hz hl hd
        rw [h1, List.take_of_length_le (Nat.le_refl _)] at h2 h4
        exact ⟨h2, by rw [h4, putL, List.length_append], rfl⟩
      · go_wp2_with fail
        refine (err_bad b v l i' err' wr HTK.out.rs.rd he).mono ?_
        rintro e w2 ⟨rfl, q, hw2⟩
        have t2 : TK w0 w w2 b v l i' err' := by rw [hw2]; exact HTK.out.below (below_drewN wr q)
        have T2 := Lib.hid t2
        have heb : ((err' : Int) != 0) = true := by rw [bne_iff_ne]; omega
        have HE := Lib.hid he
        clear t2 hw2 he
        go_wp2
        go_ret
        refine ⟨_, [], i', err', rfl, IR.nil _ _, by simp, fun x hx => by simp at hx, T2.out, fun y r he hy hz hl hd => ?_⟩
        obtain ⟨h1, h2, h3, h4⟩ := HTG.out y r he hy hz hl hd
        exact absurd h3 HE.out
end Go.Proofs.YtpincofjopmaaaaGreatDoor
