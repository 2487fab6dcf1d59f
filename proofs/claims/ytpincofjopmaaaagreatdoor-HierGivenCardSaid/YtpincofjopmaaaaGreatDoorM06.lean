/-
  The contracts of package code's find and named (with its closure), and of isText.
  Conditions: the table of operators holds what it holds at the start.
  The contracts of package kind's depth, Right, Deep, Of, Elem and Parts.
  Conditions: the text has at most 2^40 bytes.
  The contracts of package kind's Elem and Parts, and of the laws' awake.
  Conditions: the text has at most 2^40 bytes.
-/
import Derived.Test.YtpincofjopmaaaaGreatDoorM05
import Derived.Deep.MidRow
import Derived.Deep.QuietTactic
import Derived.BigQuiet
import Derived.Deep.Cut
import Derived.IntWalk
import Derived.Test.YtpincofjopmaaaaGreatDoorM04
namespace Go.Proofs.YtpincofjopmaaaaGreatDoor
open Go.RowKit
/-- The table of operators is as at the start. -/
def OpTab (w : World) : Prop := w.rangeAt 4 0 opCells
theorem OpTab.keep {w w' : World} (h : OpTab w) (hb : Below w.heap.size w w') : OpTab w' := fun j v hj =>
  (Only.ofBelow (S := fun _ => False) hb).cell (h j v hj) id
theorem range2 {w : World} {b : Nat} {x y : Value} {t : TypeId} {fz : Nat × Nat} (h : w.heap[b]? = some (.cells #[x, y] t fz)) : w.rangeAt b 0 [x, y] := by
  intro j v hj
  match j, hj with
  | 0, hj => simp at hj; subst hj; simp [World.cell?, h]
  | 1, hj => simp at hj; subst hj; simp [World.cell?, h]
  | j + 2, hj => simp at hj
theorem set2 {w : World} {b : Nat} {x y u v : Value} {t : TypeId} {fz : Nat × Nat} (h : w.heap[b]? = some (.cells #[x, y] t fz)) : ((w.setCell ⟨b, 0, none⟩ u).setCell ⟨b, 1, none⟩ v).heap[b]? = some (.cells #[u, v] t fz) := by
  rw [heap_setCell_self (heap_setCell_self h)]
  rfl
theorem info_op2 : (Tryz.prog.info? 242).map (·.size) = some 2 := by kernel_rfl
/-- What a result cell of an operator's type holds when the call returns. -/
theorem load_op {w : World} {b : Nat} {x y : Value} {t : TypeId} {fz : Nat × Nat} (h : w.heap[b]? = some (.cells #[x, y] t fz)) : (loadVar 242 ⟨b, 0, none⟩).run Tryz.prog w = .ok (.agg #[x, y]) w :=
  run_loadVar_mid (P := Tryz.prog) w b 0 242 [x, y] _ (range2 h) Tryz.underlying242 rfl info_op2
theorem info_ops : (Tryz.prog.info? 287).map (·.size) = some opCells.length := by kernel_rfl
set_option maxHeartbeats 2000000 in
set_option maxRecDepth 100000 in
theorem find_any (F : Nat) (cp : Value) (p : Nat → Bool) (N : Nat) (he : ∀ args w, (callFunc F args).run Tryz.prog w = .ok (.enter F args) w)
    (w : World) (hO : OpTab w)
    (hF : ∀ (k : Nat) (w' : World), k < 42 → Below w.heap.size w w' → Calls Tryz.prog F #[.int .i64 k, .agg #[.string (S (nameAt k)), .int .i64 (hasAt k : Nat)], cp] w' fun e w'' => e = .returned (.bool (p k)) ∧ Below w'.heap.size w' w'')
    (hN : N ≤ 42) (hlo : ∀ j, j < N → p j = false) (hat : N < 42 → p N = true) :
    Calls Tryz.prog 283 #[.func (.func F) #[] #[cp]] w fun e w' => e = .returned (.tuple #[.int .i64 (if N < 42 then N else 0 : Nat), .agg #[.string (S (nameAt N)), .int .i64 (hasAt N : Nat)], .bool (decide (N < 42))]) ∧ Below w.heap.size w w' := by
  have HF := Lib.hid hF
  have HLO := Lib.hid hlo
  have HAT := Lib.hid hat
  have HO := Lib.hid hO
  have HE := Lib.hid he
  have HI := Lib.hid info_ops
  clear hF hlo hat hO he
  go_enter Tryz.func283, Tryz.ntmps283
  go_upto_region 1 with fail
  refine wp_region_lit ?_
  refine wpList_load_mid (by rfl) 287 _ (by rfl) 4 0 (by rfl) opCells _ (HO.out.keep ((Below.refl _ w).alloc (Nat.le_refl _) _)) Tryz.underlying287 (by rfl) HI.out ?_
  go_wp2
  go_loopw [8] (fun v8 wr => ∃ k : Nat, k ≤ N ∧ v8 = .int .i64 k ∧ wr.heap[w.heap.size]? = some (.cells #[.string ⟨#[]⟩, .int .i64 0] 242 (0, 0)) ∧ Below w.heap.size w wr) (fun v8 _ => 42 - (intOf v8).toNat)
  case atStart => exact ⟨0, Nat.zero_le _, rfl, heap_alloc_new w _, (Below.refl _ w).alloc (Nat.le_refl _) _⟩
  case round =>
    obtain ⟨k, hk, rfl, hblk, hbel⟩ := hrel
    by_cases hlt : k < 42
    · have hlt' : (k : Int) < 42 := by omega
      have hk0 : (0 : Int) ≤ k := by omega
      have hix := op_index k hlt
      have he := HE.out
      have HB := Lib.hid hblk
      clear hblk
      go_wp2_with fail
      have hbA : Below w.heap.size w (wr.alloc (.cells #[.string (S (nameAt k)), .int .i64 (hasAt k : Nat)] 242)) := hbel.alloc hbel.size _
      refine (HF.out k _ hlt hbA).mono ?_
      rintro e w1 ⟨rfl, hb1⟩
      have hres : w1.heap[w.heap.size]? = some (.cells #[.string ⟨#[]⟩, .int .i64 0] 242 (0, 0)) := (Only.ofBelow (S := fun _ => False) hb1).heap (((Only.refl (fun _ => False) wr).alloc _).heap HB.out id) id
      have hnew : w1.heap[wr.heap.size]? = some (.cells #[.string (S (nameAt k)), .int .i64 (hasAt k : Nat)] 242 (0, 0)) := (Only.ofBelow (S := fun _ => False) hb1).heap (heap_alloc_new wr _) id
      have hbw : Below w.heap.size w w1 := hbA.trans (hb1.mono hbA.size)
      clear he hix hb1 hbA
      by_cases hkn : k < N
      · rw [HLO.out k hkn]
        have HR := Lib.hid hres
        clear hres hnew
        go_wp2
        go_roundw
        case rel => exact ⟨k + 1, by omega, by go_num, HR.out, hbw⟩
        case measure => simp [intOf]; omega
      · obtain rfl : k = N := by omega
        rw [HAT.out hlt]
        have hf0 : w1.frozen? ⟨w.heap.size, 0, none⟩ = false := by simp [World.frozen?, hres]
        have hf1 : w1.frozen? ⟨w.heap.size, 1, none⟩ = false := by simp [World.frozen?, hres]
        have hc0 : w1.cell? ⟨w.heap.size, 0, none⟩ = some (.string ⟨#[]⟩) := by simp [World.cell?, hres]
        have hc1 : w1.cell? ⟨w.heap.size, 1, none⟩ = some (.int .i64 0) := by simp [World.cell?, hres]
        have hn0 : w1.cell? ⟨wr.heap.size, 0, none⟩ = some (.string (S (nameAt k))) := by simp [World.cell?, hnew]
        have hn1 : w1.cell? ⟨wr.heap.size, 1, none⟩ = some (.int .i64 (hasAt k : Nat)) := by simp [World.cell?, hnew]
        have HR := Lib.hid hres
        clear hres hnew
        go_wp2_with go_region
        have hl := load_op (w := ((w1.setCell ⟨w.heap.size, 0, none⟩ (.string (S (nameAt k)))).setCell ⟨w.heap.size, 1, none⟩ (.int .i64 (hasAt k : Nat))).drew) (set2 HR.out)
        refine bodyPost_ret (v := .tuple #[.int .i64 (k : Nat), .agg #[.string (S (nameAt k)), .int .i64 (hasAt k : Nat)], .bool true]) ?_ rfl ⟨rfl, ?_⟩
        · simp [results, Tryz.results283, asAddr, hl]
        · exact ((hbw.setCell (by simp) _).setCell (by simp) _).drew
    · obtain rfl : k = 42 := by omega
      obtain rfl : N = 42 := by omega
      have hf0 : wr.frozen? ⟨w.heap.size, 0, none⟩ = false := by simp [World.frozen?, hblk]
      have hf1 : wr.frozen? ⟨w.heap.size, 1, none⟩ = false := by simp [World.frozen?, hblk]
      have hc0 : wr.cell? ⟨w.heap.size, 0, none⟩ = some (.string ⟨#[]⟩) := by simp [World.cell?, hblk]
      have hc1 : wr.cell? ⟨w.heap.size, 1, none⟩ = some (.int .i64 0) := by simp [World.cell?, hblk]
      have HR := Lib.hid hblk
      clear hblk
      go_wp2
      have hl := load_op (w := (wr.setCell ⟨w.heap.size, 0, none⟩ (.string ⟨#[]⟩)).setCell ⟨w.heap.size, 1, none⟩ (.int .i64 0)) (set2 HR.out)
      refine bodyPost_ret (v := .tuple #[.int .i64 0, .agg #[.string (S (nameAt 42)), .int .i64 (hasAt 42 : Nat)], .bool false]) ?_ rfl ⟨rfl, ?_⟩
      · rw [at_end.1, at_end.2]
        simp [results, Tryz.results283, asAddr, hl, S]
      · exact (hbel.setCell (by simp) _).setCell (by simp) _

theorem enters_cf {f : FuncId} {fn : Func} {c : Code} (hf : Tryz.prog.funcs[f]? = some fn) (hname : (fn.name == "runtime.NumGoroutine") = false) (hb : fn.body = some c) (args : Array Value) (w : World) : (callFunc f args).run Tryz.prog w = .ok (.enter f args) w := by
  have h1 : ¬ (fn.name = "runtime.NumGoroutine") := by simpa using hname
  simp [callFunc, hf, h1, hb, mark]
set_option maxHeartbeats 2000000 in
set_option maxRecDepth 100000 in
theorem named1_any (k b : Nat) (a s : List UInt8) (h : Int) (w : World) (hc : w.cell? ⟨b, 0, none⟩ = some (.string (S s))) :
    Calls Tryz.prog 284 #[.int .i64 k, .agg #[.string (S a), .int .i64 h], .pointer (some ⟨b, 0, none⟩)] w fun e w' => e = .returned (.bool (a == s)) ∧ Below w.heap.size w w' := by
  have hcA : ∀ o : Obj, (w.alloc o).cell? ⟨b, 0, none⟩ = some (.string (S s)) := fun o => ((Only.refl (fun _ => False) w).alloc o).cell hc id
  clear hc
  go_enter Tryz.func284, Tryz.ntmps284
  go_wp2
  go_ret
  refine ⟨?_, (Below.refl _ w).alloc (Nat.le_refl _) _⟩
  show Ending.returned (.bool ((S a).toList == (S s).toList)) = _
  rw [S_toList, S_toList]
/-- What looking a name up answers. -/
def lookV (s : List UInt8) : Value := .tuple #[.int .i64 (if idx s < 42 then idx s else 0 : Nat), .agg #[.string (S (nameAt (idx s))), .int .i64 (hasAt (idx s) : Nat)], .bool (decide (idx s < 42))]
set_option maxHeartbeats 2000000 in
set_option maxRecDepth 100000 in
theorem cnamed_any (s : List UInt8) (w : World) (hO : OpTab w) :
    Calls Tryz.prog 273 #[.string (S s)] w fun e w' => e = .returned (lookV s) ∧ Below w.heap.size w w' := by
  have hmf : ∀ (fn : Fn) (first cap : Array Value) (w : World), (Instr.makeFunc fn first cap).run Tryz.prog w = .ok (.func fn first cap) w := fun _ _ _ _ => rfl
  have HO := Lib.hid hO
  clear hO
  unfold lookV
  obtain ⟨q, hq⟩ : ∃ q, q = (if idx s < 42 then idx s else 0) := ⟨_, rfl⟩
  obtain ⟨d, hd⟩ : ∃ d, d = decide (idx s < 42) := ⟨_, rfl⟩
  rw [← hq, ← hd]
  have HQ := Lib.hid hq
  have HD := Lib.hid hd
  clear hq hd
  go_enter Tryz.func273, Tryz.ntmps273
  go_wp2_with fail
  have hb0 : Below w.heap.size w ((w.alloc (.cells #[.string (S s)] 9)).alloc (.cells #[.string ⟨#[]⟩, .int .i64 0] 242)) := ((Below.refl _ w).alloc (Nat.le_refl _) _).alloc (by simp) _
  have hc0 : ((w.alloc (.cells #[.string (S s)] 9)).alloc (.cells #[.string ⟨#[]⟩, .int .i64 0] 242)).heap[w.heap.size]? = some (.cells #[.string (S s)] 9 (0, 0)) := ((Only.refl (fun _ => False) _).alloc _).heap (heap_alloc_new w _) id
  have hr0 : ((w.alloc (.cells #[.string (S s)] 9)).alloc (.cells #[.string ⟨#[]⟩, .int .i64 0] 242)).heap[w.heap.size + 1]? = some (.cells #[.string ⟨#[]⟩, .int .i64 0] 242 (0, 0)) := (heap_alloc_new' (w.alloc _) _ _ (by simp)).trans rfl
  generalize hw0 : (w.alloc (.cells #[.string (S s)] 9)).alloc (.cells #[.string ⟨#[]⟩, .int .i64 0] 242) = w0 at hb0 hc0 hr0 ⊢
  clear hw0
  have hfind := find_any 284 (.pointer (some ⟨w.heap.size, 0, none⟩)) (fun k => nameAt k == s) (idx s) (enters_cf Tryz.func284 (by kernel_rfl) rfl) w0 (HO.out.keep hb0)
    (fun k w' _ hb => named1_any k _ _ s _ w' (by simp [World.cell?, (Only.ofBelow (S := fun _ => False) hb).heap hc0 id])) (idx_le s) (fun j hj => idx_before s j hj) (fun h => idx_at s h)
  rw [← HQ.out, ← HD.out] at hfind
  refine hfind.mono ?_
  clear hfind
  rintro e w1 ⟨rfl, hb1⟩
  have hr1 : w1.heap[w.heap.size + 1]? = some (.cells #[.string ⟨#[]⟩, .int .i64 0] 242 (0, 0)) := (Only.ofBelow (S := fun _ => False) hb1).heap hr0 id
  have hbw : Below w.heap.size w w1 := hb0.trans (hb1.mono hb0.size)
  clear hb1 hb0 hc0 hr0
  have hf0 : w1.frozen? ⟨w.heap.size + 1, 0, none⟩ = false := by simp [World.frozen?, hr1]
  have hf1 : w1.frozen? ⟨w.heap.size + 1, 1, none⟩ = false := by simp [World.frozen?, hr1]
  have hd0 : w1.cell? ⟨w.heap.size + 1, 0, none⟩ = some (.string ⟨#[]⟩) := by simp [World.cell?, hr1]
  have hd1 : w1.cell? ⟨w.heap.size + 1, 1, none⟩ = some (.int .i64 0) := by simp [World.cell?, hr1]
  have HR := Lib.hid hr1
  clear hr1
  go_wp2
  have hl := load_op (w := (w1.setCell ⟨w.heap.size + 1, 0, none⟩ (.string (S (nameAt (idx s))))).setCell ⟨w.heap.size + 1, 1, none⟩ (.int .i64 (hasAt (idx s) : Nat))) (set2 HR.out)
  refine bodyPost_ret (v := .tuple #[.int .i64 (q : Nat), .agg #[.string (S (nameAt (idx s))), .int .i64 (hasAt (idx s) : Nat)], .bool d]) ?_ rfl ⟨rfl, ?_⟩
  · simp [results, Tryz.results273, asAddr, hl]
  · exact (hbw.setCell (by simp) _).setCell (by simp) _
/-- Has it a text? -/
theorem istext_any (h : Nat) (w : World) : Calls Tryz.prog 250 #[.int .i64 h] w fun e w' => e = .returned (.bool (decide (2 ≤ h))) ∧ w = w' := by
  go_enter Tryz.func250, Tryz.ntmps250
  go_wp2
  go_ret
  have hd : decide ((2 : Int) ≤ (h : Int)) = decide (2 ≤ h) := decide_eq_decide.2 (by omega)
  refine ⟨?_, rfl⟩
  show Ending.returned (.bool (decide ((2 : Int) ≤ (h : Int)))) = _
  rw [hd]
end Go.Proofs.YtpincofjopmaaaaGreatDoor
namespace Go.Proofs.YtpincofjopmaaaaGreatDoor
open Go.RowKit
/-- How deep, of a kind; 0 of another text. -/
def depN (l : List UInt8) : Nat := if rightB l = true then deepN l else 0
theorem depN_right {l : List UInt8} (h : rightB l = true) : depN l = deepN l := by unfold depN; rw [if_pos h]
theorem depN_not {l : List UInt8} (h : rightB l = false) : depN l = 0 := by unfold depN; rw [if_neg (by rw [h]; decide)]
theorem depN_le (l : List UInt8) : depN l ≤ 3 := by
  unfold depN
  split
  · rename_i h
    unfold rightB at h
    simp at h
    exact h.1
  · omega
/-- So many pairs of brackets are taken off. -/
def Off (l : List UInt8) (k : Nat) (r : List UInt8) : Prop := k ≤ 3 ∧ 2 * k ≤ l.length ∧ r = l.take (l.length - 2 * k) ∧ deepN l = deepN r + k
theorem off_zero (l : List UInt8) : Off l 0 l := ⟨by omega, by omega, by simp, by omega⟩
theorem off_next {l r : List UInt8} {k : Nat} (h : Off l k r) (hk : k < 3) (he : endsB r = true) : Off l (k + 1) (r.take (r.length - 2)) := by
  obtain ⟨_, h2, h3, h4⟩ := h
  have hr := endsB_two he
  have hl : r.length = l.length - 2 * k := by rw [h3, List.length_take]; omega
  refine ⟨by omega, by omega, ?_, by rw [h4, deepN_ends he]; omega⟩
  rw [hl, h3, List.take_take]
  congr 1
  omega
/-- Where no pair is left, or three were taken off, what is left decides. -/
theorem off_end {l r : List UInt8} {k : Nat} (h : Off l k r) (hs : endsB r = false ∨ k = 3) : rightB l = (plainB r || classB r) ∧ (rightB l = true → depN l = k) := by
  obtain ⟨h1, h2, h3, h4⟩ := h
  cases he : endsB r with
  | false =>
    have hd : deepN l = k := by rw [h4, deepN_not he]; omega
    have hb : baseL l = r := by unfold baseL; rw [hd, h3]
    refine ⟨by unfold rightB; rw [hb, hd, decide_eq_true h1, Bool.true_and]; rfl, fun hr => by rw [depN_right hr, hd]⟩
  | true =>
    have hk : k = 3 := by rcases hs with hs | hs; (rw [he] at hs; cases hs); exact hs
    have hd : ¬ deepN l ≤ 3 := by rw [h4, deepN_ends he]; omega
    have hr : rightB l = false := by unfold rightB; rw [decide_eq_false hd, Bool.false_and]
    have hn : (plainB r || classB r) = false := by
      cases hb : (plainB r || classB r) with
      | false => rfl
      | true =>
        have := nameB_ends (baseB_name (l := r) hb)
        rw [he] at this
        cases this
    rw [hr, hn]
    exact ⟨rfl, fun h => by cases h⟩
theorem off_len {l r : List UInt8} {k : Nat} (h : Off l k r) : r.length ≤ l.length := by rw [h.2.2.1, List.length_take]; omega
/-- What depth answers. -/
def Depth (l : List UInt8) (w : World) (e : Ending) (w' : World) : Prop := e = .returned (.tuple #[.int .i64 (depN l), .bool (rightB l)]) ∧ Below w.heap.size w w'
theorem kret_pair {a b : Nat} {c d : Bool} (h : a = b) (h2 : c = d) : Ending.returned (.tuple #[.int .i64 (a : Int), .bool c]) = .returned (.tuple #[.int .i64 (b : Int), .bool d]) := by rw [h, h2]
set_option maxHeartbeats 1000000 in
set_option maxRecDepth 100000 in
theorem depth_any (l : List UInt8) (w : World) (hlim : l.length ≤ 9223372036854775807) :
    Calls Tryz.prog 128 #[.string (S l)] w (Depth l w) := by
  go_enter Tryz.func128, Tryz.ntmps128
  go_wp2
  go_loop [0, 4] (fun v0 v4 => ∃ (k : Nat) (r : List UInt8), v0 = .string (S r) ∧ v4 = .int .i64 k ∧ Off l k r) (fun _ v4 => 3 - (intOf v4).toNat)
  case atStart => exact ⟨0, l, rfl, rfl, off_zero l⟩
  case round =>
    obtain ⟨k, r, rfl, rfl, hoff⟩ := hrel
    have hk3 := hoff.1
    have hrl := off_len hoff
    have HOFF := Lib.hid hoff
    clear hoff
    have HS := Lib.hid (fun w => hassuf_any r w (by omega))
    have HP := Lib.hid (plain_any r)
    have HC := Lib.hid (fun w => class_any r w (by omega))
    cases he : endsB r with
    | true =>
      by_cases hlt : k < 3
      · have HT := Lib.hid (fun w => trimsuf_yes r w (by omega) he)
        have HN := Lib.hid (off_next HOFF.out hlt he)
        rw [he] at HS
        have hlt2 : (k : Int) < 3 := by omega
        clear he
        go_wp2_with fail
        refine (HS.out _).mono ?_
        rintro e w' ⟨rfl, rfl⟩
        go_wp2_with fail
        refine (HT.out _).mono ?_
        rintro e w' ⟨rfl, rfl⟩
        go_wp2
        go_round
        case rel => exact ⟨k + 1, _, rfl, by go_num, HN.out⟩
        case measure => simp [intOf]; omega
      · obtain rfl : k = 3 := by omega
        obtain ⟨hr1, hr2⟩ := off_end HOFF.out (.inr rfl)
        have hn : (plainB r || classB r) = false := by
          cases hb : (plainB r || classB r) with
          | false => rfl
          | true =>
            have := nameB_ends (baseB_name (l := r) hb)
            rw [he] at this
            cases this
        rw [hn] at hr1
        rw [Bool.or_eq_false_iff] at hn
        obtain ⟨hn1, hn2⟩ := hn
        rw [hn1] at HP
        rw [hn2] at HC
        have HR1 := Lib.hid hr1
        clear he hr1 hr2 hn1 hn2 HS HOFF
        go_wp2_with fail
        refine (HP.out _).mono ?_
        rintro e w' ⟨rfl, rfl⟩
        go_wp2_with fail
        refine (HC.out _).mono ?_
        rintro e w' ⟨rfl, hb⟩
        go_wp2
        go_ret2
        exact ⟨kret_pair (a := 0) (depN_not HR1.out).symm HR1.out.symm, hb⟩
    | false =>
      obtain ⟨hr1, hr2⟩ := off_end HOFF.out (.inl he)
      rw [he] at HS
      have HR1 := Lib.hid hr1
      have HR2 := Lib.hid hr2
      clear he hr1 hr2
      by_cases hlt : k < 3
      · have hlt2 : (k : Int) < 3 := by omega
        cases hp : plainB r with
        | true =>
          rw [hp] at HP
          rw [hp, Bool.true_or] at HR1
          clear hp
          go_wp2_with fail
          refine (HS.out _).mono ?_
          rintro e w' ⟨rfl, rfl⟩
          go_wp2_with fail
          refine (HP.out _).mono ?_
          rintro e w' ⟨rfl, rfl⟩
          go_wp2
          go_ret2
          exact ⟨kret_pair (HR2.out HR1.out).symm HR1.out.symm, Below.refl _ _⟩
        | false =>
          rw [hp] at HP
          rw [hp, Bool.false_or] at HR1
          clear hp
          cases hc : classB r with
          | true =>
            rw [hc] at HC HR1
            clear hc
            go_wp2_with fail
            refine (HS.out _).mono ?_
            rintro e w' ⟨rfl, rfl⟩
            go_wp2_with fail
            refine (HP.out _).mono ?_
            rintro e w' ⟨rfl, rfl⟩
            go_wp2_with fail
            refine (HC.out _).mono ?_
            rintro e w' ⟨rfl, hb⟩
            go_wp2
            go_ret2
            exact ⟨kret_pair (HR2.out HR1.out).symm HR1.out.symm, hb⟩
          | false =>
            rw [hc] at HC HR1
            clear hc
            go_wp2_with fail
            refine (HS.out _).mono ?_
            rintro e w' ⟨rfl, rfl⟩
            go_wp2_with fail
            refine (HP.out _).mono ?_
            rintro e w' ⟨rfl, rfl⟩
            go_wp2_with fail
            refine (HC.out _).mono ?_
            rintro e w' ⟨rfl, hb⟩
            go_wp2
            go_ret2
            exact ⟨kret_pair (a := 0) (depN_not HR1.out).symm HR1.out.symm, hb⟩
      · obtain rfl : k = 3 := by omega
        clear HS
        cases hp : plainB r with
        | true =>
          rw [hp] at HP
          rw [hp, Bool.true_or] at HR1
          clear hp
          go_wp2_with fail
          refine (HP.out _).mono ?_
          rintro e w' ⟨rfl, rfl⟩
          go_wp2
          go_ret2
          exact ⟨kret_pair (HR2.out HR1.out).symm HR1.out.symm, Below.refl _ _⟩
        | false =>
          rw [hp] at HP
          rw [hp, Bool.false_or] at HR1
          clear hp
          cases hc : classB r with
          | true =>
            rw [hc] at HC HR1
            clear hc
            go_wp2_with fail
            refine (HP.out _).mono ?_
            rintro e w' ⟨rfl, rfl⟩
            go_wp2_with fail
            refine (HC.out _).mono ?_
            rintro e w' ⟨rfl, hb⟩
            go_wp2
            go_ret2
            exact ⟨kret_pair (HR2.out HR1.out).symm HR1.out.symm, hb⟩
          | false =>
            rw [hc] at HC HR1
            clear hc
            go_wp2_with fail
            refine (HP.out _).mono ?_
            rintro e w' ⟨rfl, rfl⟩
            go_wp2_with fail
            refine (HC.out _).mono ?_
            rintro e w' ⟨rfl, hb⟩
            go_wp2
            go_ret2
            exact ⟨kret_pair (a := 0) (depN_not HR1.out).symm HR1.out.symm, hb⟩
theorem right_any (l : List UInt8) (w : World) (hlim : l.length ≤ 9223372036854775807) :
    Calls Tryz.prog 174 #[.string (S l)] w (Said (rightB l) w) := by
  go_enter Tryz.func174, Tryz.ntmps174
  go_wp2_with fail
  refine (depth_any l w hlim).mono ?_
  rintro e w' ⟨rfl, hb⟩
  go_wp2
  go_ret
  exact ⟨rfl, hb⟩
/-- A number is answered; of what was there nothing has changed. -/
def SaidN (n : Nat) (w : World) (e : Ending) (w' : World) : Prop := e = .returned (.int .i64 n) ∧ Below w.heap.size w w'
theorem deep_any (l : List UInt8) (w : World) (hlim : l.length ≤ 9223372036854775807) :
    Calls Tryz.prog 76 #[.string (S l)] w (SaidN (depN l) w) := by
  go_enter Tryz.func76, Tryz.ntmps76
  go_wp2_with fail
  refine (depth_any l w hlim).mono ?_
  rintro e w' ⟨rfl, hb⟩
  go_wp2
  go_ret
  exact ⟨rfl, hb⟩
/-- A text is answered; of what was there nothing has changed. -/
def SaidS (l : List UInt8) (w : World) (e : Ending) (w' : World) : Prop := e = .returned (.string (S l)) ∧ Below w.heap.size w w'
/-- What Of answers. -/
def SaidOf (l : List UInt8) (w : World) (e : Ending) (w' : World) : Prop :=
  (if rightB l = true ∧ deepN l ≤ 2 then e = .returned (.tuple #[.string (S (ofL l)), .int .i64 0]) else e = .returned (.tuple #[.string ⟨#[]⟩, .int .i64 30])) ∧ Below w.heap.size w w'
set_option maxHeartbeats 400000 in
theorem of_any (l : List UInt8) (w : World) (hlim : l.length ≤ 9223372036854775807) :
    Calls Tryz.prog 290 #[.string (S l)] w (SaidOf l w) := by
  have HD := Lib.hid (depth_any l w hlim)
  unfold Depth at HD
  cases hr : rightB l with
  | false =>
    have HF := Lib.hid (show ¬ (rightB l = true ∧ deepN l ≤ 2) from fun h => by rw [hr] at h; cases h.1)
    rw [hr] at HD
    clear hr
    go_enter Tryz.func290, Tryz.ntmps290
    go_wp2_with fail
    refine HD.out.mono ?_
    rintro e w' ⟨rfl, hb⟩
    go_wp2
    go_ret2
    exact ⟨by rw [if_neg HF.out]; rfl, hb⟩
  | true =>
    have hd := depN_right hr
    rw [hr] at HD
    by_cases h2 : deepN l ≤ 2
    · have HF := Lib.hid (show rightB l = true ∧ deepN l ≤ 2 from ⟨hr, h2⟩)
      have hne : ((depN l : Int) == 3) = false := by rw [beq_eq_false_iff_ne]; omega
      have HA : Hid (S l ++ ⟨#[91, 93]⟩ = S (ofL l)) := S_append l [91, 93]
      have hsum : (S l).size + 2 ≤ 9223372036854775807 := by
        have q1 := (nameB_pos (right_base hr)).2
        rw [baseL_length] at q1
        rw [S_size]
        omega
      clear hr hd h2
      generalize depN l = N at *
      go_enter Tryz.func290, Tryz.ntmps290
      go_wp2_with fail
      refine HD.out.mono ?_
      rintro e w' ⟨rfl, hb⟩
      go_wp2
      go_ret2
      exact ⟨by rw [if_pos HF.out]; rfl, hb⟩
    · have HF := Lib.hid (show ¬ (rightB l = true ∧ deepN l ≤ 2) from fun h => h2 h.2)
      have hne : depN l = 3 := by have := depN_le l; omega
      rw [hne] at HD
      clear hr hd h2 hne
      go_enter Tryz.func290, Tryz.ntmps290
      go_wp2_with fail
      refine HD.out.mono ?_
      rintro e w' ⟨rfl, hb⟩
      go_wp2
      go_ret2
      exact ⟨by rw [if_neg HF.out]; rfl, hb⟩
end Go.Proofs.YtpincofjopmaaaaGreatDoor
namespace Go.Proofs.YtpincofjopmaaaaGreatDoor
open Go.RowKit
set_option maxHeartbeats 400000 in
theorem elem_any (l : List UInt8) (w : World) (hlim : l.length ≤ 9223372036854775807) :
    Calls Tryz.prog 131 #[.string (S l)] w (SaidS (elemL l) w) := by
  have HD := Lib.hid (deep_any l w hlim)
  unfold SaidN at HD
  by_cases h0 : depN l = 0
  · have HE := Lib.hid (show elemL l = [] by
      unfold elemL
      rw [if_neg]
      rintro ⟨hr, hd⟩
      rw [depN_right hr] at h0
      omega)
    rw [h0] at HD
    clear h0
    go_enter Tryz.func131, Tryz.ntmps131
    go_wp2_with fail
    refine HD.out.mono ?_
    rintro e w' ⟨rfl, hb⟩
    go_wp2
    go_ret
    exact ⟨by rw [HE.out]; rfl, hb⟩
  · have hr : rightB l = true := by
      cases hr : rightB l with
      | true => rfl
      | false => exact absurd (depN_not hr) h0
    have hd : 1 ≤ deepN l := by rw [depN_right hr] at h0; omega
    have he := deep_ends hd
    have HE := Lib.hid (show elemL l = l.take (l.length - 2) by unfold elemL; rw [if_pos ⟨hr, hd⟩])
    have HT := Lib.hid (fun w => trimsuf_yes l w hlim he)
    have hlen : l.length ≤ 281474976710656 := by
      have hr' := hr
      unfold rightB at hr'
      simp only [Bool.and_eq_true] at hr'
      have h1 := (nameB_pos (baseB_name hr'.2)).2
      rw [baseL_length] at h1
      have h2 := deepN_le l
      have h3 := hr'.1
      simp at h3
      omega
    have HC := Lib.hid (fun w => sclone_any (S (l.take (l.length - 2))) w (by rw [S_size, List.length_take]; omega))
    clear hlen
    have hne : ((depN l : Int) == 0) = false := by rw [beq_eq_false_iff_ne]; omega
    clear hr hd he h0
    generalize depN l = N at *
    go_enter Tryz.func131, Tryz.ntmps131
    go_wp2_with fail
    refine HD.out.mono ?_
    rintro e w' ⟨rfl, hb⟩
    go_wp2_with fail
    refine (HT.out _).mono ?_
    rintro e w2 ⟨rfl, rfl⟩
    go_wp2_with fail
    refine (HC.out _).mono ?_
    rintro e w2 ⟨rfl, hb2⟩
    go_wp2
    go_ret
    exact ⟨by rw [HE.out]; rfl, hb.trans (hb2.mono hb.size)⟩
/-- What Parts answers. -/
def SaidParts (l : List UInt8) (w : World) (e : Ending) (w' : World) : Prop :=
  (if partsB l = true then e = .returned (.tuple #[.string (S (l.take (dotAt l))), .string (S (l.drop (dotAt l + 1))), .int .i64 0]) else e = .returned (.tuple #[.string ⟨#[]⟩, .string ⟨#[]⟩, .int .i64 30])) ∧ Below w.heap.size w w'
theorem below_drewN (w : World) (q : Nat) : Below w.heap.size w (w.drewN q) := by
  induction q with
  | zero => exact Below.refl _ _
  | succ q ih => exact ih.drew
set_option maxHeartbeats 1000000 in
theorem parts_any (l : List UInt8) (w : World) (hlim : l.length ≤ 9223372036854775807) :
    Calls Tryz.prog 291 #[.string (S l)] w (SaidParts l w) := by
  go_enter Tryz.func291, Tryz.ntmps291
  go_wp2_with fail
  refine (cut_any l w hlim).mono ?_
  rintro e w' ⟨⟨q, rfl⟩, hc⟩
  have hb0 := below_drewN w q
  generalize w.drewN q = w1 at *
  rcases hc with ⟨hd, rfl⟩ | ⟨hd, rfl⟩
  · have HP := Lib.hid (show partsB l = (classB (l.take (dotAt l)) && memberB (l.drop (dotAt l + 1))) by unfold partsB; rw [decide_eq_true hd, Bool.true_and])
    have HA := Lib.hid (fun w => class_any (l.take (dotAt l)) w (by rw [List.length_take]; omega))
    have HB := Lib.hid (fun w => named_lo (l.drop (dotAt l + 1)) w (by rw [List.length_drop]; omega))
    have HC1 := Lib.hid (fun w (hcb : classB (l.take (dotAt l)) = true) => sclone_any (S (l.take (dotAt l))) w (by have q := (nameB_pos (classB_name hcb)).2; rw [S_size]; omega))
    have HC2 := Lib.hid (fun w (hmb : memberB (l.drop (dotAt l + 1)) = true) => sclone_any (S (l.drop (dotAt l + 1))) w (by unfold memberB at hmb; rw [Bool.and_eq_true] at hmb; have q := (nameB_pos hmb.1).2; rw [S_size]; omega))
    unfold Said at HA HB
    clear hd
    have HF : Hid (∀ e w', (if partsB l = true then e = .returned (.tuple #[.string (S (l.take (dotAt l))), .string (S (l.drop (dotAt l + 1))), .int .i64 0]) else e = .returned (.tuple #[.string ⟨#[]⟩, .string ⟨#[]⟩, .int .i64 30])) → Below w.heap.size w w' → SaidParts l w e w') := fun e w' h h2 => ⟨h, h2⟩
    generalize S (l.take (dotAt l)) = A at *
    generalize S (l.drop (dotAt l + 1)) = B at *
    generalize memberB (l.drop (dotAt l + 1)) = mb at *
    generalize classB (l.take (dotAt l)) = cb at *
    cases cb with
    | false =>
      go_wp2_with fail
      refine (HA.out _).mono ?_
      rintro e w2 ⟨rfl, hb2⟩
      go_wp2
      go_ret3
      exact HF.out _ _ (by rw [HP.out]; rfl) (hb0.trans (hb2.mono hb0.size))
    | true =>
      cases mb with
      | false =>
        go_wp2_with fail
        refine (HA.out _).mono ?_
        rintro e w2 ⟨rfl, hb2⟩
        go_wp2_with fail
        refine (HB.out _).mono ?_
        rintro e w3 ⟨rfl, hb3⟩
        have b2 := hb0.trans (hb2.mono hb0.size)
        have b3 := b2.trans (hb3.mono b2.size)
        go_wp2
        go_ret3
        exact HF.out _ _ (by rw [HP.out]; rfl) b3
      | true =>
        go_wp2_with fail
        refine (HA.out _).mono ?_
        rintro e w2 ⟨rfl, hb2⟩
        go_wp2_with fail
        refine (HB.out _).mono ?_
        rintro e w3 ⟨rfl, hb3⟩
        go_wp2_with fail
        refine (HC1.out _ trivial).mono ?_
        rintro e w4 ⟨rfl, hb4⟩
        go_wp2_with fail
        refine (HC2.out _ trivial).mono ?_
        rintro e w5 ⟨rfl, hb5⟩
        have b2 := hb0.trans (hb2.mono hb0.size)
        have b3 := b2.trans (hb3.mono b2.size)
        have b4 := b3.trans (hb4.mono b3.size)
        have b5 := b4.trans (hb5.mono b4.size)
        go_wp2
        go_ret3
        exact HF.out _ _ (by rw [HP.out]; rfl) b5
  · have HP := Lib.hid (show partsB l = false by unfold partsB; rw [decide_eq_false (show ¬ dotAt l < l.length by omega), Bool.false_and])
    have HA := Lib.hid (fun w => class_any l w hlim)
    have HB := Lib.hid (fun w => named_lo [] w (by simp))
    rw [show memberB [] = false from rfl] at HB
    unfold Said at HA HB
    clear hd
    cases hcb : classB l with
    | false =>
      rw [hcb] at HA
      clear hcb
      go_wp2_with fail
      refine (HA.out _).mono ?_
      rintro e w2 ⟨rfl, hb2⟩
      go_wp2
      go_ret3
      exact ⟨by rw [HP.out]; rfl, hb0.trans (hb2.mono hb0.size)⟩
    | true =>
      rw [hcb] at HA
      clear hcb
      go_wp2_with fail
      refine (HA.out _).mono ?_
      rintro e w2 ⟨rfl, hb2⟩
      go_wp2_with fail
      refine (HB.out _).mono ?_
      rintro e w3 ⟨rfl, hb3⟩
      have b2 := hb0.trans (hb2.mono hb0.size)
      have b3 := b2.trans (hb3.mono b2.size)
      go_wp2
      go_ret3
      exact ⟨by rw [HP.out]; rfl, b3⟩
/-- Parts of a member. -/
theorem parts_yes (l : List UInt8) (w : World) (hlim : l.length ≤ 9223372036854775807) (h : partsB l = true) :
    Calls Tryz.prog 291 #[.string (S l)] w fun e w' => e = .returned (.tuple #[.string (S (l.take (dotAt l))), .string (S (l.drop (dotAt l + 1))), .int .i64 0]) ∧ Below w.heap.size w w' := by
  refine (parts_any l w hlim).mono ?_
  rintro e w' ⟨h1, h2⟩
  rw [if_pos h] at h1
  exact ⟨h1, h2⟩
/-- Parts of any other text. -/
theorem parts_no (l : List UInt8) (w : World) (hlim : l.length ≤ 9223372036854775807) (h : partsB l = false) :
    Calls Tryz.prog 291 #[.string (S l)] w fun e w' => e = .returned (.tuple #[.string ⟨#[]⟩, .string ⟨#[]⟩, .int .i64 30]) ∧ Below w.heap.size w w' := by
  refine (parts_any l w hlim).mono ?_
  rintro e w' ⟨h1, h2⟩
  rw [if_neg (by rw [h]; decide)] at h1
  exact ⟨h1, h2⟩
/-- Arrays of a kind that is not too deep. -/
theorem of_yes (l : List UInt8) (w : World) (hlim : l.length ≤ 9223372036854775807) (h : rightB l = true) (h2 : deepN l ≤ 2) :
    Calls Tryz.prog 290 #[.string (S l)] w fun e w' => e = .returned (.tuple #[.string (S (ofL l)), .int .i64 0]) ∧ Below w.heap.size w w' := by
  refine (of_any l w hlim).mono ?_
  rintro e w' ⟨h3, h4⟩
  rw [if_pos ⟨h, h2⟩] at h3
  exact ⟨h3, h4⟩
/-- There are no arrays of any other text. -/
theorem of_no (l : List UInt8) (w : World) (hlim : l.length ≤ 9223372036854775807) (h : ¬ (rightB l = true ∧ deepN l ≤ 2)) :
    Calls Tryz.prog 290 #[.string (S l)] w fun e w' => e = .returned (.tuple #[.string ⟨#[]⟩, .int .i64 30]) ∧ Below w.heap.size w w' := by
  refine (of_any l w hlim).mono ?_
  rintro e w' ⟨h3, h4⟩
  rw [if_neg h] at h3
  exact ⟨h3, h4⟩
end Go.Proofs.YtpincofjopmaaaaGreatDoor
