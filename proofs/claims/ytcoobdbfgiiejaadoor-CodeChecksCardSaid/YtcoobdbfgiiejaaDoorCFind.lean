/-
  The contracts of package code's find and named (with its closure), and of isText.
  Conditions: the table of operators holds what it holds at the start.
-/
import Derived.Test.YtcoobdbfgiiejaaDoorCodeL
import Derived.Test.YtcoobdbfgiiejaaDoorStr
import Derived.Deep.MidRow
import Derived.Deep.QuietTactic
import Derived.BigQuiet
import Derived.Deep.Cut
import Derived.IntWalk
namespace Go.Proofs.YtcoobdbfgiiejaaDoor
open Go.RowKit
/-- The table of operators is as at the start. -/
def OpTab (w : World) : Prop := w.rangeAt 0 0 opCells
theorem OpTab.keep {w w' : World} (h : OpTab w) (hb : Below w.heap.size w w') : OpTab w' := fun j v hj =>
  (Only.ofBelow (S := fun _ => False) hb).cell (h j v hj) id
theorem range2 {w : World} {b : Nat} {x y : Value} {t : TypeId} {fz : Nat × Nat} (h : w.heap[b]? = some (.cells #[x, y] t fz)) : w.rangeAt b 0 [x, y] := by
  intro j v hj
  match j, hj with
  | 0, hj => simp at hj; subst hj; simp [World.cell?, h]
  | 1, hj => simp at hj; subst hj; simp [World.cell?, h]
  | j + 2, hj => simp at hj
theorem set2 {w : World} {b : Nat} {x y u v : Value} {t : TypeId} {fz : Nat × Nat} (h : w.heap[b]? = some (.cells #[x, y] t fz)) : ((w.setCell ⟨b, 0, none⟩ u).setCell ⟨b, 1, none⟩ v).heap[b]? = some (.cells #[u, v] t fz) := by
  rw [heap_setCell_self (heap_setCell_self h)]
  rfl
theorem info_op2 : (Tryd.prog.info? 43).map (·.size) = some 2 := by kernel_rfl
/-- What a result cell of an operator's type holds when the call returns. -/
theorem load_op {w : World} {b : Nat} {x y : Value} {t : TypeId} {fz : Nat × Nat} (h : w.heap[b]? = some (.cells #[x, y] t fz)) : (loadVar 43 ⟨b, 0, none⟩).run Tryd.prog w = .ok (.agg #[x, y]) w :=
  run_loadVar_mid (P := Tryd.prog) w b 0 43 [x, y] _ (range2 h) Tryd.underlying43 rfl info_op2
theorem info_ops : (Tryd.prog.info? 49).map (·.size) = some opCells.length := by kernel_rfl
set_option maxHeartbeats 2000000 in
set_option maxRecDepth 100000 in
theorem find_any (F : Nat) (cp : Value) (p : Nat → Bool) (N : Nat) (he : ∀ args w, (callFunc F args).run Tryd.prog w = .ok (.enter F args) w)
    (w : World) (hO : OpTab w)
    (hF : ∀ (k : Nat) (w' : World), k < 42 → Below w.heap.size w w' → Calls Tryd.prog F #[.int .i64 k, .agg #[.string (S (nameAt k)), .int .i64 (hasAt k : Nat)], cp] w' fun e w'' => e = .returned (.bool (p k)) ∧ Below w'.heap.size w' w'')
    (hN : N ≤ 42) (hlo : ∀ j, j < N → p j = false) (hat : N < 42 → p N = true) :
    Calls Tryd.prog 36 #[.func (.func F) #[] #[cp]] w fun e w' => e = .returned (.tuple #[.int .i64 (if N < 42 then N else 0 : Nat), .agg #[.string (S (nameAt N)), .int .i64 (hasAt N : Nat)], .bool (decide (N < 42))]) ∧ Below w.heap.size w w' := by
  have HF := Lib.hid hF
  have HLO := Lib.hid hlo
  have HAT := Lib.hid hat
  have HO := Lib.hid hO
  have HE := Lib.hid he
  have HI := Lib.hid info_ops
  clear hF hlo hat hO he
  go_enter Tryd.func36, Tryd.ntmps36
  go_upto_region 1 with fail
  refine wp_region_lit ?_
  refine wpList_load_mid (by rfl) 49 _ (by rfl) 0 0 (by rfl) opCells _ (HO.out.keep ((Below.refl _ w).alloc (Nat.le_refl _) _)) Tryd.underlying49 (by rfl) HI.out ?_
  go_wp2
  go_loopw [8] (fun v8 wr => ∃ k : Nat, k ≤ N ∧ v8 = .int .i64 k ∧ wr.heap[w.heap.size]? = some (.cells #[.string ⟨#[]⟩, .int .i64 0] 43 (0, 0)) ∧ Below w.heap.size w wr) (fun v8 _ => 42 - (intOf v8).toNat)
  case atStart => exact ⟨0, Nat.zero_le _, rfl, heap_alloc_new w _, (Below.refl _ w).alloc (Nat.le_refl _) _⟩
  case round =>
    obtain ⟨k, hk, rfl, hblk, hbel⟩ := hrel
    by_cases hlt : k < 42
    · have hlt' : (k : Int) < 42 := by omega
      have hk0 : (0 : Int) ≤ k := by omega
      have hix := op_index k hlt
      have he := HE.out
      have HB := Lib.hid hblk
      clear hblk
      go_wp2_with fail
      have hbA : Below w.heap.size w (wr.alloc (.cells #[.string (S (nameAt k)), .int .i64 (hasAt k : Nat)] 43)) := hbel.alloc hbel.size _
      refine (HF.out k _ hlt hbA).mono ?_
      rintro e w1 ⟨rfl, hb1⟩
      have hres : w1.heap[w.heap.size]? = some (.cells #[.string ⟨#[]⟩, .int .i64 0] 43 (0, 0)) := (Only.ofBelow (S := fun _ => False) hb1).heap (((Only.refl (fun _ => False) wr).alloc _).heap HB.out id) id
      have hnew : w1.heap[wr.heap.size]? = some (.cells #[.string (S (nameAt k)), .int .i64 (hasAt k : Nat)] 43 (0, 0)) := (Only.ofBelow (S := fun _ => False) hb1).heap (heap_alloc_new wr _) id
      have hbw : Below w.heap.size w w1 := hbA.trans (hb1.mono hbA.size)
      clear he hix hb1 hbA
      by_cases hkn : k < N
      · rw [HLO.out k hkn]
        have HR := Lib.hid hres
        clear hres hnew
        go_wp2
        go_roundw
        case rel => exact ⟨k + 1, by omega, by go_num, HR.out, hbw⟩
        case measure => simp [intOf]; omega
      · obtain rfl : k = N := by omega
        rw [HAT.out hlt]
        have hf0 : w1.frozen? ⟨w.heap.size, 0, none⟩ = false := by simp [World.frozen?, hres]
        have hf1 : w1.frozen? ⟨w.heap.size, 1, none⟩ = false := by simp [World.frozen?, hres]
        have hc0 : w1.cell? ⟨w.heap.size, 0, none⟩ = some (.string ⟨#[]⟩) := by simp [World.cell?, hres]
        have hc1 : w1.cell? ⟨w.heap.size, 1, none⟩ = some (.int .i64 0) := by simp [World.cell?, hres]
        have hn0 : w1.cell? ⟨wr.heap.size, 0, none⟩ = some (.string (S (nameAt k))) := by simp [World.cell?, hnew]
        have hn1 : w1.cell? ⟨wr.heap.size, 1, none⟩ = some (.int .i64 (hasAt k : Nat)) := by simp [World.cell?, hnew]
        have HR := Lib.hid hres
        clear hres hnew
        go_wp2_with go_region
        have hl := load_op (w := ((w1.setCell ⟨w.heap.size, 0, none⟩ (.string (S (nameAt k)))).setCell ⟨w.heap.size, 1, none⟩ (.int .i64 (hasAt k : Nat))).drew) (set2 HR.out)
        refine bodyPost_ret (v := .tuple #[.int .i64 (k : Nat), .agg #[.string (S (nameAt k)), .int .i64 (hasAt k : Nat)], .bool true]) ?_ rfl ⟨rfl, ?_⟩
        · simp [results, Tryd.results36, asAddr, hl]
        · exact ((hbw.setCell (by simp) _).setCell (by simp) _).drew
    · obtain rfl : k = 42 := by omega
      obtain rfl : N = 42 := by omega
      have hf0 : wr.frozen? ⟨w.heap.size, 0, none⟩ = false := by simp [World.frozen?, hblk]
      have hf1 : wr.frozen? ⟨w.heap.size, 1, none⟩ = false := by simp [World.frozen?, hblk]
      have hc0 : wr.cell? ⟨w.heap.size, 0, none⟩ = some (.string ⟨#[]⟩) := by simp [World.cell?, hblk]
      have hc1 : wr.cell? ⟨w.heap.size, 1, none⟩ = some (.int .i64 0) := by simp [World.cell?, hblk]
      have HR := Lib.hid hblk
      clear hblk
      go_wp2
      have hl := load_op (w := (wr.setCell ⟨w.heap.size, 0, none⟩ (.string ⟨#[]⟩)).setCell ⟨w.heap.size, 1, none⟩ (.int .i64 0)) (set2 HR.out)
      refine bodyPost_ret (v := .tuple #[.int .i64 0, .agg #[.string (S (nameAt 42)), .int .i64 (hasAt 42 : Nat)], .bool false]) ?_ rfl ⟨rfl, ?_⟩
      · rw [at_end.1, at_end.2]
        simp [results, Tryd.results36, asAddr, hl, S]
      · exact (hbel.setCell (by simp) _).setCell (by simp) _

theorem enters_cf {f : FuncId} {fn : Func} {c : Code} (hf : Tryd.prog.funcs[f]? = some fn) (hname : (fn.name == "runtime.NumGoroutine") = false) (hb : fn.body = some c) (args : Array Value) (w : World) : (callFunc f args).run Tryd.prog w = .ok (.enter f args) w := by
  have h1 : ¬ (fn.name = "runtime.NumGoroutine") := by simpa using hname
  simp [callFunc, hf, h1, hb, mark]
set_option maxHeartbeats 2000000 in
set_option maxRecDepth 100000 in
theorem named1_any (k b : Nat) (a s : List UInt8) (h : Int) (w : World) (hc : w.cell? ⟨b, 0, none⟩ = some (.string (S s))) :
    Calls Tryd.prog 37 #[.int .i64 k, .agg #[.string (S a), .int .i64 h], .pointer (some ⟨b, 0, none⟩)] w fun e w' => e = .returned (.bool (a == s)) ∧ Below w.heap.size w w' := by
  have hcA : ∀ o : Obj, (w.alloc o).cell? ⟨b, 0, none⟩ = some (.string (S s)) := fun o => ((Only.refl (fun _ => False) w).alloc o).cell hc id
  clear hc
  go_enter Tryd.func37, Tryd.ntmps37
  go_wp2
  go_ret
  refine ⟨?_, (Below.refl _ w).alloc (Nat.le_refl _) _⟩
  show Ending.returned (.bool ((S a).toList == (S s).toList)) = _
  rw [S_toList, S_toList]
/-- What looking a name up answers. -/
def lookV (s : List UInt8) : Value := .tuple #[.int .i64 (if idx s < 42 then idx s else 0 : Nat), .agg #[.string (S (nameAt (idx s))), .int .i64 (hasAt (idx s) : Nat)], .bool (decide (idx s < 42))]
set_option maxHeartbeats 2000000 in
set_option maxRecDepth 100000 in
theorem cnamed_any (s : List UInt8) (w : World) (hO : OpTab w) :
    Calls Tryd.prog 15 #[.string (S s)] w fun e w' => e = .returned (lookV s) ∧ Below w.heap.size w w' := by
  have hmf : ∀ (fn : Fn) (first cap : Array Value) (w : World), (Instr.makeFunc fn first cap).run Tryd.prog w = .ok (.func fn first cap) w := fun _ _ _ _ => rfl
  have HO := Lib.hid hO
  clear hO
  unfold lookV
  obtain ⟨q, hq⟩ : ∃ q, q = (if idx s < 42 then idx s else 0) := ⟨_, rfl⟩
  obtain ⟨d, hd⟩ : ∃ d, d = decide (idx s < 42) := ⟨_, rfl⟩
  rw [← hq, ← hd]
  have HQ := Lib.hid hq
  have HD := Lib.hid hd
  clear hq hd
  go_enter Tryd.func15, Tryd.ntmps15
  go_wp2_with fail
  have hb0 : Below w.heap.size w ((w.alloc (.cells #[.string (S s)] 9)).alloc (.cells #[.string ⟨#[]⟩, .int .i64 0] 43)) := ((Below.refl _ w).alloc (Nat.le_refl _) _).alloc (by simp) _
  have hc0 : ((w.alloc (.cells #[.string (S s)] 9)).alloc (.cells #[.string ⟨#[]⟩, .int .i64 0] 43)).heap[w.heap.size]? = some (.cells #[.string (S s)] 9 (0, 0)) := ((Only.refl (fun _ => False) _).alloc _).heap (heap_alloc_new w _) id
  have hr0 : ((w.alloc (.cells #[.string (S s)] 9)).alloc (.cells #[.string ⟨#[]⟩, .int .i64 0] 43)).heap[w.heap.size + 1]? = some (.cells #[.string ⟨#[]⟩, .int .i64 0] 43 (0, 0)) := (heap_alloc_new' (w.alloc _) _ _ (by simp)).trans rfl
  generalize hw0 : (w.alloc (.cells #[.string (S s)] 9)).alloc (.cells #[.string ⟨#[]⟩, .int .i64 0] 43) = w0 at hb0 hc0 hr0 ⊢
  clear hw0
  have hfind := find_any 37 (.pointer (some ⟨w.heap.size, 0, none⟩)) (fun k => nameAt k == s) (idx s) (enters_cf Tryd.func37 (by kernel_rfl) rfl) w0 (HO.out.keep hb0)
    (fun k w' _ hb => named1_any k _ _ s _ w' (by simp [World.cell?, (Only.ofBelow (S := fun _ => False) hb).heap hc0 id])) (idx_le s) (fun j hj => idx_before s j hj) (fun h => idx_at s h)
  rw [← HQ.out, ← HD.out] at hfind
  refine hfind.mono ?_
  clear hfind
  rintro e w1 ⟨rfl, hb1⟩
  have hr1 : w1.heap[w.heap.size + 1]? = some (.cells #[.string ⟨#[]⟩, .int .i64 0] 43 (0, 0)) := (Only.ofBelow (S := fun _ => False) hb1).heap hr0 id
  have hbw : Below w.heap.size w w1 := hb0.trans (hb1.mono hb0.size)
  clear hb1 hb0 hc0 hr0
  have hf0 : w1.frozen? ⟨w.heap.size + 1, 0, none⟩ = false := by simp [World.frozen?, hr1]
  have hf1 : w1.frozen? ⟨w.heap.size + 1, 1, none⟩ = false := by simp [World.frozen?, hr1]
  have hd0 : w1.cell? ⟨w.heap.size + 1, 0, none⟩ = some (.string ⟨#[]⟩) := by simp [World.cell?, hr1]
  have hd1 : w1.cell? ⟨w.heap.size + 1, 1, none⟩ = some (.int .i64 0) := by simp [World.cell?, hr1]
  have HR := Lib.hid hr1
  clear hr1
  go_wp2
  have hl := load_op (w := (w1.setCell ⟨w.heap.size + 1, 0, none⟩ (.string (S (nameAt (idx s))))).setCell ⟨w.heap.size + 1, 1, none⟩ (.int .i64 (hasAt (idx s) : Nat))) (set2 HR.out)
  refine bodyPost_ret (v := .tuple #[.int .i64 (q : Nat), .agg #[.string (S (nameAt (idx s))), .int .i64 (hasAt (idx s) : Nat)], .bool d]) ?_ rfl ⟨rfl, ?_⟩
  · simp [results, Tryd.results15, asAddr, hl]
  · exact (hbw.setCell (by simp) _).setCell (by simp) _
/-- Has it a text? -/
theorem istext_any (h : Nat) (w : World) : Calls Tryd.prog 16 #[.int .i64 h] w fun e w' => e = .returned (.bool (decide (2 ≤ h))) ∧ w = w' := by
  go_enter Tryd.func16, Tryd.ntmps16
  go_wp2
  go_ret
  have hd : decide ((2 : Int) ≤ (h : Int)) = decide (2 ≤ h) := decide_eq_decide.2 (by omega)
  refine ⟨?_, rfl⟩
  show Ending.returned (.bool (decide ((2 : Int) ≤ (h : Int)))) = _
  rw [hd]
end Go.Proofs.YtcoobdbfgiiejaaDoor
