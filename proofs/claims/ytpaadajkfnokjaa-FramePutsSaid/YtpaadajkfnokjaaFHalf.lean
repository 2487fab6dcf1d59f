/-
  The contract of frame.halfSums and of its closure: the sixteen sums are what four bits make of a sum.
  Conditions: none of its own.
-/
import Derived.Test.YtpaadajkfnokjaaStr
import Derived.Test.YtpaadajkfnokjaaTurnL
import Derived.Test.YtpaadajkfnokjaaProg
import Derived.Test.YtpaadajkfnokjaaBits
import Derived.IntWalk
import Derived.Deep.QuietTactic
import Derived.BigQuiet
import Derived.Deep.MidRow
import Derived.Deep.Cut
namespace Go.Proofs.Ytpaadajkfnokjaa
open Go.RowKit

set_option maxHeartbeats 4000000 in
set_option maxRecDepth 100000 in
theorem add_any (bit s b : Nat) (w : World) (hbit : bit < 2) (hs : s < 4294967296) (hb : w.heap[b]? = some (.cells #[.int .u32 s] 23 (0, 0))) :
    Calls Try.prog 21 #[.int .u32 bit, .pointer (some ⟨b, 0, none⟩)] w fun e w' => e = .returned (.tuple #[]) ∧ w'.heap[b]? = some (.cells #[.int .u32 (T (s ^^^ bit) : Nat)] 23 (0, 0)) ∧ Only (fun k => k = b) w w' := by
  have hc := cell_of_one hb
  have hf := free_of_one hb
  have HB := Lib.hid hb
  clear hb
  go_enter Try.func21, Try.ntmps21
  go_wp2
  · have h1 : (bits BinOp.and IntKind.u32 (s : Int) 1 != (bit : Int)) = true := by assumption
    rw [and_one_u32 s hs, bne_iff_ne] at h1
    have e : bits .xor .u32 ((s : Int) / 2) 3988292384 = ((T (s ^^^ bit) : Nat) : Int) := by
      rw [xor_bit s bit hbit, if_neg (fun h => h1 (by rw [h]))]
      exact xor_u32 (s / 2) poly (by omega) (by decide)
    rw [e]
    go_end0
    exact ⟨rfl, one_setCell (one_setCell HB.out), ((Only.refl (fun k => k = b) w).setCell (p := ⟨b, 0, none⟩) rfl _).setCell (p := ⟨b, 0, none⟩) rfl _⟩
  · have h1 : (bits BinOp.and IntKind.u32 (s : Int) 1 != (bit : Int)) = false := by assumption
    rw [and_one_u32 s hs, bne_eq_false_iff_eq] at h1
    have e : ((s : Int) / 2) = ((T (s ^^^ bit) : Nat) : Int) := by
      rw [xor_bit s bit hbit, if_pos (by omega)]
      rfl
    rw [e]
    go_end0
    exact ⟨rfl, one_setCell HB.out, (Only.refl (fun k => k = b) w).setCell (p := ⟨b, 0, none⟩) rfl _⟩

/-- The first k of sixteen sums. -/
def tabK (k : Nat) : Array Value := Array.ofFn fun j : Fin 16 => Value.int .u32 (if j.val < k then (Tn 4 j.val : Nat) else 0)
/-- The sixteen sums. -/
def tabs : Array Value := #[.int .u32 (Tn 4 0 : Nat), .int .u32 (Tn 4 1 : Nat), .int .u32 (Tn 4 2 : Nat), .int .u32 (Tn 4 3 : Nat), .int .u32 (Tn 4 4 : Nat), .int .u32 (Tn 4 5 : Nat), .int .u32 (Tn 4 6 : Nat), .int .u32 (Tn 4 7 : Nat), .int .u32 (Tn 4 8 : Nat), .int .u32 (Tn 4 9 : Nat), .int .u32 (Tn 4 10 : Nat), .int .u32 (Tn 4 11 : Nat), .int .u32 (Tn 4 12 : Nat), .int .u32 (Tn 4 13 : Nat), .int .u32 (Tn 4 14 : Nat), .int .u32 (Tn 4 15 : Nat)]
theorem tabK_all : tabK 16 = tabs := by rfl
theorem tabK_none : tabK 0 = Array.replicate 16 (.int .u32 0) := by rfl
theorem tabK_set (k : Nat) : (tabK k).setIfInBounds k (.int .u32 (Tn 4 k : Nat)) = tabK (k + 1) := by
  apply Array.ext
  · simp [tabK]
  · intro i h1 h2
    have hi : i < 16 := by simpa [tabK] using h2
    rw [Array.getElem_setIfInBounds (by simpa [tabK] using hi)]
    by_cases h : k = i
    · subst h
      simp [tabK]
    · simp only [tabK, Array.getElem_ofFn, if_neg h]
      by_cases h3 : i < k
      · rw [if_pos h3, if_pos (by omega)]
      · rw [if_neg h3, if_neg (by omega)]
set_option maxHeartbeats 4000000 in
set_option maxRecDepth 100000 in
theorem half_any (w : World) :
    Calls Try.prog 20 #[] w fun e w' => e = .returned (.agg tabs) ∧ Below w.heap.size w w' := by
  have hmf : ∀ (fn : Fn) (first cap : Array Value) (w : World), (Instr.makeFunc fn first cap).run Try.prog w = .ok (.func fn first cap) w := fun _ _ _ _ => rfl
  go_enter Try.func20, Try.ntmps20
  go_wp2
  go_loopw [6] (fun v6 wr => ∃ k : Nat, k ≤ 16 ∧ v6 = .int .u32 k ∧ wr.heap[w.heap.size]? = some (.cells (Array.replicate 16 (.int .u32 0)) 44 (0, 0)) ∧ wr.heap[w.heap.size + 1]? = some (.cells (tabK k) 44 (0, 0)) ∧ Below w.heap.size w wr) (fun v6 _ => 16 - (intOf v6).toNat)
  case atStart =>
    refine ⟨0, by decide, rfl, ?_, ?_, ((Below.refl _ w).alloc (Nat.le_refl _) _).alloc (by simp) _⟩
    · exact ((Only.refl (fun _ => False) _).alloc _).heap (heap_alloc_new w _) id
    · rw [tabK_none]
      exact (heap_alloc_new' (w.alloc _) _ _ (by simp)).trans rfl
  case round =>
    obtain ⟨k, hk, rfl, hres, hblk, hbel⟩ := hrel
    obtain ⟨wo, rfl⟩ : ∃ wo, wo = wr := ⟨_, rfl⟩
    by_cases hlt : k < 16
    · have hlt' : (k : Int) < 16 := by omega
      have HR := Lib.hid hres
      have HB := Lib.hid hblk
      clear hres hblk
      have hnew := Lib.hid (heap_alloc_new wo (.cells #[.int .u32 0] 23))
      go_wp2
      go_loopw [10] (fun v10 wi => ∃ i : Nat, i ≤ 4 ∧ v10 = .int .i64 i ∧ wi.heap[wo.heap.size]? = some (.cells #[.int .u32 (Tn i (0 ^^^ k % 2 ^ i) : Nat)] 23 (0, 0)) ∧ Only (fun b => b = wo.heap.size) (wo.alloc (.cells #[.int .u32 0] 23)) wi) (fun v10 _ => 4 - (intOf v10).toNat)
      case atStart => exact ⟨0, by decide, rfl, by simpa [Tn_0, Nat.mod_one] using hnew.out, Only.refl _ _⟩
      case round =>
        obtain ⟨i, hi, rfl, hbox, hon⟩ := hrel
        have HX := Lib.hid hbox
        clear hbox
        by_cases hl4 : i < 4
        · have hl4' : (i : Int) < 4 := by omega
          have he : bits .and .u32 ((k : Int) / 2 ^ i) 1 = ((k / 2 ^ i % 2 : Nat) : Int) := by
            rw [show (k : Int) / 2 ^ i = ((k / 2 ^ i : Nat) : Int) by push_cast; rfl]
            exact and_one_u32 _ (Nat.lt_of_le_of_lt (Nat.div_le_self _ _) (by omega))
          have HE := Lib.hid he
          clear he
          go_wp2_with fail
          rw [HE.out]
          refine (add_any (k / 2 ^ i % 2) _ wo.heap.size wr (Nat.mod_lt _ (by decide)) (Tn_lt _ _ (by rw [Nat.zero_xor]; exact Nat.lt_of_le_of_lt (Nat.mod_le _ _) (by omega))) HX.out).mono ?_
          rintro e w1 ⟨rfl, hb1, ho1⟩
          rw [bit_more] at hb1
          have HB1 := Lib.hid hb1
          clear hb1
          go_wp2
          go_roundw
          case rel => exact ⟨i + 1, by omega, by go_num, HB1.out, hon.trans ho1⟩
          case measure => simp [intOf]; omega
        · obtain rfl : i = 4 := by omega
          have hx4 := HX.out
          rw [Nat.zero_xor, show k % 2 ^ 4 = k from Nat.mod_eq_of_lt hlt] at hx4
          have hsz := lt_of_block HB.out
          have hbk : wr.heap[w.heap.size + 1]? = some (.cells (tabK k) 44 (0, 0)) := hon.heap (((Only.refl (fun _ => False) wo).alloc _).heap HB.out id) (by omega)
          have hrs : wr.heap[w.heap.size]? = some (.cells (Array.replicate 16 (.int .u32 0)) 44 (0, 0)) := hon.heap (((Only.refl (fun _ => False) wo).alloc _).heap HR.out id) (by omega)
          have hc3 := cell_of_one hx4
          have hck : (wr.cell? ⟨w.heap.size + 1, k, none⟩).isSome = true := by simp [World.cell?, hbk, tabK, hlt]
          obtain ⟨vk, hvk⟩ := Option.isSome_iff_exists.1 hck
          have hfk : wr.frozen? ⟨w.heap.size + 1, k, none⟩ = false := by simp [World.frozen?, hbk]
          have HBK := Lib.hid hbk
          have HRS := Lib.hid hrs
          have hk0 : (0 : Int) ≤ k := by omega
          clear hbk hrs hck hx4
          go_wp2
          have hset := heap_setCell_self (o := k) (u := .int .u32 (Tn 4 k : Nat)) HBK.out
          rw [tabK_set] at hset
          have hB : Below w.heap.size w wr := hbel.trans (((Only.refl (fun b => b = wo.heap.size) wo).alloc _).trans hon |>.below hbel.size (fun i hi => by have := hbel.size; omega))
          go_roundw
          case rel => exact ⟨k + 1, by omega, by go_num, by rw [Below.heap_setCell _ _ _ _ (by simp)]; exact HRS.out, hset, hB.setCell (by simp) _⟩
          case measure => simp [intOf]; omega
    · obtain rfl : k = 16 := by omega
      rw [tabK_all] at hblk
      have hrange : wo.rangeAt (w.heap.size + 1) 0 tabs.toList := World.rangeAt_of_block hblk 0 16
      have hthere : wo.there w.heap.size 0 tabs.size := fun j hj => by
        have hj' : j < 16 := hj
        constructor
        · simp [World.cell?, hres, hj']
        · simp [World.frozen?, hres]
      have HR := Lib.hid hrange
      have HT := Lib.hid hthere
      have hinfo : (Try.prog.info? 44).map (·.size) = some 16 := by kernel_rfl
      have HI := Lib.hid hinfo
      clear hblk hres hrange hthere hinfo
      go_upto_region 14 with fail
      refine wp_region_lit ?_
      refine wpList_load_mid (by rfl) 44 _ (by rfl) (w.heap.size + 1) 0 (by rfl) tabs.toList _ HR.out Try.underlying44 (by rfl) HI.out ?_
      refine wpList_store_mid (by rfl) 44 _ _ (by rfl) w.heap.size 0 tabs (by rfl) (by rfl) HT.out HI.out (by simp [tabs, Value.oneCell']) ?_
      go_wp2
      have hl := run_loadVar_mid (P := Try.prog) (wo.setCells w.heap.size 0 tabs.toList) w.heap.size 0 44 tabs.toList _ (World.rangeAt_setCells_same _ _ _ _ HT.out) Try.underlying44 rfl HI.out
      refine bodyPost_ret (v := .agg tabs) ?_ rfl ⟨rfl, setCells_below (Nat.le_refl _) _ _ _ _ hbel⟩
      simp [results, Try.results20, asAddr, Act.put, hl]
end Go.Proofs.Ytpaadajkfnokjaa
