/-
  The contracts of frame.More and frame.Sum: the sum of bytes behind others, and of bytes.
  Conditions: the bytes are fewer than 2^47.
-/
import Derived.Test.YtpaadajkfnokjaaFHalf
namespace Go.Proofs.Ytpaadajkfnokjaa
open Go.RowKit

theorem nib_at (r h : Nat) (hr : r < 4294967296) (hh : h < 256) : bits .and .u32 (bits .xor .u32 (r : Int) (h : Int)) 15 = (((r ^^^ h) % 16 : Nat) : Int) := by
  rw [xor_u32 r h hr (by omega)]
  exact and_15_u32 _ (xor_lt _ _ hr (by omega))
theorem nib_to (r h : Nat) (hr : r < 4294967296) : bits .xor .u32 ((r : Int) / 16) ((Tn 4 ((r ^^^ h) % 16) : Nat) : Int) = ((Tn 4 (r ^^^ h % 16) : Nat) : Int) := by
  rw [← half_more]
  exact xor_u32 (r / 16) _ (by omega) (Tn_lt _ _ (by omega))
theorem tabs_at (x : Nat) (hx : x < 16) : tabs.toList[x]? = some (.int .u32 (Tn 4 x : Nat)) := by
  have h : tabs[x]? = some (.int .u32 (Tn 4 x : Nat)) := by
    rw [← tabK_all]
    simp [tabK, hx]
  simpa using h
theorem there_new (w : World) : (w.alloc (.cells #[.int .u32 0, .int .u32 0, .int .u32 0, .int .u32 0, .int .u32 0, .int .u32 0, .int .u32 0, .int .u32 0, .int .u32 0, .int .u32 0, .int .u32 0, .int .u32 0, .int .u32 0, .int .u32 0, .int .u32 0, .int .u32 0] 44)).there w.heap.size 0 tabs.size := fun j hj => by
  have hj' : j < 16 := hj
  have hres : (w.alloc (.cells #[.int .u32 0, .int .u32 0, .int .u32 0, .int .u32 0, .int .u32 0, .int .u32 0, .int .u32 0, .int .u32 0, .int .u32 0, .int .u32 0, .int .u32 0, .int .u32 0, .int .u32 0, .int .u32 0, .int .u32 0, .int .u32 0] 44)).heap[w.heap.size]? = some (.cells (Array.replicate 16 (.int .u32 0)) 44) := heap_alloc_new w (.cells (Array.replicate 16 (.int .u32 0)) 44)
  generalize w.alloc _ = w' at hres
  constructor
  · simp [World.cell?, hres, hj']
  · simp [World.frozen?, hres]
theorem store_tabs (w : World) : ∃ w2, Sem.run Try.prog (storeCells ⟨w.heap.size, 0, none⟩ tabs.toList) (w.alloc (.cells #[.int .u32 0, .int .u32 0, .int .u32 0, .int .u32 0, .int .u32 0, .int .u32 0, .int .u32 0, .int .u32 0, .int .u32 0, .int .u32 0, .int .u32 0, .int .u32 0, .int .u32 0, .int .u32 0, .int .u32 0, .int .u32 0] 44)) = .ok () w2 ∧ w2.rangeAt w.heap.size 0 tabs.toList ∧ Below w.heap.size w w2 := by
  have ht := there_new w
  have := run_storeCells_cells (P := Try.prog) w.heap.size 0 tabs.toList 0 (w.alloc (.cells #[.int .u32 0, .int .u32 0, .int .u32 0, .int .u32 0, .int .u32 0, .int .u32 0, .int .u32 0, .int .u32 0, .int .u32 0, .int .u32 0, .int .u32 0, .int .u32 0, .int .u32 0, .int .u32 0, .int .u32 0, .int .u32 0] 44)) (fun j hj => by simpa using (ht j hj).1) (fun j hj => by simp) (fun v hv => by simp [tabs] at hv; rcases hv with h | h | h | h | h | h | h | h | h | h | h | h | h | h | h | h <;> (subst h; rfl))
  simp only [Nat.add_zero] at this
  exact ⟨_, this, World.rangeAt_setCells_same _ _ _ _ ht, setCells_below (Nat.le_refl _) _ _ _ _ ((Below.refl _ _).alloc (Nat.le_refl _) _)⟩
theorem not_u32 (s : Nat) (hs : s < 4294967296) : bits .xor .u32 IntKind.u32.max (s : Int) = ((4294967295 - s : Nat) : Int) := by
  rw [show IntKind.u32.max = ((4294967295 : Nat) : Int) by decide, xor_u32 _ _ (by decide) hs, Nat.xor_comm, ← compl_xor s hs]
/-- What a sum is in the midst of a byte. -/
def mid (r c j : Nat) : Nat := if j = 0 then r else if j = 1 then Tn 4 (r ^^^ c % 16) else Tn 8 (r ^^^ c)
set_option maxHeartbeats 400000 in
set_option maxRecDepth 100000 in
theorem more_some (s : Nat) (l : List UInt8) (b off cap : Nat) (w : World) (hs : s < 4294967296) (hlim : l.length ≤ 140737488355328)
    (hc : ∀ j, j < l.length → w.cell? ⟨b, off + j, none⟩ = some (.int .u8 (l.getD j 0).toNat)) :
    Calls Try.prog 13 #[.int .u32 s, .slice (some ⟨b, off, none⟩) l.length cap] w fun e w' => e = .returned (.int .u32 (more s l : Nat)) ∧ Below w.heap.size w w' := by
  obtain ⟨n, hn⟩ : ∃ n, n = l.length := ⟨_, rfl⟩
  rw [← hn]
  have HN := Lib.hid hn
  have HC := Lib.hid hc
  have hn1 : n ≤ 140737488355328 := by omega
  clear hn hc hlim
  go_enter Try.func13, Try.ntmps13
  go_wp2_with fail
  refine (half_any w).mono ?_
  rintro e w1 ⟨rfl, hb1⟩
  obtain ⟨w2, hw2, hr2, hb2⟩ := store_tabs w1
  have hb12 := hb1.trans (hb2.mono hb1.size)
  have HR2 := Lib.hid hr2
  have h1lt : w1.heap.size < w2.heap.size := World.block_lt_of_cell? w2 _ (hr2 0 _ (tabs_at 0 (by decide)))
  have hnot := not_u32 s hs
  clear hr2
  go_wp2
  clear hw2 hnot
  go_loopw [0, 15] (fun v0 v15 wr => ∃ k : Nat, k ≤ n ∧ v15 = .int .i64 k ∧ v0 = .int .u32 (reg (4294967295 - s) (l.take k) : Nat) ∧ wr = w2) (fun _ v15 _ => n - (intOf v15).toNat)
  case atStart => exact ⟨0, Nat.zero_le _, rfl, rfl, rfl⟩
  case round =>
    obtain ⟨k, hk, rfl, rfl, rfl⟩ := hrel
    obtain ⟨r, hr⟩ : ∃ r, r = reg (4294967295 - s) (l.take k) := ⟨_, rfl⟩
    rw [← hr]
    have hr32 : r < 4294967296 := by rw [hr]; exact reg_lt _ _ (by omega)
    have HRR := Lib.hid hr
    clear hr
    by_cases hlt : k < n
    · have hkl : k < l.length := by have := HN.out; omega
      have hcell : wr.cell? ⟨b, off + k, none⟩ = some (.int .u8 (l.getD k 0).toNat) := (Only.ofBelow (S := fun _ => False) hb12).cell (HC.out k hkl) id
      obtain ⟨c, hcc⟩ : ∃ c, c = (l.getD k 0).toNat := ⟨_, rfl⟩
      rw [← hcc] at hcell
      have hc256 : c < 256 := by rw [hcc]; exact UInt8.toNat_lt _
      have HCC := Lib.hid hcc
      clear hcc
      obtain ⟨d, hd⟩ : ∃ d, d = c / 16 := ⟨_, rfl⟩
      have h16 : (c : Int) / 16 = (d : Int) := by omega
      have hd16 : d < 16 := by omega
      have HD := Lib.hid hd
      clear hd
      have i0 : ∀ w : World, (Instr.index 46 (.agg #[.int .u32 c, .int .u32 d]) (.int .i64 0)).run Try.prog w = .ok (.int .u32 c) w := fun _ => by kernel_rfl
      have i1 : ∀ w : World, (Instr.index 46 (.agg #[.int .u32 c, .int .u32 d]) (.int .i64 1)).run Try.prog w = .ok (.int .u32 d) w := fun _ => by kernel_rfl
      go_wp2
      clear h16
      go_loop [0, 25] (fun v0 v25 => ∃ j : Nat, j ≤ 2 ∧ v25 = .int .i64 j ∧ v0 = .int .u32 (mid r c j : Nat)) (fun _ v25 => 2 - (intOf v25).toNat)
      case atStart => exact ⟨0, by decide, rfl, rfl⟩
      case round =>
        obtain ⟨j, hj, rfl, rfl⟩ := hrel
        rcases (show j = 0 ∨ j = 1 ∨ j = 2 by omega) with rfl | rfl | rfl
        · rw [show mid r c 0 = r from rfl]
          have hval := nib_to r c hr32
          have hidx := nib_at r c hr32 hc256
          have hm : mid r c 1 = Tn 4 (r ^^^ c % 16) := rfl
          have hx : (r ^^^ c) % 16 < 16 := Nat.mod_lt _ (by decide)
          generalize (r ^^^ c) % 16 = x at hval hidx hx
          have hcl := HR2.out x _ (tabs_at x hx)
          rw [← hm] at hval
          simp only [Nat.zero_add] at hcl
          clear hm
          have hx0 : (0 : Int) ≤ x := by omega
          have hx1 : (x : Int) < 16 := by omega
          go_wp2
          go_round
          case rel => exact ⟨1, by decide, rfl, rfl⟩
          case measure => simp [intOf]
        · obtain ⟨r1, hr1⟩ : ∃ r1, r1 = mid r c 1 := ⟨_, rfl⟩
          rw [← hr1]
          have hr1' : r1 < 4294967296 := by rw [hr1]; exact Tn_lt _ _ (xor_lt _ _ hr32 (by omega))
          have hm : Tn 4 (r1 ^^^ d % 16) = mid r c 2 := by rw [hr1, HD.out]; exact byte_more r c hc256
          clear hr1
          have hval := nib_to r1 d hr1'
          have hidx := nib_at r1 d hr1' (by omega)
          have hx : (r1 ^^^ d) % 16 < 16 := Nat.mod_lt _ (by decide)
          generalize (r1 ^^^ d) % 16 = x at hval hidx hx
          have hcl := HR2.out x _ (tabs_at x hx)
          rw [hm] at hval
          simp only [Nat.zero_add] at hcl
          clear hm
          have hx0 : (0 : Int) ≤ x := by omega
          have hx1 : (x : Int) < 16 := by omega
          go_wp2
          go_round
          case rel => exact ⟨2, by decide, rfl, rfl⟩
          case measure => simp [intOf]
        · have hm : mid r c 2 = reg (4294967295 - s) (l.take (k + 1)) := by
            rw [List.take_succ_eq_append_getElem hkl, reg_snoc, ← HRR.out]
            show Tn 8 (r ^^^ c) = _
            rw [HCC.out]
            simp [List.getD, List.getElem?_eq_getElem hkl]
          have HM := Lib.hid hm
          clear hm
          go_wp2
          go_roundw
          case rel => exact ⟨k + 1, by omega, by go_num, by rw [HM.out], trivial⟩
          case measure => simp [intOf]; omega
    · have hkn : l.take k = l := List.take_of_length_le (by have := HN.out; omega)
      have hnot := not_u32 r hr32
      go_wp2
      go_ret
      exact ⟨ret_int (by rw [HRR.out, hkn]; rfl), hb12⟩
set_option maxHeartbeats 400000 in
set_option maxRecDepth 100000 in
theorem more_none (s : Nat) (ao : Option Addr) (cap : Nat) (w : World) (hs : s < 4294967296) :
    Calls Try.prog 13 #[.int .u32 s, .slice ao 0 cap] w fun e w' => e = .returned (.int .u32 (more s [] : Nat)) ∧ Below w.heap.size w w' := by
  go_enter Try.func13, Try.ntmps13
  go_wp2_with fail
  refine (half_any w).mono ?_
  rintro e w1 ⟨rfl, hb1⟩
  obtain ⟨w2, hw2, hr2, hb2⟩ := store_tabs w1
  have hb12 := hb1.trans (hb2.mono hb1.size)
  have hnot := not_u32 s hs
  have hnot2 := not_u32 (4294967295 - s) (by omega)
  rw [show 4294967295 - (4294967295 - s) = s by omega] at hnot2
  clear hr2
  go_wp2
  refine wp_loop_rounds 1 ?_
  rw [rounds_succ]
  go_wp2
  go_ret
  exact ⟨ret_int (by rw [more_nil s hs]), hb12⟩
theorem more_any (s : Nat) (l : List UInt8) (sv : Value) (w : World) (hs : s < 4294967296) (hsrc : SrcIs w sv l) (hlim : l.length ≤ 140737488355328) :
    Calls Try.prog 13 #[.int .u32 s, sv] w fun e w' => e = .returned (.int .u32 (more s l : Nat)) ∧ Below w.heap.size w w' := by
  by_cases hl : 0 < l.length
  · obtain ⟨b, off, cap, rfl, hc⟩ := hsrc.plain hl
    exact more_some s l b off cap w hs hlim hc
  · have : l = [] := List.eq_nil_of_length_eq_zero (by omega)
    subst this
    rcases hsrc with ⟨rfl, _⟩ | ⟨a, cap, rfl, _⟩
    · exact more_none s none 0 w hs
    · exact more_none s (some a) cap w hs
theorem sum_any (l : List UInt8) (sv : Value) (w : World) (hsrc : SrcIs w sv l) (hlim : l.length ≤ 140737488355328) :
    Calls Try.prog 11 #[sv] w fun e w' => e = .returned (.int .u32 (sumOf l : Nat)) ∧ Below w.heap.size w w' := by
  have H := Lib.hid (more_any 0 l sv w (by decide) hsrc hlim)
  clear hsrc
  go_enter Try.func11, Try.ntmps11
  go_wp2_with fail
  refine H.out.mono ?_
  rintro e w1 ⟨rfl, hb1⟩
  go_wp2
  go_ret
  exact ⟨rfl, hb1⟩
end Go.Proofs.Ytpaadajkfnokjaa
