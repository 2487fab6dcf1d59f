/-
  The contract of the document's Get: a field that bytes begin with, by its kind.
  Conditions: the text is at most 2^47 bytes; the most is an int.
-/
import Derived.Test.YtcoobdbfgiiejaaGreatDoorCount
namespace Go.Proofs.YtcoobdbfgiiejaaGreatDoor
open Go.RowKit
/-- What the document's Get answers. -/
def GetRef (kind most : Int) (t : List UInt8) (E n : Nat) (i : Int) (y : Bool) (s : List UInt8) (k : Nat) (w : World) (e : Ending) (w' : World) : Prop :=
  e = .returned (.tuple #[fieldVal kind most n i y s, .string (S (t.drop k)), .int .i64 E]) ∧ Below w.heap.size w w'
theorem two_blocks' {w : World} {o1 o2 : Obj} (q : Nat) : (((w.alloc o1).alloc o2).drewN q).heap[w.heap.size]? = some o1 ∧ (((w.alloc o1).alloc o2).drewN q).heap[w.heap.size + 1]? = some o2 := by
  constructor
  · show ((w.alloc o1).alloc o2).heap[w.heap.size]? = some o1
    rw [Below.heap_alloc _ _ _ (by simp)]
    exact heap_alloc_new w o1
  · have := heap_alloc_new (w.alloc o1) o2
    simpa using this
theorem rg_done {w w1 w' : World} (hb : Below w.heap.size w w1) (ho : Only (fun k => k = w.heap.size ∨ k = w.heap.size + 1) w1 w') : Below w.heap.size w w' :=
  hb.trans (ho.below hb.size (fun i hi => by omega))
theorem rg_two (w : World) (o1 o2 : Obj) : Below w.heap.size w ((w.alloc o1).alloc o2) :=
  ((Below.refl w.heap.size w).alloc (Nat.le_refl _) o1).alloc (by simp) o2
theorem rg_draw {w w' : World} (h : Below w.heap.size w w') (q : Nat) : Below w.heap.size w (w'.drewN q) := ⟨h.os, h.tape, h.output, h.size, h.block⟩
theorem rg_blocks {w : World} (q : Nat) (o1 o2 : Obj) {P : World → Prop} (h : ∀ w1, Below w.heap.size w w1 → w1.heap[w.heap.size]? = some o1 → w1.heap[w.heap.size + 1]? = some o2 → P w1) : P (((w.alloc o1).alloc o2).drewN q) :=
  h _ (rg_draw (rg_two w o1 o2) q) (two_blocks' q).1 (two_blocks' q).2
set_option maxHeartbeats 4000000 in
set_option maxRecDepth 100000 in
theorem refget_3nil (most : Int) (w : World) :
    Calls Tryz.prog 38 #[.int .i64 3, .int .i64 most, .string (S [])] w (GetRef 3 most [] 10 0 0 false [] 0 w) := by
  have hnil : (S []).toList.isEmpty = true := by rw [S_toList]; rfl
  go_enter Tryz.func38, Tryz.ntmps38
  go_wp2_with fail
  refine bodyPost_ret (v := .tuple #[fieldVal 3 most 0 0 false [], .string (S []), .int .i64 10]) (by simp [results, Tryz.results38, go_sem, fieldVal, S, *]) rfl ⟨rfl, ?_⟩
  first | exact rg_two w _ _ | exact rg_draw (rg_two w _ _) _ | exact rg_draw (rg_two w _ _) 1
set_option maxHeartbeats 4000000 in
set_option maxRecDepth 100000 in
theorem refget_3form (most : Int) (c : UInt8) (t : List UInt8) (hc : 1 < c.toNat) (w : World) :
    Calls Tryz.prog 38 #[.int .i64 3, .int .i64 most, .string (S (c :: t))] w (GetRef 3 most (c :: t) 11 0 0 false [] 0 w) := by
  have hsz : ((S (c :: t)).size : Int) = (t.length : Int) + 1 := by rw [S_size]; simp
  have hnil : (S (c :: t)).toList.isEmpty = false := by rw [S_toList]; rfl
  have hz : (1 : Int) < (c.toNat : Int) := by omega
  obtain ⟨s, hs⟩ : ∃ s, s = S (c :: t) := ⟨_, rfl⟩
  rw [← hs] at hsz hnil ⊢
  have HB : ∀ (h : 0 < s.size), s[0]'h = c := by subst hs; exact fun h => rfl
  have HS := Lib.hid hs
  clear hs hc
  go_enter Tryz.func38, Tryz.ntmps38
  go_wp2_with fail
  refine bodyPost_ret (v := .tuple #[fieldVal 3 most 0 0 false [], .string s, .int .i64 11]) (by simp [results, Tryz.results38, go_sem, fieldVal, S, *]) rfl ⟨by rw [HS.out]; rfl, ?_⟩
  first | exact rg_two w _ _ | exact rg_draw (rg_two w _ _) _ | exact rg_draw (rg_two w _ _) 1
set_option maxHeartbeats 4000000 in
set_option maxRecDepth 100000 in
theorem refget_3ok (most : Int) (c : UInt8) (t : List UInt8) (hc : c.toNat ≤ 1) (w : World) :
    Calls Tryz.prog 38 #[.int .i64 3, .int .i64 most, .string (S (c :: t))] w (GetRef 3 most (c :: t) 0 0 0 ((c.toNat : Int) == 1) [] 1 w) := by
  have hsz : ((S (c :: t)).size : Int) = (t.length : Int) + 1 := by rw [S_size]; simp
  have hnil : (S (c :: t)).toList.isEmpty = false := by rw [S_toList]; rfl
  have hz : decide ((1 : Int) < (c.toNat : Int)) = false := by simp; omega
  have hd := S_drop (c :: t) 1
  obtain ⟨s, hs⟩ : ∃ s, s = S (c :: t) := ⟨_, rfl⟩
  rw [← hs] at hsz hnil hd ⊢
  have HB : ∀ (h : 0 < s.size), s[0]'h = c := by subst hs; exact fun h => rfl
  obtain ⟨y, hy⟩ : ∃ y, y = ((c.toNat : Int) == 1) := ⟨_, rfl⟩
  rw [← hy]
  have HS := Lib.hid hs
  clear hs hc
  go_enter Tryz.func38, Tryz.ntmps38
  go_wp2_with fail
  go_region
  all_goals
    go_wp2_with fail
    refine bodyPost_ret (v := .tuple #[fieldVal 3 most 0 0 y [], .string (S ((c :: t).drop 1)), .int .i64 0]) (by simp [results, Tryz.results38, go_sem, fieldVal, S, *]) rfl ⟨rfl, ?_⟩
    first | exact rg_two w _ _ | exact rg_draw (rg_two w _ _) _ | exact rg_draw (rg_two w _ _) 1
set_option maxHeartbeats 4000000 in
set_option maxRecDepth 100000 in
theorem refget_num (kind most : Int) (t : List UInt8) (E V K : Nat) (w : World) (hk : kind ≠ 3) (ht : t.length ≤ 140737488355328) (hR : numFrom 0 0 t = (E, V, K)) (hE : E ≠ 0) :
    Calls Tryz.prog 38 #[.int .i64 kind, .int .i64 most, .string (S t)] w (GetRef kind most t E 0 0 false [] 0 w) := by
  have hkb : (kind == 3) = false := beq_eq_false_iff_ne.2 hk
  have hEb : ((E : Int) != 0) = true := by rw [bne_iff_ne]; omega
  clear hk
  have HR := Lib.hid hR
  have hV := num_lt hR
  clear hR
  go_enter Tryz.func38, Tryz.ntmps38
  go_wp2_with fail
  refine (refnum_any t _ (by omega)).mono ?_
  rintro e w1 ⟨rfl, q, rfl⟩
  rw [HR.out]
  simp only [if_neg hE]
  refine rg_blocks q _ _ (fun w1 hon q0 q1 => ?_)
  obtain ⟨a0, a1, a2, a3, a4, a5⟩ := cells6 q0
  obtain ⟨d0, d1, d2, d3, d4, d5⟩ := cells6 q1
  have f0 := free6 q0
  have f1 := free6 q1
  clear q0 q1
  go_wp2_with fail
  refine bodyPost_ret (v := .tuple #[fieldVal kind most 0 0 false [], .string (S t), .int .i64 E]) (by simp [results, Tryz.results38, go_sem, fieldVal, S, *]) rfl ⟨rfl, rg_done hon ?_⟩
  repeat (first | refine Only.setCell ?_ (by simp) _ | refine Only.drewN ?_ _ | refine Only.drew ?_)
  exact Only.refl _ _
set_option maxHeartbeats 4000000 in
set_option maxRecDepth 100000 in
theorem refget_0 (most : Int) (t : List UInt8) (V K : Nat) (w : World) (ht : t.length ≤ 140737488355328) (hR : numFrom 0 0 t = (0, V, K)) :
    Calls Tryz.prog 38 #[.int .i64 0, .int .i64 most, .string (S t)] w (GetRef 0 most t 0 V 0 false [] K w) := by
  have HR := Lib.hid hR
  have hV := num_lt hR
  clear hR
  go_enter Tryz.func38, Tryz.ntmps38
  go_wp2_with fail
  refine (refnum_any t _ (by omega)).mono ?_
  rintro e w1 ⟨rfl, q, rfl⟩
  rw [HR.out]
  simp only [if_pos]
  refine rg_blocks q _ _ (fun w1 hon q0 q1 => ?_)
  obtain ⟨a0, a1, a2, a3, a4, a5⟩ := cells6 q0
  obtain ⟨d0, d1, d2, d3, d4, d5⟩ := cells6 q1
  have f0 := free6 q0
  have f1 := free6 q1
  clear q0 q1
  go_wp2_with fail
  refine bodyPost_ret (v := .tuple #[fieldVal 0 most V 0 false [], .string (S (t.drop K)), .int .i64 0]) (by simp [results, Tryz.results38, go_sem, fieldVal, S, *]) rfl ⟨rfl, rg_done hon ?_⟩
  repeat (first | refine Only.setCell ?_ (by simp) _ | refine Only.drewN ?_ _ | refine Only.drew ?_)
  exact Only.refl _ _
set_option maxHeartbeats 4000000 in
set_option maxRecDepth 100000 in
theorem refget_1e (most : Int) (t : List UInt8) (V K : Nat) (w : World) (ht : t.length ≤ 140737488355328) (hR : numFrom 0 0 t = (0, V, K)) (h2 : V % 2 = 0) :
    Calls Tryz.prog 38 #[.int .i64 1, .int .i64 most, .string (S t)] w (GetRef 1 most t 0 0 (zag V) false [] K w) := by
  have HR := Lib.hid hR
  have hV := num_lt hR
  clear hR
  have hz : zag V = ((V / 2 : Nat) : Int) := by unfold zag; rw [if_pos h2]
  rw [hz]
  have hb : (((V : Int) % 2) == 1) = false := beq_eq_false_iff_ne.2 (by omega)
  have hb2 : (V : Int) % 2 = 0 := by omega
  clear hz h2
  go_enter Tryz.func38, Tryz.ntmps38
  go_wp2_with fail
  refine (refnum_any t _ (by omega)).mono ?_
  rintro e w1 ⟨rfl, q, rfl⟩
  rw [HR.out]
  simp only [if_pos]
  refine rg_blocks q _ _ (fun w1 hon q0 q1 => ?_)
  obtain ⟨a0, a1, a2, a3, a4, a5⟩ := cells6 q0
  obtain ⟨d0, d1, d2, d3, d4, d5⟩ := cells6 q1
  have f0 := free6 q0
  have f1 := free6 q1
  clear q0 q1
  go_wp2_with fail
  refine bodyPost_ret (v := .tuple #[fieldVal 1 most 0 ((V / 2 : Nat) : Int) false [], .string (S (t.drop K)), .int .i64 0]) (by simp [results, Tryz.results38, go_sem, fieldVal, S, *]) rfl ⟨rfl, rg_done hon ?_⟩
  repeat (first | refine Only.setCell ?_ (by simp) _ | refine Only.drewN ?_ _ | refine Only.drew ?_)
  exact Only.refl _ _
set_option maxHeartbeats 4000000 in
set_option maxRecDepth 100000 in
theorem refget_1o (most : Int) (t : List UInt8) (V K : Nat) (w : World) (ht : t.length ≤ 140737488355328) (hR : numFrom 0 0 t = (0, V, K)) (h2 : V % 2 = 1) :
    Calls Tryz.prog 38 #[.int .i64 1, .int .i64 most, .string (S t)] w (GetRef 1 most t 0 0 (zag V) false [] K w) := by
  have HR := Lib.hid hR
  have hV := num_lt hR
  clear hR
  have hz : zag V = -((V / 2 : Nat) : Int) - 1 := by unfold zag; rw [if_neg (by omega)]
  rw [hz]
  have hb : (((V : Int) % 2) == 1) = true := beq_iff_eq.2 (by omega)
  clear hz h2
  go_enter Tryz.func38, Tryz.ntmps38
  go_wp2_with fail
  refine (refnum_any t _ (by omega)).mono ?_
  rintro e w1 ⟨rfl, q, rfl⟩
  rw [HR.out]
  simp only [if_pos]
  refine rg_blocks q _ _ (fun w1 hon q0 q1 => ?_)
  obtain ⟨a0, a1, a2, a3, a4, a5⟩ := cells6 q0
  obtain ⟨d0, d1, d2, d3, d4, d5⟩ := cells6 q1
  have f0 := free6 q0
  have f1 := free6 q1
  clear q0 q1
  go_wp2_with fail
  refine bodyPost_ret (v := .tuple #[fieldVal 1 most 0 (-((V / 2 : Nat) : Int) - 1) false [], .string (S (t.drop K)), .int .i64 0]) (by simp [results, Tryz.results38, go_sem, fieldVal, S, *]) rfl ⟨rfl, rg_done hon ?_⟩
  repeat (first | refine Only.setCell ?_ (by simp) _ | refine Only.drewN ?_ _ | refine Only.drew ?_)
  exact Only.refl _ _
set_option maxHeartbeats 4000000 in
set_option maxRecDepth 100000 in
theorem refget_2neg (most : Int) (t : List UInt8) (V K : Nat) (w : World) (ht : t.length ≤ 140737488355328) (hR : numFrom 0 0 t = (0, V, K)) (hm : most < 0) :
    Calls Tryz.prog 38 #[.int .i64 2, .int .i64 most, .string (S t)] w (GetRef 2 most t 12 0 0 false [] 0 w) := by
  have HR := Lib.hid hR
  have hV := num_lt hR
  clear hR
  go_enter Tryz.func38, Tryz.ntmps38
  go_wp2_with fail
  refine (refnum_any t _ (by omega)).mono ?_
  rintro e w1 ⟨rfl, q, rfl⟩
  rw [HR.out]
  simp only [if_pos]
  refine rg_blocks q _ _ (fun w1 hon q0 q1 => ?_)
  obtain ⟨a0, a1, a2, a3, a4, a5⟩ := cells6 q0
  obtain ⟨d0, d1, d2, d3, d4, d5⟩ := cells6 q1
  have f0 := free6 q0
  have f1 := free6 q1
  clear q0 q1
  have hlen : ((S (t.drop K)).size : Int) = ((t.drop K).length : Int) := by rw [S_size]
  have hdl : (t.drop K).length ≤ 140737488355328 := by rw [List.length_drop]; omega
  generalize hr : t.drop K = r at hlen hdl ⊢
  have HRR := Lib.hid hr
  clear hr
  go_wp2_with fail
  refine bodyPost_ret (v := .tuple #[fieldVal 2 most 0 0 false [], .string (S t), .int .i64 12]) (by simp [results, Tryz.results38, go_sem, fieldVal, S, *]) rfl ⟨rfl, rg_done hon ?_⟩
  repeat (first | refine Only.setCell ?_ (by simp) _ | refine Only.drewN ?_ _ | refine Only.drew ?_)
  exact Only.refl _ _
set_option maxHeartbeats 4000000 in
set_option maxRecDepth 100000 in
theorem refget_2over (m : Nat) (t : List UInt8) (V K : Nat) (w : World) (ht : t.length ≤ 140737488355328) (hR : numFrom 0 0 t = (0, V, K)) (hm : m ≤ 9223372036854775807) (hv : m < V) :
    Calls Tryz.prog 38 #[.int .i64 2, .int .i64 (m : Nat), .string (S t)] w (GetRef 2 m t 12 0 0 false [] 0 w) := by
  have HR := Lib.hid hR
  have hV := num_lt hR
  clear hR
  have hz : (m : Int) < (V : Int) := by omega
  go_enter Tryz.func38, Tryz.ntmps38
  go_wp2_with fail
  refine (refnum_any t _ (by omega)).mono ?_
  rintro e w1 ⟨rfl, q, rfl⟩
  rw [HR.out]
  simp only [if_pos]
  refine rg_blocks q _ _ (fun w1 hon q0 q1 => ?_)
  obtain ⟨a0, a1, a2, a3, a4, a5⟩ := cells6 q0
  obtain ⟨d0, d1, d2, d3, d4, d5⟩ := cells6 q1
  have f0 := free6 q0
  have f1 := free6 q1
  clear q0 q1
  have hlen : ((S (t.drop K)).size : Int) = ((t.drop K).length : Int) := by rw [S_size]
  have hdl : (t.drop K).length ≤ 140737488355328 := by rw [List.length_drop]; omega
  generalize hr : t.drop K = r at hlen hdl ⊢
  have HRR := Lib.hid hr
  clear hr
  go_wp2_with fail
  refine bodyPost_ret (v := .tuple #[fieldVal 2 m 0 0 false [], .string (S t), .int .i64 12]) (by simp [results, Tryz.results38, go_sem, fieldVal, S, *]) rfl ⟨rfl, rg_done hon ?_⟩
  repeat (first | refine Only.setCell ?_ (by simp) _ | refine Only.drewN ?_ _ | refine Only.drew ?_)
  exact Only.refl _ _
set_option maxHeartbeats 4000000 in
set_option maxRecDepth 100000 in
theorem refget_2more (m : Nat) (t : List UInt8) (V K : Nat) (w : World) (ht : t.length ≤ 140737488355328) (hR : numFrom 0 0 t = (0, V, K)) (hm : m ≤ 9223372036854775807) (hv : V ≤ m) (hl : (t.drop K).length < V) :
    Calls Tryz.prog 38 #[.int .i64 2, .int .i64 (m : Nat), .string (S t)] w (GetRef 2 m t 12 0 0 false [] 0 w) := by
  have HR := Lib.hid hR
  have hV := num_lt hR
  clear hR
  have hz : decide ((m : Int) < (V : Int)) = false := by simp; omega
  go_enter Tryz.func38, Tryz.ntmps38
  go_wp2_with fail
  refine (refnum_any t _ (by omega)).mono ?_
  rintro e w1 ⟨rfl, q, rfl⟩
  rw [HR.out]
  simp only [if_pos]
  refine rg_blocks q _ _ (fun w1 hon q0 q1 => ?_)
  obtain ⟨a0, a1, a2, a3, a4, a5⟩ := cells6 q0
  obtain ⟨d0, d1, d2, d3, d4, d5⟩ := cells6 q1
  have f0 := free6 q0
  have f1 := free6 q1
  clear q0 q1
  have hlen : ((S (t.drop K)).size : Int) = ((t.drop K).length : Int) := by rw [S_size]
  have hdl : (t.drop K).length ≤ 140737488355328 := by rw [List.length_drop]; omega
  generalize hr : t.drop K = r at hlen hdl hl ⊢
  have HRR := Lib.hid hr
  clear hr
  have hz2 : (r.length : Int) < (V : Int) := by omega
  go_wp2_with fail
  refine bodyPost_ret (v := .tuple #[fieldVal 2 m 0 0 false [], .string (S t), .int .i64 12]) (by simp [results, Tryz.results38, go_sem, fieldVal, S, *]) rfl ⟨rfl, rg_done hon ?_⟩
  repeat (first | refine Only.setCell ?_ (by simp) _ | refine Only.drewN ?_ _ | refine Only.drew ?_)
  exact Only.refl _ _
set_option maxHeartbeats 4000000 in
set_option maxRecDepth 100000 in
theorem refget_2ok (m : Nat) (t : List UInt8) (V K : Nat) (w : World) (ht : t.length ≤ 140737488355328) (hR : numFrom 0 0 t = (0, V, K)) (hm : m ≤ 9223372036854775807) (hv : V ≤ m) (hl : V ≤ (t.drop K).length) :
    Calls Tryz.prog 38 #[.int .i64 2, .int .i64 (m : Nat), .string (S t)] w (GetRef 2 m t 0 V 0 false [] K w) := by
  have HR := Lib.hid hR
  have hV := num_lt hR
  clear hR
  have hz : decide ((m : Int) < (V : Int)) = false := by simp; omega
  go_enter Tryz.func38, Tryz.ntmps38
  go_wp2_with fail
  refine (refnum_any t _ (by omega)).mono ?_
  rintro e w1 ⟨rfl, q, rfl⟩
  rw [HR.out]
  simp only [if_pos]
  refine rg_blocks q _ _ (fun w1 hon q0 q1 => ?_)
  obtain ⟨a0, a1, a2, a3, a4, a5⟩ := cells6 q0
  obtain ⟨d0, d1, d2, d3, d4, d5⟩ := cells6 q1
  have f0 := free6 q0
  have f1 := free6 q1
  clear q0 q1
  have hlen : ((S (t.drop K)).size : Int) = ((t.drop K).length : Int) := by rw [S_size]
  have hdl : (t.drop K).length ≤ 140737488355328 := by rw [List.length_drop]; omega
  generalize hr : t.drop K = r at hlen hdl hl ⊢
  have HRR := Lib.hid hr
  clear hr
  have hz2 : decide ((r.length : Int) < (V : Int)) = false := by simp; omega
  go_wp2_with fail
  refine bodyPost_ret (v := .tuple #[fieldVal 2 m V 0 false [], .string (S r), .int .i64 0]) (by simp [results, Tryz.results38, go_sem, fieldVal, S, *]) rfl ⟨by rw [HRR.out]; rfl, rg_done hon ?_⟩
  repeat (first | refine Only.setCell ?_ (by simp) _ | refine Only.drewN ?_ _ | refine Only.drew ?_)
  exact Only.refl _ _
set_option maxHeartbeats 4000000 in
set_option maxRecDepth 100000 in
theorem refget_tbig (kind most : Int) (t : List UInt8) (V K : Nat) (w : World) (ht : t.length ≤ 140737488355328) (hR : numFrom 0 0 t = (0, V, K)) (k0 : kind ≠ 0) (k1 : kind ≠ 1) (k2 : kind ≠ 2) (k3 : kind ≠ 3) (hv : 4096 < V) :
    Calls Tryz.prog 38 #[.int .i64 kind, .int .i64 most, .string (S t)] w (GetRef kind most t 12 0 0 false [] 0 w) := by
  have b0 : (kind == 0) = false := beq_eq_false_iff_ne.2 k0
  have b1 : (kind == 1) = false := beq_eq_false_iff_ne.2 k1
  have b2 : (kind == 2) = false := beq_eq_false_iff_ne.2 k2
  have b3 : (kind == 3) = false := beq_eq_false_iff_ne.2 k3
  clear k0 k1 k2 k3
  have HR := Lib.hid hR
  have hV := num_lt hR
  clear hR
  have hz : (4096 : Int) < (V : Int) := by omega
  go_enter Tryz.func38, Tryz.ntmps38
  go_wp2_with fail
  refine (refnum_any t _ (by omega)).mono ?_
  rintro e w1 ⟨rfl, q, rfl⟩
  rw [HR.out]
  simp only [if_pos]
  refine rg_blocks q _ _ (fun w1 hon q0 q1 => ?_)
  obtain ⟨a0, a1, a2, a3, a4, a5⟩ := cells6 q0
  obtain ⟨d0, d1, d2, d3, d4, d5⟩ := cells6 q1
  have f0 := free6 q0
  have f1 := free6 q1
  clear q0 q1
  have hlen : ((S (t.drop K)).size : Int) = ((t.drop K).length : Int) := by rw [S_size]
  have hdl : (t.drop K).length ≤ 140737488355328 := by rw [List.length_drop]; omega
  generalize hr : t.drop K = r at hlen hdl ⊢
  have HRR := Lib.hid hr
  clear hr
  go_wp2_with fail
  refine bodyPost_ret (v := .tuple #[fieldVal kind most 0 0 false [], .string (S t), .int .i64 12]) (by simp [results, Tryz.results38, go_sem, fieldVal, S, *]) rfl ⟨rfl, rg_done hon ?_⟩
  repeat (first | refine Only.setCell ?_ (by simp) _ | refine Only.drewN ?_ _ | refine Only.drew ?_)
  exact Only.refl _ _
set_option maxHeartbeats 4000000 in
set_option maxRecDepth 100000 in
theorem refget_tshort (kind most : Int) (t : List UInt8) (V K : Nat) (w : World) (ht : t.length ≤ 140737488355328) (hR : numFrom 0 0 t = (0, V, K)) (k0 : kind ≠ 0) (k1 : kind ≠ 1) (k2 : kind ≠ 2) (k3 : kind ≠ 3) (hv : V ≤ 4096) (hl : (t.drop K).length < V) :
    Calls Tryz.prog 38 #[.int .i64 kind, .int .i64 most, .string (S t)] w (GetRef kind most t 10 0 0 false [] 0 w) := by
  have b0 : (kind == 0) = false := beq_eq_false_iff_ne.2 k0
  have b1 : (kind == 1) = false := beq_eq_false_iff_ne.2 k1
  have b2 : (kind == 2) = false := beq_eq_false_iff_ne.2 k2
  have b3 : (kind == 3) = false := beq_eq_false_iff_ne.2 k3
  clear k0 k1 k2 k3
  have HR := Lib.hid hR
  have hV := num_lt hR
  clear hR
  have hz : decide ((4096 : Int) < (V : Int)) = false := by simp; omega
  go_enter Tryz.func38, Tryz.ntmps38
  go_wp2_with fail
  refine (refnum_any t _ (by omega)).mono ?_
  rintro e w1 ⟨rfl, q, rfl⟩
  rw [HR.out]
  simp only [if_pos]
  refine rg_blocks q _ _ (fun w1 hon q0 q1 => ?_)
  obtain ⟨a0, a1, a2, a3, a4, a5⟩ := cells6 q0
  obtain ⟨d0, d1, d2, d3, d4, d5⟩ := cells6 q1
  have f0 := free6 q0
  have f1 := free6 q1
  clear q0 q1
  have hlen : ((S (t.drop K)).size : Int) = ((t.drop K).length : Int) := by rw [S_size]
  have hdl : (t.drop K).length ≤ 140737488355328 := by rw [List.length_drop]; omega
  generalize hr : t.drop K = r at hlen hdl hl ⊢
  have HRR := Lib.hid hr
  clear hr
  have hz2 : (r.length : Int) < (V : Int) := by omega
  go_wp2_with fail
  refine bodyPost_ret (v := .tuple #[fieldVal kind most 0 0 false [], .string (S t), .int .i64 10]) (by simp [results, Tryz.results38, go_sem, fieldVal, S, *]) rfl ⟨rfl, rg_done hon ?_⟩
  repeat (first | refine Only.setCell ?_ (by simp) _ | refine Only.drewN ?_ _ | refine Only.drew ?_)
  exact Only.refl _ _
set_option maxHeartbeats 4000000 in
set_option maxRecDepth 100000 in
theorem refget_tform (kind most : Int) (t : List UInt8) (V K : Nat) (w : World) (ht : t.length ≤ 140737488355328) (hR : numFrom 0 0 t = (0, V, K)) (k0 : kind ≠ 0) (k1 : kind ≠ 1) (k2 : kind ≠ 2) (k3 : kind ≠ 3) (hv : V ≤ 4096) (hl : V ≤ (t.drop K).length) (hU : Lib.validD ((t.drop K).take V) = false) :
    Calls Tryz.prog 38 #[.int .i64 kind, .int .i64 most, .string (S t)] w (GetRef kind most t 11 0 0 false [] 0 w) := by
  have b0 : (kind == 0) = false := beq_eq_false_iff_ne.2 k0
  have b1 : (kind == 1) = false := beq_eq_false_iff_ne.2 k1
  have b2 : (kind == 2) = false := beq_eq_false_iff_ne.2 k2
  have b3 : (kind == 3) = false := beq_eq_false_iff_ne.2 k3
  clear k0 k1 k2 k3
  have HR := Lib.hid hR
  have hV := num_lt hR
  clear hR
  have hz : decide ((4096 : Int) < (V : Int)) = false := by simp; omega
  go_enter Tryz.func38, Tryz.ntmps38
  go_wp2_with fail
  refine (refnum_any t _ (by omega)).mono ?_
  rintro e w1 ⟨rfl, q, rfl⟩
  rw [HR.out]
  simp only [if_pos]
  refine rg_blocks q _ _ (fun w1 hon q0 q1 => ?_)
  obtain ⟨a0, a1, a2, a3, a4, a5⟩ := cells6 q0
  obtain ⟨d0, d1, d2, d3, d4, d5⟩ := cells6 q1
  have f0 := free6 q0
  have f1 := free6 q1
  clear q0 q1
  have hlen : ((S (t.drop K)).size : Int) = ((t.drop K).length : Int) := by rw [S_size]
  have hdl : (t.drop K).length ≤ 140737488355328 := by rw [List.length_drop]; omega
  generalize hr : t.drop K = r at hlen hdl hl hU ⊢
  have HRR := Lib.hid hr
  clear hr
  have hz2 : decide ((r.length : Int) < (V : Int)) = false := by simp; omega
  have hz3 : (V : Int) ≤ (r.length : Int) := by omega
  have hst := S_take r V
  have hsd := S_drop r V
  have HW : Hid (∀ W, Calls Tryz.prog 59 #[.string (S (r.take V))] W _) := fun W => whole_any (r.take V) W (by rw [List.length_take]; omega)
  go_wp2_with (go_at_call 59; refine (HW.out _).mono ?_; rintro e w2 ⟨rfl, q2, rfl⟩)
  refine bodyPost_ret (v := .tuple #[fieldVal kind most 0 0 false [], .string (S t), .int .i64 11]) (by simp [results, Tryz.results38, go_sem, fieldVal, S, *]) rfl ⟨rfl, rg_done hon ?_⟩
  repeat (first | refine Only.setCell ?_ (by simp) _ | refine Only.drewN ?_ _ | refine Only.drew ?_)
  exact Only.refl _ _
set_option maxHeartbeats 4000000 in
set_option maxRecDepth 100000 in
theorem refget_tok (kind most : Int) (t : List UInt8) (V K : Nat) (w : World) (ht : t.length ≤ 140737488355328) (hR : numFrom 0 0 t = (0, V, K)) (k0 : kind ≠ 0) (k1 : kind ≠ 1) (k2 : kind ≠ 2) (k3 : kind ≠ 3) (hv : V ≤ 4096) (hl : V ≤ (t.drop K).length) (hU : Lib.validD ((t.drop K).take V) = true) :
    Calls Tryz.prog 38 #[.int .i64 kind, .int .i64 most, .string (S t)] w (GetRef kind most t 0 0 0 false ((t.drop K).take V) (K + V) w) := by
  have b0 : (kind == 0) = false := beq_eq_false_iff_ne.2 k0
  have b1 : (kind == 1) = false := beq_eq_false_iff_ne.2 k1
  have b2 : (kind == 2) = false := beq_eq_false_iff_ne.2 k2
  have b3 : (kind == 3) = false := beq_eq_false_iff_ne.2 k3
  clear k0 k1 k2 k3
  have HR := Lib.hid hR
  have hV := num_lt hR
  clear hR
  have hz : decide ((4096 : Int) < (V : Int)) = false := by simp; omega
  have hdd : t.drop (K + V) = (t.drop K).drop V := by rw [List.drop_drop]
  go_enter Tryz.func38, Tryz.ntmps38
  go_wp2_with fail
  refine (refnum_any t _ (by omega)).mono ?_
  rintro e w1 ⟨rfl, q, rfl⟩
  rw [HR.out]
  simp only [if_pos]
  refine rg_blocks q _ _ (fun w1 hon q0 q1 => ?_)
  obtain ⟨a0, a1, a2, a3, a4, a5⟩ := cells6 q0
  obtain ⟨d0, d1, d2, d3, d4, d5⟩ := cells6 q1
  have f0 := free6 q0
  have f1 := free6 q1
  clear q0 q1
  have hlen : ((S (t.drop K)).size : Int) = ((t.drop K).length : Int) := by rw [S_size]
  have hdl : (t.drop K).length ≤ 140737488355328 := by rw [List.length_drop]; omega
  generalize hr : t.drop K = r at hlen hdl hl hU hdd ⊢
  have HRR := Lib.hid hr
  clear hr
  have hz2 : decide ((r.length : Int) < (V : Int)) = false := by simp; omega
  have hz3 : (V : Int) ≤ (r.length : Int) := by omega
  have hst := S_take r V
  have hsd := S_drop r V
  have HW : Hid (∀ W, Calls Tryz.prog 59 #[.string (S (r.take V))] W _) := fun W => whole_any (r.take V) W (by rw [List.length_take]; omega)
  go_wp2_with (go_at_call 59; refine (HW.out _).mono ?_; rintro e w2 ⟨rfl, q2, rfl⟩)
  go_region
  all_goals
    go_wp2_with fail
    refine bodyPost_ret (v := .tuple #[fieldVal kind most 0 0 false (r.take V), .string (S (r.drop V)), .int .i64 0]) (by simp [results, Tryz.results38, go_sem, fieldVal, S, *]) rfl ⟨by rw [hdd, HRR.out]; rfl, rg_done hon ?_⟩
    repeat (first | refine Only.setCell ?_ (by simp) _ | refine Only.drewN ?_ _ | refine Only.drew ?_)
    exact Only.refl _ _
end Go.Proofs.YtcoobdbfgiiejaaGreatDoor
