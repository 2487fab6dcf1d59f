/-
  The contract of package code's Ops: a new list of all operators' names.
  Conditions: the table of operators holds what it holds at the start.
-/
import Derived.Test.YtcoobdbfgiiejaaDoorCFind
import Derived.Test.YtcoobdbfgiiejaaDoorCRef
import Derived.Laws.MakeOwn
namespace Go.Proofs.YtcoobdbfgiiejaaDoor
open Go.RowKit
theorem info_str : (Tryd.prog.info? 9).map (fun i => (i.zero, i.size, i.bytes)) = some (some (.string ⟨#[]⟩), 1, 16) := by kernel_rfl
theorem names_more (k : Nat) (hk : k < 42) : nameCells.take (k + 1) = nameCells.take k ++ [.string (S (nameAt k))] := by
  have h := nameCells_at k hk
  have hl : k < nameCells.length := by rw [nameCells, List.length_map, opTab_len]; exact hk
  rw [List.getElem?_eq_getElem hl] at h
  rw [List.take_succ_eq_append_getElem hl, Option.some.inj h]
theorem orow_shape {B : Nat} {w : World} {e : TypeId} {size : Nat} {v : Value} {n : Nat} {xs : List Value} (h : w.ownsRow B e size v n xs) : ∃ ao m c, v = .slice ao m c := by
  rcases h.2 with ⟨rfl, rfl⟩ | ⟨g, cap, cur, rfl, _⟩
  · exact ⟨_, _, _, rfl⟩
  · exact ⟨_, _, _, rfl⟩
set_option maxHeartbeats 2000000 in
set_option maxRecDepth 100000 in
theorem ops_any (w : World) (hO : OpTab w) :
    Calls Tryd.prog 11 #[] w fun e w' => ∃ v, e = .returned v ∧ w'.ownsRow 0 9 1 v 42 nameCells ∧ (∀ g, v.ownBlock = some g → w.heap.size ≤ g) ∧ Below w.heap.size w w' := by
  have HO := Lib.hid hO
  have HI := Lib.hid info_ops
  obtain ⟨i0, hi, hz0, hz1, hz2⟩ := info_parts info_str
  obtain ⟨w1, hmk, hrow, hgr⟩ := run_makeSlice_owned (P := Tryd.prog) w 0 33 9 i0 (.string ⟨#[]⟩) 1 Tryd.underlying33 hi hz0 hz1 .i64 .i64 42 (by decide) (by rw [hz2]; decide) (by decide) (Nat.zero_le _)
  have hmk' : (Instr.makeSlice 33 (.int .i64 0) (.int .i64 42)).run Tryd.prog w = .ok (.slice (some ⟨w.heap.size, 0, none⟩) 0 42) w1 := hmk
  have hb1 : Below w.heap.size w w1 := (((Only.refl (fun _ => False) w).grown hgr (fun k hk => by cases hk)).below (Nat.le_refl _) (fun _ h => h.elim))
  have HR := Lib.hid hrow
  have HB1 := Lib.hid hb1
  clear hO hmk hrow hgr hb1
  go_enter Tryd.func11, Tryd.ntmps11
  go_upto_region 2 with fail
  refine wp_region_lit ?_
  refine wpList_load_mid (by rfl) 49 _ (by rfl) 0 0 (by rfl) opCells _ (HO.out.keep HB1.out) Tryd.underlying49 (by rfl) HI.out ?_
  go_wp2
  clear hmk'
  go_loopw [1, 6] (fun v1 v6 wr => ∃ k : Nat, k ≤ 42 ∧ v6 = .int .i64 k ∧ wr.ownsRow 0 9 1 v1 k (nameCells.take k) ∧ (∀ g, v1.ownBlock = some g → w.heap.size ≤ g) ∧ Below w.heap.size w wr) (fun _ v6 _ => 42 - (intOf v6).toNat)
  case atStart => exact ⟨0, Nat.zero_le _, rfl, by simpa using HR.out, fun g hg => by simp [Value.ownBlock] at hg; omega, HB1.out⟩
  case round =>
    obtain ⟨k, hk, rfl, hrow, hown, hbel⟩ := hrel
    by_cases hlt : k < 42
    · have hlt' : (k : Int) < 42 := by omega
      have hk0 : (0 : Int) ≤ k := by omega
      have hix := op_index k hlt
      have HRW := Lib.hid ((((Only.refl (fun _ => False) wr).alloc (.cells #[.string (S (nameAt k)), .int .i64 (hasAt k : Nat)] 43)).alloc (.cells #[.string (S (nameAt k))] 9)).row hrow (fun _ _ => id))
      have HOW := Lib.hid hown
      have HBL := Lib.hid hbel
      obtain ⟨ao, m1, c1, rfl⟩ := orow_shape hrow
      clear hrow hown hbel
      go_wp2_with (at_builtin; refine wpList_append_fine _ rfl _ _ 33 rfl 9 i0 (.string ⟨#[]⟩) 1 16 Tryd.underlying33 hi hz0 hz1 hz2 rfl (by decide) _ _ _ rfl HRW.out ⟨wr.heap.size + 1, 0, none⟩ 1 1 [.string (S (nameAt k))] rfl rfl (by intro j u hj; match j, hj with | 0, hj => (simp at hj; subst hj; simp [Addr.add]) | j + 1, hj => simp at hj) (by intro u hu; simp at hu; subst hu; rfl) ?c3 ?c4 ?_)
      case c3 => unfold maxLen; omega
      case c4 => omega
      intro v' w2 hown' hgrow
      have hb2 : Below w.heap.size w w2 := ((HBL.out.alloc HBL.out.size _).alloc (by simp; have := HBL.out.size; omega) _).trans (hgrow.only.below (by simp; have := HBL.out.size; omega) (fun i hi => HOW.out i hi))
      have hc2 : ∀ g, v'.ownBlock = some g → w.heap.size ≤ g := fun g hg => by
        rcases hgrow.came with e | e
        · exact HOW.out g (e ▸ hg)
        · have h1 := e g hg
          have h2 := HBL.out.size
          simp at h1
          omega
      rw [← names_more k hlt] at hown'
      have HRN := Lib.hid hown'
      clear hown' hgrow
      go_wp2
      go_roundw
      case rel => exact ⟨k + 1, by omega, by go_num, HRN.out, hc2, hb2⟩
      case measure => simp [intOf]; omega
    · obtain rfl : k = 42 := by omega
      have HRW := Lib.hid hrow
      clear hrow
      go_wp2
      go_ret
      have h := HRW.out
      rw [List.take_of_length_le (by rw [nameCells, List.length_map, opTab_len]; exact Nat.le_refl _)] at h
      exact ⟨_, rfl, h, hown, hbel⟩
end Go.Proofs.YtcoobdbfgiiejaaDoor
