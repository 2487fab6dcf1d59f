/-
  The contract of package code's each, at whatever closure it is handed.
  Conditions: the tables hold what they hold at the start; the instructions lie in memory that was there before; their texts have at most 2^40 bytes.
-/
import Derived.Test.YtcoobdbfgiiejaaDoorCCheck
namespace Go.Proofs.YtcoobdbfgiiejaaDoor
open Go.RowKit
/-- An instruction: operator, number, text. -/
structure Ins where
  op : List UInt8
  n : Int
  s : List UInt8
abbrev Ins.v (x : Ins) : Value := insV x.op x.n x.s
def Ins.e (x : Ins) : Nat := checkE x.op x.n x.s
/-- The first error of instructions; 0: none. -/
def allE : List Ins → Nat
  | [] => 0
  | x :: l => if x.e = 0 then allE l else x.e
/-- Instructions that a slice holds. -/
def InsSrc (w : World) (sv : Value) (l : List Ins) : Prop :=
  (∃ ao cap, sv = .slice ao 0 cap ∧ l = []) ∨ ∃ b o cap, sv = .slice (some ⟨b, o, none⟩) l.length cap ∧
    ∀ k x, l[k]? = some x → w.cell? ⟨b, o + k * 3, none⟩ = some (.string (S x.op)) ∧ w.cell? ⟨b, o + k * 3 + 1, none⟩ = some (.int .i64 x.n) ∧ w.cell? ⟨b, o + k * 3 + 2, none⟩ = some (.string (S x.s))
theorem allE_drop (l : List Ins) (k : Nat) (x : Ins) (h : l[k]? = some x) : allE (l.drop k) = if x.e = 0 then allE (l.drop (k + 1)) else x.e := by
  have hl : k < l.length := by
    rcases Nat.lt_or_ge k l.length with h1 | h1
    · exact h1
    · rw [List.getElem?_eq_none h1] at h; cases h
  rw [List.getElem?_eq_getElem hl] at h
  rw [List.drop_eq_getElem_cons hl, Option.some.inj h]
  rfl
set_option maxHeartbeats 2000000 in
set_option maxRecDepth 100000 in
theorem each_any (F : Nat) (cp : Value) (w0 w : World) (l : List Ins) (sv : Value) (Inv : Nat → World → Prop) (he : ∀ args w, (callFunc F args).run Tryd.prog w = .ok (.enter F args) w)
    (hT : CT w0) (hs : InsSrc w0 sv l) (hlim : ∀ x ∈ l, x.s.length ≤ 1099511627776) (hlen : l.length ≤ 1099511627776)
    (h0 : Inv 0 w) (hB : ∀ k w', Inv k w' → Below w0.heap.size w0 w') (hK : ∀ k w' w'', Inv k w' → Below w'.heap.size w' w'' → Inv k w'')
    (hF : ∀ (k : Nat) (x : Ins) (w' : World), l[k]? = some x → x.e = 0 → Inv k w' → Calls Tryd.prog F #[x.v, .int .i64 (idx x.op : Nat), .agg #[.string (S (nameAt (idx x.op))), .int .i64 (hasAt (idx x.op) : Nat)], cp] w' fun e w'' => e = .returned (.tuple #[]) ∧ Inv (k + 1) w'') :
    Calls Tryd.prog 27 #[sv, .func (.func F) #[] #[cp]] w fun e w' => e = .returned (.int .i64 (allE l : Nat)) ∧ (allE l = 0 → Inv l.length w') ∧ Below w0.heap.size w0 w' := by
  have HF := Lib.hid hF
  have HE := Lib.hid he
  have HT := Lib.hid hT
  have HB := Lib.hid hB
  have HK := Lib.hid hK
  have HL := Lib.hid hlim
  clear hF he hT hB hK hlim
  rcases hs with ⟨ao, cp0, rfl, rfl⟩ | ⟨b, o, cap, rfl, hc⟩
  · go_enter Tryd.func27, Tryd.ntmps27
    go_wp2
    go_loopw [13] (fun v13 wr => v13 = .int .i64 0 ∧ wr = w) (fun _ _ => 0)
    case atStart => exact ⟨rfl, rfl⟩
    case round =>
      obtain ⟨rfl, rfl⟩ := hrel
      go_wp2
      go_ret
      exact ⟨rfl, fun _ => h0, HB.out 0 _ h0⟩
  · have HC := Lib.hid hc
    obtain ⟨n, hn⟩ : ∃ n, n = l.length := ⟨_, rfl⟩
    rw [← hn] at hlen ⊢
    have HN := Lib.hid hn
    clear hc hn
    go_enter Tryd.func27, Tryd.ntmps27
    go_wp2
    go_loopw [13] (fun v13 wr => ∃ k : Nat, k ≤ n ∧ v13 = .int .i64 k ∧ Inv k wr ∧ allE l = allE (l.drop k)) (fun v13 _ => n - (intOf v13).toNat)
    case atStart => exact ⟨0, Nat.zero_le _, rfl, h0, rfl⟩
    case round =>
      obtain ⟨k, hk, rfl, hinv, hall⟩ := hrel
      have HA := Lib.hid hall
      have HI := Lib.hid hinv
      clear hall hinv
      by_cases hlt : k < n
      · have hkl : k < l.length := by have := HN.out; omega
        obtain ⟨x, hx⟩ : ∃ x, l[k]? = some x := ⟨_, List.getElem?_eq_getElem hkl⟩
        have hbw := HB.out k wr HI.out
        obtain ⟨c0, c1, c2⟩ := HC.out k x hx
        have d0 := (Only.ofBelow (S := fun _ => False) hbw).cell c0 id
        have d1 := (Only.ofBelow (S := fun _ => False) hbw).cell c1 id
        have d2 := (Only.ofBelow (S := fun _ => False) hbw).cell c2 id
        have HX := Lib.hid hx
        have HXL := Lib.hid (HL.out x (List.mem_of_getElem? hx))
        have HTW := Lib.hid (HT.out.keep hbw)
        clear c0 c1 c2 hx hkl hbw
        have hk0 : (0 : Int) ≤ k := by omega
        have hkn : (k : Int) < (n : Int) := by omega
        have he := HE.out
        go_wp2_with fail
        have hbA : Below wr.heap.size wr (wr.alloc (.cells #[.string (S x.op), .int .i64 x.n, .string (S x.s)] 23)) := (Below.refl _ wr).alloc (Nat.le_refl _) _
        refine (check_any x.op x.n x.s _ (HTW.out.keep hbA) HXL.out).mono ?_
        rintro e w1 ⟨rfl, hb1⟩
        have hi1 : w1.heap[wr.heap.size]? = some (.cells #[.string (S x.op), .int .i64 x.n, .string (S x.s)] 23 (0, 0)) := (Only.ofBelow (S := fun _ => False) hb1).heap (heap_alloc_new wr _) id
        have hbw1 : Below wr.heap.size wr w1 := hbA.trans (hb1.mono hbA.size)
        have hdr := allE_drop l k x HX.out
        unfold Ins.e at hdr
        have HDR := Lib.hid hdr
        clear hb1 hbA hdr d0 d1 d2
        by_cases hz : checkE x.op x.n x.s = 0
        · rw [hz]
          have hcO : w1.cell? ⟨wr.heap.size, 0, none⟩ = some (.string (S x.op)) := by simp [World.cell?, hi1]
          have hI1 := Lib.hid hi1
          have HW1 := Lib.hid hbw1
          clear hi1 hbw1
          go_wp2_with fail
          refine (cnamed_any x.op w1 (HTW.out.keep HW1.out).ops).mono ?_
          rintro e w2 ⟨rfl, hb2⟩
          have hN : idx x.op < 42 := by
            rcases Nat.lt_or_ge (idx x.op) 42 with h | h
            · exact h
            · have : checkE x.op x.n x.s = 40 := if_neg (by omega)
              omega
          have hi2 := (Only.ofBelow (S := fun _ => False) hb2).heap hI1.out id
          have e0 : w2.cell? ⟨wr.heap.size, 0, none⟩ = some (.string (S x.op)) := by simp [World.cell?, hi2]
          have e1 : w2.cell? ⟨wr.heap.size, 1, none⟩ = some (.int .i64 x.n) := by simp [World.cell?, hi2]
          have e2 : w2.cell? ⟨wr.heap.size, 2, none⟩ = some (.string (S x.s)) := by simp [World.cell?, hi2]
          have hlt2 : wr.heap.size < w2.heap.size := lt_of_block hi2
          have hbw2 : Below wr.heap.size wr w2 := HW1.out.trans (hb2.mono HW1.out.size)
          have HW2 := Lib.hid hbw2
          unfold lookV
          rw [if_pos hN, decide_eq_true hN]
          have HFX : Hid (∀ w', Inv k w' → Calls Tryd.prog F #[.agg #[.string (S x.op), .int .i64 x.n, .string (S x.s)], .int .i64 (idx x.op : Nat), .agg #[.string (S (nameAt (idx x.op))), .int .i64 (hasAt (idx x.op) : Nat)], cp] w' fun e w'' => e = .returned (.tuple #[]) ∧ Inv (k + 1) w'') := Lib.hid (fun w' hi => HF.out k x w' HX.out hz hi)
          rw [if_pos hz] at HDR
          clear hi2 hbw2 hb2 hcO hz hN
          generalize idx x.op = q at HFX ⊢
          generalize nameAt q = nm at HFX ⊢
          generalize hasAt q = h at HFX ⊢
          go_wp2_with fail
          refine (HFX.out _ (HK.out k wr _ HI.out (HW2.out.alloc HW2.out.size _))).mono ?_
          rintro e w3 ⟨rfl, hi3⟩
          have HI3 := Lib.hid hi3
          clear hi3 e0 e1 e2
          go_wp2
          go_roundw
          case rel => exact ⟨k + 1, by omega, by go_num, HI3.out, by rw [HA.out]; exact HDR.out⟩
          case measure => simp [intOf]; omega
        · rw [if_neg hz] at HDR
          have HI1 := HK.out k wr w1 HI.out hbw1
          have HZ := Lib.hid hz
          have hze : ((checkE x.op x.n x.s : Nat) : Int) ≠ 0 := by omega
          have hzb : (((checkE x.op x.n x.s : Nat) : Int) != 0) = true := by rw [bne_iff_ne]; exact hze
          clear hi1 hbw1 hz
          generalize checkE x.op x.n x.s = E at *
          go_wp2
          go_ret
          refine ⟨by rw [HA.out, HDR.out]; rfl, fun h => ?_, HB.out k _ HI1⟩
          rw [HA.out, HDR.out] at h
          exact absurd h HZ.out
      · obtain rfl : k = n := by omega
        have hz : allE l = 0 := by rw [HA.out, List.drop_of_length_le (by rw [HN.out]; exact Nat.le_refl _)]; rfl
        have HZ := Lib.hid hz
        clear hz
        go_wp2
        go_ret
        refine ⟨by rw [HZ.out]; rfl, fun _ => ?_, HB.out _ _ HI.out⟩
        exact HI.out
end Go.Proofs.YtcoobdbfgiiejaaDoor
