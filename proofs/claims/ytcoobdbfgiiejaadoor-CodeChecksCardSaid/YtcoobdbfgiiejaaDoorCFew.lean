/-
  The contract of the laws' few: instructions that are not too many or long.
  Conditions: the instructions lie in memory that was there before.
-/
import Derived.Test.YtcoobdbfgiiejaaDoorCEach
namespace Go.Proofs.YtcoobdbfgiiejaaDoor
open Go.RowKit
theorem ret_boolF {a b : Bool} (h : a = b) : Ending.returned (.bool a) = .returned (.bool b) := by rw [h]
def Ins.short (x : Ins) : Bool := decide (x.op.length ≤ 300) && decide (x.s.length ≤ 300)
def fewB (l : List Ins) : Bool := decide (l.length ≤ 250) && l.all Ins.short
theorem short_drop (l : List Ins) (k : Nat) (x : Ins) (h : l[k]? = some x) : (l.drop k).all Ins.short = (x.short && (l.drop (k + 1)).all Ins.short) := by
  have hl : k < l.length := by
    rcases Nat.lt_or_ge k l.length with h1 | h1
    · exact h1
    · rw [List.getElem?_eq_none h1] at h; cases h
  rw [List.getElem?_eq_getElem hl] at h
  rw [List.drop_eq_getElem_cons hl, Option.some.inj h]
  rfl
set_option maxHeartbeats 2000000 in
set_option maxRecDepth 100000 in
theorem few_any (l : List Ins) (sv : Value) (w : World) (hs : InsSrc w sv l) (hlen : l.length ≤ 9223372036854775807) :
    Calls Tryd.prog 5 #[sv] w fun e w' => e = .returned (.bool (fewB l)) ∧ w = w' := by
  obtain ⟨R, hR⟩ : ∃ R, R = fewB l := ⟨_, rfl⟩
  rw [← hR]
  have HR := Lib.hid hR
  clear hR
  rcases hs with ⟨ao, cp0, rfl, rfl⟩ | ⟨b, o, cap, rfl, hc⟩
  · obtain rfl : R = true := HR.out
    go_enter Tryd.func5, Tryd.ntmps5
    go_wp2
    go_loop [3] (fun v3 => v3 = .int .i64 0) (fun _ => 0)
    case atStart => exact rfl
    case round =>
      subst hrel
      go_wp2
      go_ret
      exact ⟨rfl, rfl⟩
  · have HC := Lib.hid hc
    obtain ⟨n, hn⟩ : ∃ n, n = l.length := ⟨_, rfl⟩
    rw [← hn] at hlen ⊢
    have HN := Lib.hid hn
    clear hc hn
    by_cases h250 : n ≤ 250
    · have h250' : ¬ (250 < (n : Int)) := by omega
      have HRA : Hid (R = l.all Ins.short) := Lib.hid (by rw [HR.out, fewB, ← HN.out, decide_eq_true h250, Bool.true_and])
      clear HR
      go_enter Tryd.func5, Tryd.ntmps5
      go_wp2
      go_loop [3] (fun v3 => ∃ k : Nat, k ≤ n ∧ v3 = .int .i64 k ∧ R = (l.drop k).all Ins.short) (fun v3 => n - (intOf v3).toNat)
      case atStart => exact ⟨0, Nat.zero_le _, rfl, HRA.out⟩
      case round =>
        obtain ⟨k, hk, rfl, hall⟩ := hrel
        have HA := Lib.hid hall
        clear hall
        by_cases hlt : k < n
        · have hkl : k < l.length := by have := HN.out; omega
          obtain ⟨x, hx⟩ : ∃ x, l[k]? = some x := ⟨_, List.getElem?_eq_getElem hkl⟩
          obtain ⟨c0, c1, c2⟩ := HC.out k x hx
          have hsd := short_drop l k x hx
          have hk0 : (0 : Int) ≤ k := by omega
          have hkn : (k : Int) < (n : Int) := by omega
          have z0 : ((S x.op).size : Int) = (x.op.length : Int) := by rw [S_size]
          have z2 : ((S x.s).size : Int) = (x.s.length : Int) := by rw [S_size]
          clear hx hkl c1
          unfold Ins.short at hsd
          by_cases p0 : x.op.length ≤ 300
          · have p0' : ¬ (300 < (x.op.length : Int)) := by omega
            by_cases p2 : x.s.length ≤ 300
            · have p2' : ¬ (300 < (x.s.length : Int)) := by omega
              rw [decide_eq_true p0, decide_eq_true p2] at hsd
              have HSD := Lib.hid hsd
              clear hsd p0 p2
              go_wp2
              go_round
              case rel => exact ⟨k + 1, by omega, by go_num, by rw [HA.out]; exact HSD.out⟩
              case measure => simp [intOf]; omega
            · have p2' : 300 < (x.s.length : Int) := by omega
              rw [decide_eq_true p0, decide_eq_false p2] at hsd
              have HSD := Lib.hid hsd
              clear hsd p0 p2
              go_wp2
              go_ret
              exact ⟨ret_boolF (by rw [HA.out]; exact HSD.out.symm), rfl⟩
          · have p0' : 300 < (x.op.length : Int) := by omega
            rw [decide_eq_false p0] at hsd
            have HSD := Lib.hid hsd
            clear hsd p0
            go_wp2
            go_ret
            exact ⟨ret_boolF (by rw [HA.out]; exact HSD.out.symm), rfl⟩
        · obtain rfl : k = n := by omega
          have hz : R = true := by rw [HA.out, List.drop_of_length_le (by rw [HN.out]; exact Nat.le_refl _)]; rfl
          subst hz
          go_wp2
          go_ret
          exact ⟨rfl, rfl⟩
    · have h250' : 250 < (n : Int) := by omega
      obtain rfl : R = false := by rw [HR.out, fewB, ← HN.out, decide_eq_false h250, Bool.false_and]
      go_enter Tryd.func5, Tryd.ntmps5
      go_wp2
      go_ret
      exact ⟨rfl, rfl⟩
end Go.Proofs.YtcoobdbfgiiejaaDoor
