/-
  The contracts of package kind's Name, Class, Plain, depth, Right, Deep and Of.
  Conditions: the text has at most 2^40 bytes.
-/
import Derived.Test.YtcoobdbfgiiejaaGreatDoorKNamed2
namespace Go.Proofs.YtcoobdbfgiiejaaGreatDoor
open Go.RowKit
theorem enters_fn {f : FuncId} {fn : Func} {c : Code} (hf : Tryz.prog.funcs[f]? = some fn) (hname : (fn.name == "runtime.NumGoroutine") = false) (hb : fn.body = some c) (args : Array Value) (w : World) : (callFunc f args).run Tryz.prog w = .ok (.enter f args) w := by
  have h1 : fn.name ≠ "runtime.NumGoroutine" := by simpa using hname
  simp [callFunc, hf, h1, hb, mark]
theorem named_up (l : List UInt8) (w : World) (hlim : l.length ≤ 1099511627776) :
    Calls Tryz.prog 126 #[.string (S l), .func (.func 127) #[] #[]] w (Said (classB l) w) := by
  rw [← namedB_up]
  exact named_any _ upI (enters_fn Tryz.func127 (by kernel_rfl) rfl) upper_any (fun r h => by unfold upI; simp; omega) l w hlim
theorem named_lo (l : List UInt8) (w : World) (hlim : l.length ≤ 1099511627776) :
    Calls Tryz.prog 126 #[.string (S l), .func (.func 129) #[] #[]] w (Said (memberB l) w) := by
  rw [← namedB_lo]
  exact named_any _ loI (enters_fn Tryz.func129 (by kernel_rfl) rfl) lower_any (fun r h => by unfold loI; simp; omega) l w hlim
theorem class_any (l : List UInt8) (w : World) (hlim : l.length ≤ 1099511627776) :
    Calls Tryz.prog 106 #[.string (S l)] w (Said (classB l) w) := by
  go_enter Tryz.func106, Tryz.ntmps106
  go_wp2_with fail
  refine (named_up l w hlim).mono ?_
  rintro e w' ⟨rfl, hb⟩
  go_wp2
  go_ret
  exact ⟨rfl, hb⟩
theorem plain_any (l : List UInt8) (w : World) :
    Calls Tryz.prog 141 #[.string (S l)] w fun e w' => e = .returned (.bool (plainB l)) ∧ w = w' := by
  have e0 := S_toList l
  by_cases h1 : l = kInt
  · have q1 : ((S l).toList == [105, 110, 116]) = true := by rw [e0, h1]; rfl
    have HP := Lib.hid (show plainB l = true by unfold plainB; simp [h1])
    clear e0 h1
    go_enter Tryz.func141, Tryz.ntmps141
    go_wp2
    go_ret
    exact ⟨ret_bool HP.out.symm, rfl⟩
  have q1 : ((S l).toList == [105, 110, 116]) = false := by rw [e0, beq_eq_false_iff_ne]; exact h1
  by_cases h2 : l = kBool
  · have q2 : ((S l).toList == [98, 111, 111, 108]) = true := by rw [e0, h2]; rfl
    have HP := Lib.hid (show plainB l = true by unfold plainB; simp [h2])
    clear e0 h1 h2
    go_enter Tryz.func141, Tryz.ntmps141
    go_wp2
    go_ret
    exact ⟨ret_bool HP.out.symm, rfl⟩
  have q2 : ((S l).toList == [98, 111, 111, 108]) = false := by rw [e0, beq_eq_false_iff_ne]; exact h2
  have HP := Lib.hid (show plainB l = ((S l).toList == [116, 101, 120, 116]) by
    rw [e0]; unfold plainB
    rw [decide_eq_false h1, decide_eq_false h2, Bool.false_or, Bool.false_or, Bool.eq_iff_iff, decide_eq_true_eq, beq_iff_eq]; rfl)
  clear e0 h1 h2
  go_enter Tryz.func141, Tryz.ntmps141
  go_wp2
  go_ret
  exact ⟨ret_bool HP.out.symm, rfl⟩
end Go.Proofs.YtcoobdbfgiiejaaGreatDoor
