/-
  The contract of package code's Show: instructions that may be are their text, else the first error.
  Conditions: the tables hold what they hold at the start; the instructions lie in memory that was there before; at most 2^19 of them, of at most 2^20 bytes each.
-/
import Derived.Test.YtcoobdbfgiiejaaDoorCShow
import Derived.Test.YtcoobdbfgiiejaaDoorCPut
namespace Go.Proofs.YtcoobdbfgiiejaaDoor
open Go.RowKit
/-- An instruction as a line of text. -/
def Ins.text (x : Ins) : List UInt8 := nameAt (idx x.op) ++ (argText (hasAt (idx x.op)) x.n x.s ++ [10])
/-- Instructions as a text. -/
def showL (l : List Ins) : List UInt8 := l.flatMap Ins.text
theorem nameAt_le (k : Nat) : (nameAt k).length ≤ 6 := by
  by_cases h : k < 42
  · exact (show ∀ k : Fin 42, (nameAt k.val).length ≤ 6 by decide) ⟨k, h⟩
  · unfold nameAt
    rw [List.getD_eq_getElem?_getD, List.getElem?_eq_none (by rw [opTab_len]; omega)]
    decide
theorem Ins.text_le (x : Ins) (h : x.ok) : x.text.length ≤ 1048700 := by
  have h1 := nameAt_le (idx x.op)
  have h2 := Lib.itoa_length_le x.n h.1.1 h.1.2
  have h3 := h.2
  unfold Ins.text argText
  rw [List.length_append, List.length_append, List.length_singleton]
  split
  · rw [List.length_cons]; omega
  · split
    · rw [List.length_cons]; omega
    · simp; omega
theorem showL_le (l : List Ins) (h : ∀ x ∈ l, x.ok) : (showL l).length ≤ 1048700 * l.length := by
  induction l with
  | nil => simp [showL]
  | cons x r ih =>
    have h1 := x.text_le (h x (by simp))
    have h2 := ih (fun y hy => h y (by simp [hy]))
    unfold showL at h2 ⊢
    rw [List.flatMap_cons, List.length_append, List.length_cons]
    omega
theorem show_snoc (l : List Ins) (k : Nat) (x : Ins) (h : l[k]? = some x) : showL (l.take (k + 1)) = showL (l.take k) ++ x.text := by
  unfold showL
  rw [List.take_add_one, h, List.flatMap_append]
  simp
theorem SB.new (w : World) : SB w (w.alloc (.cells #[.pointer none, .slice none 0 0] 61)) w.heap.size [] :=
  ⟨.inl ⟨Nat.le_refl _, _, heap_alloc_new w _, World.ownsRowF_nil _ _ _ _, by simp [Value.ownBlock]⟩, (Below.refl _ w).alloc (Nat.le_refl _) _⟩
theorem sb_string {w0 w : World} {b : Nat} {l : List UInt8} (h : SB w0 w b l) :
    Calls Tryd.prog 35 #[.pointer (some ⟨b, 0, none⟩)] w fun e w' => e = .returned (.string (S l)) ∧ Below w0.heap.size w0 w' := by
  refine (builder_String_k w0.heap.size b l w h.is h.bel.size).mono ?_
  rintro e w' ⟨rfl, _, h2, _⟩
  exact ⟨rfl, h.bel.trans h2⟩
set_option maxHeartbeats 2000000 in
set_option maxRecDepth 100000 in
theorem show_any (l : List Ins) (sv : Value) (w : World) (hT : CT w) (hp : Pow10 w) (hs : InsSrc w sv l) (hlen : l.length ≤ 524288) (hok : ∀ x ∈ l, x.ok) :
    Calls Tryd.prog 14 #[sv] w fun e w' => e = .returned (.tuple #[.string (S (if allE l = 0 then showL l else [])), .int .i64 (allE l : Nat)]) ∧ Below w.heap.size w w' := by
  have hmf : ∀ (fn : Fn) (first cap : Array Value) (w : World), (Instr.makeFunc fn first cap).run Tryd.prog w = .ok (.func fn first cap) w := fun _ _ _ _ => rfl
  have HT := Lib.hid hT
  have HP := Lib.hid hp
  have HS := Lib.hid hs
  have HOK := Lib.hid hok
  have HLN := Lib.hid hlen
  obtain ⟨TX, hTX⟩ : ∃ TX, TX = (if allE l = 0 then showL l else []) := ⟨_, rfl⟩
  obtain ⟨EE, hEE⟩ : ∃ EE, EE = allE l := ⟨_, rfl⟩
  rw [← hTX, ← hEE]
  have HTX := Lib.hid hTX
  have HEE := Lib.hid hEE
  clear hT hp hs hok hlen hTX hEE
  go_enter Tryd.func14, Tryd.ntmps14
  go_wp2_with fail
  have s0 := SB.new w
  generalize w.alloc (.cells #[.pointer none, .slice none 0 0] 61) = wB at s0 ⊢
  have hea := each_any 32 (.pointer (some ⟨w.heap.size, 0, none⟩)) w wB l sv (fun k w' => SB w w' w.heap.size (showL (l.take k))) (enters_cf Tryd.func32 (by kernel_rfl) rfl)
    HT.out HS.out (fun x hx => by have := (HOK.out x hx).2; omega) (by have := HLN.out; omega) (by simpa [showL] using s0) (fun k w' h => h.bel) (fun k w' w'' h hb => h.keep hb)
    (fun k x w' hx he h => by
      have hxo := HOK.out x (List.mem_of_getElem? hx)
      have hl1 := showL_le (l.take k) (fun y hy => HOK.out y (List.mem_of_mem_take hy))
      have hl2 : (l.take k).length ≤ l.length := by rw [List.length_take]; omega
      have hl4 := HLN.out
      have hl5 := nameAt_le (idx x.op)
      have hp := show1_any h HP.out x.op (nameAt (idx x.op)) x.s x.n (idx x.op) (hasAt (idx x.op)) hxo.1 (by have := hxo.2; omega)
      refine hp.mono ?_
      rintro e w'' ⟨rfl, h'⟩
      refine ⟨rfl, ?_⟩
      rw [show_snoc l k x hx]
      exact h')
  refine hea.mono ?_
  clear hea s0
  rintro e w3 ⟨rfl, h3, hb3⟩
  by_cases hz : allE l = 0
  · have s3 := h3 hz
    rw [List.take_of_length_le (Nat.le_refl _)] at s3
    have HBY := Lib.hid (sb_string s3)
    obtain rfl : TX = showL l := HTX.out.trans (if_pos hz)
    obtain rfl : EE = 0 := HEE.out.trans hz
    rw [hz]
    clear h3 s3 hz HTX HEE
    go_wp2_with (go_at_call 35; refine HBY.out.mono ?_; rintro e w4 ⟨rfl, hb4⟩)
    go_ret2
    exact ⟨rfl, hb4⟩
  · have hzb : (((allE l : Nat) : Int) != 0) = true := by rw [bne_iff_ne]; omega
    obtain rfl : TX = [] := HTX.out.trans (if_neg hz)
    obtain rfl : EE = allE l := HEE.out
    clear h3 hz HTX HEE
    generalize hE : allE l = E at hzb ⊢
    have HE := Lib.hid hE
    clear hE
    go_wp2
    go_ret2
    exact ⟨by rw [HE.out]; rfl, hb3⟩
end Go.Proofs.YtcoobdbfgiiejaaDoor
