/-
  The contract of a table's Sub.
  Conditions: the table lies in memory that was there before; its lines and its interfaces have an end.
  The contracts of package code's numbered (with its closure) and takeOne.
  Conditions: the tables hold what they hold at the start.
  The contract of package code's takeOne: an instruction, or none; the instruction that was written, if the reader stands ahead of one.
  Conditions: the tables hold what they hold at the start.
-/
import Derived.Test.YtpincofjopmaaaaGreatDoorM21
import Derived.LaidEqlPtr
import Derived.Test.YtpincofjopmaaaaGreatDoorM16
import Derived.Deep.RegionHeld
namespace Go.Proofs.YtpincofjopmaaaaGreatDoor
open Go.RowKit
/-- The line of a place, as far as n steps go. -/
def lineF (es : List Ent) : Nat → Option Nat → List Nat
  | 0, _ => []
  | _ + 1, none => []
  | n + 1, some i => match es[i]? with
    | some e => i :: lineF es n e.up
    | none => []
def lineE (es : List Ent) (o : Option Nat) : List Nat := lineF es es.length o
def aboveE (es : List Ent) (o : Option Nat) : List Nat := aboveL es es.length (lineE es o)
/-- What is known of a whole table. -/
structure Shape (es : List Ent) : Prop where
  len : es.length ≤ 1048576
  lk : ∀ (i : Nat) (e : Ent), es[i]? = some e → e.lk.length ≤ 9223372036854775807
  fl : ∀ (i : Nat) (e : Ent), es[i]? = some e → e.cls.flds.length ≤ 32
  nm : ∀ (i : Nat) (e : Ent), es[i]? = some e → e.cls.name.length ≤ 32
  chain : ∀ i, i < es.length → Chain es (lineE es (some i)) (some i)
  deep : ∀ (i : Nat) (e : Ent), es[i]? = some e → Deep es es.length e.lk
/-- The name at a place. -/
def nmE (es : List Ent) (x : Nat) : List UInt8 := match es[x]? with | some e => e.cls.name | none => []
theorem nmE_eq {es : List Ent} {x : Nat} {e : Ent} (h : es[x]? = some e) : nmE es x = e.cls.name := by unfold nmE; rw [h]
theorem Shape.nmE_le {es : List Ent} (h : Shape es) (x : Nat) : (nmE es x).length ≤ 32 := by
  unfold nmE
  cases hx : es[x]? with
  | none => simp
  | some e => exact h.nm x e hx
theorem chain_mem {es : List Ent} : ∀ {L : List Nat} {o : Option Nat}, Chain es L o → ∀ d ∈ L, ∃ e, es[d]? = some e
  | [], _, _, d, hd => by simp at hd
  | i :: l, _, ⟨_, e, he, hc⟩, d, hd => by
    rcases List.mem_cons.1 hd with h | h
    · subst h; exact ⟨e, he⟩
    · exact chain_mem hc d h
theorem lineE_none (es : List Ent) : lineE es none = [] := by
  unfold lineE
  cases es.length <;> rfl
theorem placeE_lt {es : List Ent} {n : List UInt8} {i : Nat} (h : placeE es n = some i) : i < es.length := by
  unfold placeE at h
  exact (List.findIdx?_eq_some_iff_getElem.1 h).1
theorem Shape.line {es : List Ent} (h : Shape es) (o : Option Nat) (ho : ∀ i, o = some i → i < es.length) : Chain es (lineE es o) o := by
  cases o with
  | none => rw [lineE_none]; exact rfl
  | some i => exact h.chain i (ho i rfl)
theorem Shape.mem {es : List Ent} (h : Shape es) {L : List Nat} {o : Option Nat} (hc : Chain es L o) : ∀ d ∈ L, ∃ e, es[d]? = some e ∧ Deep es es.length e.lk := fun d hd => by
  obtain ⟨e, he⟩ := chain_mem hc d hd
  exact ⟨e, he, h.deep d e he⟩
theorem aboveE_lt {es : List Ent} (h : Shape es) {o : Option Nat} (ho : ∀ i, o = some i → i < es.length) : ∀ x ∈ aboveE es o, x < es.length := fun x hx => by
  rcases List.mem_append.1 hx with h1 | h1
  · obtain ⟨e, he⟩ := chain_mem (h.line o ho) x h1
    exact (List.getElem?_eq_some_iff.1 he).1
  · exact (ifsL_good (h.mem (h.line o ho))).2 x h1
/-- A function that only answers p. -/
theorem above_pure {A : Nat → Prop} {B : Nat → Nat} {T mb : Nat} {es : List Ent} {w0 : World} (hT : Tab A w0 T mb B es) (hS : Shape es) (F : Nat) (caps : Array Value) (he : ∀ args w, (callFunc F args).run Tryz.prog w = .ok (.enter F args) w)
    (o : Option Nat) (ho : ∀ i, o = some i → i < es.length) (p : Nat → Bool) (w : World) (hw : Below w0.heap.size w0 w) (hF : ∀ x w', x < es.length → Below w.heap.size w w' → Calls Tryz.prog F (#[entV B x] ++ caps) w' (Said (p x) w')) :
    Calls Tryz.prog 77 #[ptrV B o, .func (.func F) #[] caps] w (Said ((aboveE es o).any p) w) := by
  have hc := hS.line o ho
  refine (above_any hT hS.len hS.lk F caps he w.heap.size es.length o (lineE es o) hc (hS.mem hc) (fun k w' => Below w.heap.size w w' ∧ ((aboveE es o).take k).any p = false) (fun _ w' => Below w.heap.size w w' ∧ (aboveE es o).any p = true) w (Nat.le_refl _)
    (fun k w' h => hw.trans (h.1.mono hw.size)) (fun k w1 w2 h ho => ⟨h.1.trans (Only.below ho h.1.size (fun i hi => hi)), h.2⟩) (fun k x w' hx hj => ?_) ⟨Below.refl _ _, by simp⟩).mono fun e w' q => ?_
  · have hx' : (aboveE es o)[k]? = some x := hx
    refine (hF x w' (aboveE_lt hS ho x (List.mem_of_getElem? hx')) hj.1).mono fun e w'' ⟨h1, h2⟩ => ?_
    have hb := hj.1.trans (h2.mono hj.1.size)
    refine ⟨⟨p x, h1, fun hp => ⟨hb, List.any_eq_true.2 ⟨x, List.mem_of_getElem? hx', hp⟩⟩, fun hp => ⟨hb, ?_⟩⟩, Only.ofBelow h2⟩
    rw [take_any_succ p _ k x hx', hj.2, hp]
    rfl
  · obtain ⟨b, h1, h2, h3⟩ := q
    cases b with
    | true =>
      obtain ⟨_, _, h4, h5⟩ := h2 rfl
      exact ⟨by rw [h5]; exact h1, h4⟩
    | false =>
      obtain ⟨h4, h5⟩ := h3 rfl
      have h6 : (aboveE es o).any p = false := by
        have h7 : ((aboveE es o).take (aboveE es o).length).any p = false := h5
        rwa [List.take_length] at h7
      exact ⟨by rw [h6]; exact h1, h4⟩
theorem line_pure {A : Nat → Prop} {B : Nat → Nat} {T mb : Nat} {es : List Ent} {w0 : World} (hT : Tab A w0 T mb B es) (F : Nat) (caps : Array Value) (he : ∀ args w, (callFunc F args).run Tryz.prog w = .ok (.enter F args) w)
    (L : List Nat) (o : Option Nat) (hc : Chain es L o) (p : Nat → Bool) (w : World) (hw : Below w0.heap.size w0 w) (hF : ∀ x w', x ∈ L → Below w.heap.size w w' → Calls Tryz.prog F (#[entV B x] ++ caps) w' (Said (p x) w')) :
    Calls Tryz.prog 85 #[ptrV B o, .func (.func F) #[] caps] w (Said (L.any p) w) := by
  refine (line_any hT F caps L o (fun k w' => Below w.heap.size w w' ∧ (L.take k).any p = false) (fun _ w' => Below w.heap.size w w' ∧ L.any p = true) w he hc
    (fun k w' h => hw.trans (h.1.mono hw.size)) ⟨Below.refl _ _, by simp⟩ (fun k x w' hx hj => ?_)).mono fun e w' q => ?_
  · refine (hF x w' (List.mem_of_getElem? hx) hj.1).mono fun e w'' ⟨h1, h2⟩ => ?_
    have hb := hj.1.trans (h2.mono hj.1.size)
    refine ⟨p x, h1, fun hp => ⟨hb, List.any_eq_true.2 ⟨x, List.mem_of_getElem? hx, hp⟩⟩, fun hp => ⟨hb, ?_⟩⟩
    rw [take_any_succ p _ k x hx, hj.2, hp]
    rfl
  · obtain ⟨b, h1, h2, h3⟩ := q
    cases b with
    | true =>
      obtain ⟨_, _, h4, h5⟩ := h2 rfl
      exact ⟨by rw [h5]; exact h1, h4⟩
    | false =>
      obtain ⟨h4, h5⟩ := h3 rfl
      rw [List.take_length] at h5
      exact ⟨by rw [h5]; exact h1, h4⟩
theorem size_ent : (Tryz.prog.info? 97).map (·.size) = some 11 := by kernel_rfl
theorem eql_same (a : Addr) (w : World) : (binOp .eql 94 (.pointer (some a)) (.pointer (some a))).run Tryz.prog w = .ok (.bool true) w := by
  obtain ⟨i, hi, _⟩ := Option.map_eq_some_iff.1 size_ent
  exact run_eql_ptr_same w a Tryz.underlying94 hi
theorem eql_other {w : World} {x y : Nat} {ca cb : Array Value} {ta tb : TypeId} (hne : x ≠ y) (hx : Box w x ca ta) (hy : Box w y cb tb) : (binOp .eql 94 (.pointer (some ⟨x, 0, none⟩)) (.pointer (some ⟨y, 0, none⟩))).run Tryz.prog w = .ok (.bool false) w := by
  obtain ⟨i, hi, hs⟩ := Option.map_eq_some_iff.1 size_ent
  exact run_eql_ptr_other w Tryz.underlying94 hi (by omega) (fun e => hne (by injection e)) hx hy
set_option maxHeartbeats 1000000 in
set_option maxRecDepth 100000 in
theorem sub1_any {A : Nat → Prop} {B : Nat → Nat} {T mb : Nat} {es : List Ent} {w : World} (hT : Tab A w T mb B es) (x : Nat) (o : Option Nat) (hx : x < es.length) (ho : ∀ i, o = some i → i < es.length) (c : Nat) (hc : w.cell? ⟨c, 0, none⟩ = some (ptrV B o)) :
    Calls Tryz.prog 78 #[entV B x, .pointer (some ⟨c, 0, none⟩)] w (Said (some x == o) w) := by
  cases o with
  | none =>
    have hc' : w.cell? ⟨c, 0, none⟩ = some (.pointer none) := hc
    clear hc ho hT hx
    go_enter Tryz.func78, Tryz.ntmps78
    go_wp2
    go_ret
    exact ⟨rfl, Below.refl _ _⟩
  | some j =>
    have hc' : w.cell? ⟨c, 0, none⟩ = some (.pointer (some ⟨B j, 0, none⟩)) := hc
    by_cases e : x = j
    · subst e
      have hb : (some x == some x) = true := by simp
      rw [hb]
      have hq := eql_same ⟨B x, 0, none⟩ w
      clear hc ho hT hx hb
      go_enter Tryz.func78, Tryz.ntmps78
      go_wp2
      go_ret
      exact ⟨rfl, Below.refl _ _⟩
    · obtain ⟨_, _, _, _, h1, _⟩ := hT.ent x _ (List.getElem?_eq_getElem hx)
      obtain ⟨_, _, _, _, h2, _⟩ := hT.ent j _ (List.getElem?_eq_getElem (ho j rfl))
      have hq := eql_other (fun q => e (hT.inj x j hx (ho j rfl) q)) h1 h2
      have hb : (some x == some j) = false := by simp [e]
      rw [hb]
      clear hc hb h1 h2 e
      go_enter Tryz.func78, Tryz.ntmps78
      go_wp2
      go_ret
      exact ⟨rfl, Below.refl _ _⟩
def subE (es : List Ent) (a b : List UInt8) : Bool :=
  kindE es a && (kindE es b && (a == b || (if a == nullL then !plainB b else if 0 < depN a then b == objL else (aboveE es (placeE es a)).any (fun x => some x == placeE es b))))
set_option maxHeartbeats 2000000 in
set_option maxRecDepth 100000 in
theorem sub_any {A : Nat → Prop} {B : Nat → Nat} {T mb : Nat} {es : List Ent} {w0 : World} (hT : Tab A w0 T mb B es) (hS : Shape es) (a b : List UInt8) (w : World) (hw : Below w0.heap.size w0 w) (ha : a.length ≤ 9223372036854775807) (hb : b.length ≤ 9223372036854775807) :
    Calls Tryz.prog 30 #[.pointer (some ⟨T, 0, none⟩), .string (S a), .string (S b)] w (Said (subE es a b) w) := by
  have hmf : ∀ (fn : Fn) (first cap : Array Value) (w : World), (Instr.makeFunc fn first cap).run Tryz.prog w = .ok (.func fn first cap) w := fun _ _ _ _ => rfl
  have HK1 := Lib.hid (kindt_any hT a w hw ha)
  have HK2 := Lib.hid (fun w' hw' => kindt_any hT b w' hw' hb)
  have HL : Hid (∀ w', Below w0.heap.size w0 w' → w'.cell? ⟨T, 0, none⟩ = some (.map (some mb)) ∧ (Instr.lookup 84 (.map (some mb)) (.string (S a)) false).run Tryz.prog w' = .ok (ptrV B (placeE es a)) w' ∧
      (Instr.lookup 84 (.map (some mb)) (.string (S b)) false).run Tryz.prog w' = .ok (ptrV B (placeE es b)) w') := Lib.hid (fun w' hw' =>
    ⟨(hT.below hw').box.cell 0 rfl, (hT.below hw').look a ha, (hT.below hw').look b hb⟩)
  have HA : Hid (∀ (w' : World), Below w0.heap.size w0 w' → Calls Tryz.prog 77 #[ptrV B (placeE es a), .func (.func 78) #[] #[.pointer (some ⟨w'.heap.size, 0, none⟩)]] (w'.alloc (.cells #[ptrV B (placeE es b)] 94))
      (Said ((aboveE es (placeE es a)).any (fun x => some x == placeE es b)) (w'.alloc (.cells #[ptrV B (placeE es b)] 94)))) := Lib.hid (fun w' hw' =>
    above_pure hT hS 78 _ (enters_fn Tryz.func78 (by kernel_rfl) rfl) _ (fun i hi => placeE_lt hi) _ _ (below_alloc hw' _) (fun x w'' hx hw'' =>
      sub1_any (hT.below ((below_alloc hw' _).trans (hw''.mono (below_alloc hw' _).size))) x (placeE es b) hx (fun i hi => placeE_lt hi) w'.heap.size (((Box.new w' #[ptrV B (placeE es b)] 94).below hw'').cell 0 rfl)))
  have HPL := Lib.hid (fun w => plain_any b w)
  have HDP := Lib.hid (fun w => deep_any a w ha)
  unfold SaidN at HDP
  have HW := Lib.hid hw
  obtain ⟨R, hR⟩ : ∃ R, R = subE es a b := ⟨_, rfl⟩
  rw [← hR]
  unfold subE at hR
  generalize kindE es a = ka at HK1 hR
  generalize kindE es b = kb at HK2 hR
  have e0 := S_toList a
  have e1 := S_toList b
  have HR := Lib.hid hR
  clear hR hw hT hS
  cases ka with
  | false =>
    obtain rfl : R = false := HR.out
    clear HK2 HA HL HPL HDP HR
    go_enter Tryz.func30, Tryz.ntmps30
    go_wp2_with fail
    refine HK1.out.mono ?_
    rintro e w1 ⟨rfl, hb1⟩
    clear HK1
    go_wp2
    go_ret
    exact ⟨rfl, hb1⟩
  | true =>
    go_enter Tryz.func30, Tryz.ntmps30
    go_wp2_with fail
    refine HK1.out.mono ?_
    rintro e w1 ⟨rfl, hb1⟩
    have HB1 := Lib.hid hb1
    clear hb1 HK1
    go_wp2_with fail
    refine (HK2.out w1 (HW.out.trans (HB1.out.mono HW.out.size))).mono ?_
    rintro e w2 ⟨rfl, hb2⟩
    have HB2 := Lib.hid (HB1.out.trans (hb2.mono HB1.out.size))
    clear hb2 HK2 HB1
    cases kb with
    | false =>
      obtain rfl : R = false := HR.out
      clear HA HL HPL HDP HR
      go_wp2
      go_ret
      exact ⟨rfl, HB2.out⟩
    | true =>
      have HR2 : Hid (R = (a == b || (if a == nullL then !plainB b else if 0 < depN a then b == objL else (aboveE es (placeE es a)).any (fun x => some x == placeE es b)))) := Lib.hid HR.out
      clear HR
      cases hab : (a == b) with
      | true =>
        obtain rfl : R = true := by rw [HR2.out, hab]; rfl
        clear HA HL HPL HDP HR2
        go_wp2
        go_ret
        exact ⟨rfl, HB2.out⟩
      | false =>
        cases han : (a == [110, 117, 108, 108]) with
        | true =>
          have hf : R = !plainB b := by rw [HR2.out, hab]; unfold nullL; rw [han]; rfl
          have HF := Lib.hid hf
          clear HA HL HDP HR2 hf
          generalize plainB b = p at HPL HF
          go_wp2_with fail
          refine (HPL.out _).mono ?_
          rintro e w3 ⟨rfl, rfl⟩
          clear HPL
          cases p
          all_goals
            have hf := HF.out
            subst hf
            go_wp2
            go_ret
            exact ⟨rfl, HB2.out⟩
        | false =>
          by_cases h0 : 0 < depN a
          · have hf : R = (b == objL) := by rw [HR2.out, hab]; unfold nullL; rw [han, Bool.false_or, if_neg (by decide), if_pos h0]
            have HF := Lib.hid hf
            have hpd : (0 : Int) < (depN a : Int) := by omega
            clear HA HL HPL HR2 hf h0
            go_wp2_with fail
            refine (HDP.out _).mono ?_
            rintro e w3 ⟨rfl, hb3⟩
            have HB3 := Lib.hid (HB2.out.trans (hb3.mono HB2.out.size))
            clear hb3 HDP
            cases hbo : (b == [79, 98, 106, 101, 99, 116])
            all_goals
              have hf : R = _ := HF.out.trans hbo
              subst hf
              go_wp2
              go_ret
              exact ⟨rfl, HB3.out⟩
          · have hf : R = (aboveE es (placeE es a)).any (fun x => some x == placeE es b) := by rw [HR2.out, hab]; unfold nullL; rw [han, Bool.false_or, if_neg (by decide), if_neg h0]
            have hz : depN a = 0 := by omega
            rw [hz] at HDP
            rw [← hf] at HA
            clear HPL HR2 hf h0 hz
            go_wp2_with fail
            refine (HDP.out _).mono ?_
            rintro e w3 ⟨rfl, hb3⟩
            have HB3 := Lib.hid (HB2.out.trans (hb3.mono HB2.out.size))
            have HW3 := Lib.hid (HW.out.trans (HB3.out.mono HW.out.size))
            clear hb3 HDP
            obtain ⟨t0, t1, t2⟩ := HL.out w3 HW3.out
            have hbn := below_alloc HW3.out (.cells #[ptrV B (placeE es b)] 94)
            obtain ⟨s0, s1, s2⟩ := HL.out _ hbn
            clear s2
            have HC := Lib.hid (HA.out w3 HW3.out)
            clear HL HA hbn
            obtain ⟨va, hva⟩ := ptrV_is B (placeE es a)
            obtain ⟨vb, hvb⟩ := ptrV_is B (placeE es b)
            rw [hva] at t1 s1 HC
            rw [hvb] at t2 s0 s1 HC
            clear hva hvb
            go_wp2_with fail
            refine HC.out.mono ?_
            rintro e w4 ⟨rfl, hb4⟩
            have HB4 := Lib.hid (HB3.out.trans (Below.mono (((Below.refl w3.heap.size w3).alloc (Nat.le_refl _) (.cells #[.pointer vb] 94)).trans (hb4.mono (by simp))) HB3.out.size))
            clear hb4 t0 t1 t2 s0 s1 HC
            go_wp2
            go_ret
            exact ⟨rfl, HB4.out⟩
end Go.Proofs.YtpincofjopmaaaaGreatDoor
namespace Go.Proofs.YtpincofjopmaaaaGreatDoor
open Go.RowKit
set_option maxHeartbeats 2000000 in
set_option maxRecDepth 100000 in
theorem numbered1_any (k b V : Nat) (a : List UInt8) (h : Int) (w : World) (hk : k < 42) (hc : w.cell? ⟨b, 0, none⟩ = some (.int .u64 (V : Nat))) :
    Calls Tryz.prog 285 #[.int .i64 k, .agg #[.string (S a), .int .i64 h], .pointer (some ⟨b, 0, none⟩)] w fun e w' => e = .returned (.bool (decide (k = V))) ∧ Below w.heap.size w w' := by
  have hcA : ∀ o : Obj, (w.alloc o).cell? ⟨b, 0, none⟩ = some (.int .u64 (V : Nat)) := fun o => ((Only.refl (fun _ => False) w).alloc o).cell hc id
  clear hc
  have hk0 : (0 : Int) ≤ k := by omega
  have hk1 : (k : Int) < 42 := by omega
  go_enter Tryz.func285, Tryz.ntmps285
  go_wp2
  go_ret
  refine ⟨?_, (Below.refl _ w).alloc (Nat.le_refl _) _⟩
  refine congrArg (fun q => Ending.returned (.bool q)) ?_
  rw [Bool.eq_iff_iff, decide_eq_true_eq, beq_iff_eq]
  omega
/-- Where a number leads: an operator, or none. -/
def at42 (V : Nat) : Nat := if V < 42 then V else 42
theorem at42_lt {V : Nat} (h : V < 42) : at42 V = V := if_pos h
theorem at42_ge {V : Nat} (h : ¬ V < 42) : at42 V = 42 := if_neg h
set_option maxHeartbeats 2000000 in
set_option maxRecDepth 100000 in
theorem numbered_any (V : Nat) (w : World) (hO : OpTab w) :
    Calls Tryz.prog 276 #[.int .u64 (V : Nat)] w fun e w' => e = .returned (.tuple #[.agg #[.string (S (nameAt (at42 V))), .int .i64 (hasAt (at42 V) : Nat)], .bool (decide (V < 42))]) ∧ Below w.heap.size w w' := by
  have hmf : ∀ (fn : Fn) (first cap : Array Value) (w : World), (Instr.makeFunc fn first cap).run Tryz.prog w = .ok (.func fn first cap) w := fun _ _ _ _ => rfl
  have HO := Lib.hid hO
  clear hO
  have hN : at42 V ≤ 42 := by unfold at42; split <;> omega
  have hd : decide (at42 V < 42) = decide (V < 42) := by unfold at42; split <;> simp_all
  have HN := Lib.hid hN
  have HD := Lib.hid hd
  clear hN hd
  go_enter Tryz.func276, Tryz.ntmps276
  go_wp2_with fail
  have hb0 : Below w.heap.size w ((w.alloc (.cells #[.int .u64 (V : Nat)] 213)).alloc (.cells #[.string ⟨#[]⟩, .int .i64 0] 242)) := ((Below.refl _ w).alloc (Nat.le_refl _) _).alloc (by simp) _
  have hc0 : ((w.alloc (.cells #[.int .u64 (V : Nat)] 213)).alloc (.cells #[.string ⟨#[]⟩, .int .i64 0] 242)).heap[w.heap.size]? = some (.cells #[.int .u64 (V : Nat)] 213 (0, 0)) := ((Only.refl (fun _ => False) _).alloc _).heap (heap_alloc_new w _) id
  have hr0 : ((w.alloc (.cells #[.int .u64 (V : Nat)] 213)).alloc (.cells #[.string ⟨#[]⟩, .int .i64 0] 242)).heap[w.heap.size + 1]? = some (.cells #[.string ⟨#[]⟩, .int .i64 0] 242 (0, 0)) := (heap_alloc_new' (w.alloc _) _ _ (by simp)).trans rfl
  generalize hw0 : (w.alloc (.cells #[.int .u64 (V : Nat)] 213)).alloc (.cells #[.string ⟨#[]⟩, .int .i64 0] 242) = w0 at hb0 hc0 hr0 ⊢
  clear hw0
  have hfind := find_any 285 (.pointer (some ⟨w.heap.size, 0, none⟩)) (fun k => decide (k = V)) (at42 V) (enters_cf Tryz.func285 (by kernel_rfl) rfl) w0 (HO.out.keep hb0)
    (fun k w' hk hb => numbered1_any k _ V _ _ w' hk (by simp [World.cell?, (Only.ofBelow (S := fun _ => False) hb).heap hc0 id])) HN.out (fun j hj => by
      rw [decide_eq_false_iff_not]
      unfold at42 at hj
      split at hj <;> omega) (fun h => by
      rw [decide_eq_true_eq]
      unfold at42 at h ⊢
      split at h
      · rw [if_pos (by assumption)]
      · omega)
  rw [HD.out] at hfind
  generalize (if at42 V < 42 then at42 V else 0) = q at hfind
  refine hfind.mono ?_
  clear hfind
  rintro e w1 ⟨rfl, hb1⟩
  have hr1 : w1.heap[w.heap.size + 1]? = some (.cells #[.string ⟨#[]⟩, .int .i64 0] 242 (0, 0)) := (Only.ofBelow (S := fun _ => False) hb1).heap hr0 id
  have hbw : Below w.heap.size w w1 := hb0.trans (hb1.mono hb0.size)
  clear hb1 hb0 hc0 hr0
  have hlt : w.heap.size + 1 < w1.heap.size := lt_of_block hr1
  obtain ⟨nm, hnm⟩ : ∃ nm, nm = nameAt (at42 V) := ⟨_, rfl⟩
  obtain ⟨ha, hha⟩ : ∃ ha, ha = hasAt (at42 V) := ⟨_, rfl⟩
  obtain ⟨d, hd⟩ : ∃ d, d = decide (V < 42) := ⟨_, rfl⟩
  rw [← hnm, ← hha, ← hd]
  have HNM := Lib.hid hnm
  have HHA := Lib.hid hha
  have HDD := Lib.hid hd
  clear hnm hha hd
  have hf0 : w1.frozen? ⟨w.heap.size + 1, 0, none⟩ = false := by simp [World.frozen?, hr1]
  have hf1 : w1.frozen? ⟨w.heap.size + 1, 1, none⟩ = false := by simp [World.frozen?, hr1]
  have hd0 : w1.cell? ⟨w.heap.size + 1, 0, none⟩ = some (.string ⟨#[]⟩) := by simp [World.cell?, hr1]
  have hd1 : w1.cell? ⟨w.heap.size + 1, 1, none⟩ = some (.int .i64 0) := by simp [World.cell?, hr1]
  have HR := Lib.hid hr1
  clear hr1
  go_wp2
  have hl := load_op (w := ((w1.setCell ⟨w.heap.size + 1, 0, none⟩ (.string (S nm))).setCell ⟨w.heap.size + 1, 1, none⟩ (.int .i64 (ha : Nat))).alloc (.cells #[.string (S nm), .int .i64 (ha : Nat)] 242)) (((Only.refl (fun _ => False) _).alloc _).heap (set2 HR.out) id)
  refine bodyPost_ret (v := .tuple #[.agg #[.string (S nm), .int .i64 (ha : Nat)], .bool d]) ?_ rfl ⟨?_, ?_⟩
  · simp [results, Tryz.results276, asAddr, hl]
  · rw [HNM.out, HHA.out, HDD.out]
  · exact ((hbw.setCell (by simp) _).setCell (by simp) _).alloc (by simp; omega) _
end Go.Proofs.YtpincofjopmaaaaGreatDoor
namespace Go.Proofs.YtpincofjopmaaaaGreatDoor
open Go.RowKit
/-- From w on nothing that was there has changed but the reader, and the reader stands so. -/
structure TK (w0 w w' : World) (b : Nat) (v : Value) (l : List UInt8) (i err : Nat) : Prop where
  rs : RS w0 w' b v l i err
  on : Only (fun k => k = b) w w'
  blt : b < w.heap.size
  vlt : ∀ g, v.ownBlock = some g → g < w.heap.size
  lo : w0.heap.size ≤ w.heap.size
theorem TK.start {w0 w : World} {b : Nat} {v : Value} {l : List UInt8} {i err : Nat} (r : RS w0 w b v l i err) : TK w0 w w b v l i err :=
  ⟨r, Only.refl _ _, lt_of_block r.rd.blk, fun g hg => (r.rd.row.lt g hg).2, r.bel.size⟩
theorem TK.below {w0 w w' w'' : World} {b : Nat} {v : Value} {l : List UInt8} {i err : Nat} (h : TK w0 w w' b v l i err) (hb : Below w'.heap.size w' w'') : TK w0 w w'' b v l i err :=
  ⟨h.rs.keep hb, h.on.trans (Only.ofBelow hb), h.blt, h.vlt, h.lo⟩
theorem TK.alloc {w0 w w' : World} {b : Nat} {v : Value} {l : List UInt8} {i err : Nat} (h : TK w0 w w' b v l i err) (o : Obj) : TK w0 w (w'.alloc o) b v l i err :=
  h.below ((Below.refl _ _).alloc (Nat.le_refl _) o)
theorem TK.got {w0 w w' w'' : World} {b : Nat} {v : Value} {l : List UInt8} {i err i' err' : Nat} (h : TK w0 w w' b v l i err) (ho : Only (fun k => k = b) w' w'') (hr : RdAt w'' b v l i' err') : TK w0 w w'' b v l i' err' :=
  ⟨h.rs.step ho hr, h.on.trans ho, h.blt, h.vlt, h.lo⟩
theorem TK.set {w0 w w' : World} {b : Nat} {v : Value} {l : List UInt8} {i err : Nat} (h : TK w0 w w' b v l i err) {I : Nat} (hI : w.heap.size ≤ I) (o : Nat) (u : Value) : TK w0 w (w'.setCell ⟨I, o, none⟩ u) b v l i err := by
  have ho : Only (fun k => k = I) w' (w'.setCell ⟨I, o, none⟩ u) := (Only.refl (fun k => k = I) w').setCell (p := ⟨I, o, none⟩) rfl u
  refine ⟨⟨h.rs.rd.keep ho (fun e => ?_) (fun g hg e => ?_), h.rs.lo, h.rs.own, h.rs.bel.setCell (p := ⟨I, o, none⟩) (Nat.le_trans h.lo hI) u⟩, h.on.then ho (fun k hk e => ?_), h.blt, h.vlt, h.lo⟩
  · have := h.blt; omega
  · have := h.vlt g hg; omega
  · omega
theorem TK.drew {w0 w w' : World} {b : Nat} {v : Value} {l : List UInt8} {i err : Nat} (h : TK w0 w w' b v l i err) : TK w0 w w'.drew b v l i err := h.below ((Below.refl _ _).drew)
/-- A block of three cells. -/
def Three (w : World) (I : Nat) (x y z : Value) : Prop := w.heap[I]? = some (.cells #[x, y, z] 70 (0, 0))
theorem Three.cells {w : World} {I : Nat} {x y z : Value} (h : Three w I x y z) : (w.cell? ⟨I, 0, none⟩ = some x ∧ w.cell? ⟨I, 1, none⟩ = some y ∧ w.cell? ⟨I, 2, none⟩ = some z) ∧ (∀ o, w.frozen? ⟨I, o, none⟩ = false) ∧ I < w.heap.size := by
  unfold Three at h
  exact ⟨⟨by simp [World.cell?, h], by simp [World.cell?, h], by simp [World.cell?, h]⟩, fun o => by simp [World.frozen?, h], lt_of_block h⟩
theorem Three.keep {T : Nat → Prop} {w w' : World} {I : Nat} {x y z : Value} (h : Three w I x y z) (ho : Only T w w') (hn : ¬ T I) : Three w' I x y z := ho.heap h hn
theorem Three.below {w w' : World} {I : Nat} {x y z : Value} (h : Three w I x y z) (hb : Below w.heap.size w w') : Three w' I x y z := h.keep (Only.ofBelow (S := fun _ => False) hb) id
theorem Three.alloc {w : World} {I : Nat} {x y z : Value} (h : Three w I x y z) (o : Obj) : Three (w.alloc o) I x y z := h.keep ((Only.refl (fun _ => False) w).alloc o) id
theorem Three.set_ne {w : World} {I J o : Nat} {x y z u : Value} (h : Three w I x y z) (hn : I ≠ J) : Three (w.setCell ⟨J, o, none⟩ u) I x y z :=
  h.keep ((Only.refl (fun k => k = J) w).setCell (p := ⟨J, o, none⟩) rfl u) hn
theorem Three.new (w : World) (x y z : Value) : Three (w.alloc (.cells #[x, y, z] 70)) w.heap.size x y z := heap_alloc_new w _
theorem Three.all {w : World} {I : Nat} {x y z x' y' z' : Value} (h : Three w I x y z) : Three (((w.setCell ⟨I, 0, none⟩ x').setCell ⟨I, 1, none⟩ y').setCell ⟨I, 2, none⟩ z') I x' y' z' := by
  unfold Three at h ⊢
  rw [heap_setCell_self (heap_setCell_self (heap_setCell_self h))]
  rfl
theorem Three.one {w : World} {I : Nat} {x y z y' : Value} (h : Three w I x y z) : Three (w.setCell ⟨I, 1, none⟩ y') I x y' z := by
  unfold Three at h ⊢
  rw [heap_setCell_self h]
  rfl
theorem Three.two {w : World} {I : Nat} {x y z z' : Value} (h : Three w I x y z) : Three (w.setCell ⟨I, 2, none⟩ z') I x y z' := by
  unfold Three at h ⊢
  rw [heap_setCell_self h]
  rfl
theorem range3 {w : World} {I : Nat} {x y z : Value} (h : Three w I x y z) : w.rangeAt I 0 [x, y, z] := by
  intro j v hj
  obtain ⟨⟨h0, h1, h2⟩, _, _⟩ := h.cells
  match j, hj with
  | 0, hj => simp at hj; subst hj; simpa using h0
  | 1, hj => simp at hj; subst hj; simpa using h1
  | 2, hj => simp at hj; subst hj; simpa using h2
  | j + 3, hj => simp at hj
theorem info_ins3 : (Tryz.prog.info? 70).map (·.size) = some 3 := by kernel_rfl
theorem load_ins {w : World} {I : Nat} {x y z : Value} (h : Three w I x y z) : (loadVar 70 ⟨I, 0, none⟩).run Tryz.prog w = .ok (.agg #[x, y, z]) w :=
  run_loadVar_mid (P := Tryz.prog) w I 0 70 [x, y, z] _ (range3 h) Tryz.underlying70 rfl info_ins3
/-- What is said of takeOne. -/
def OneG (w0 : World) (b : Nat) (v : Value) (l : List UInt8) (i err : Nat) (w : World) (e : Ending) (w' : World) : Prop :=
  ∃ (x : Ins) (ok : Bool) (i' err' : Nat), e = .returned (.tuple #[x.v, .bool ok]) ∧ x.ok ∧ TK w0 w w' b v l i' err' ∧ (ok = true → x.e = 0) ∧
    (∀ (y : Ins) (r : List UInt8), err = 0 → y.ok → y.e = 0 → l.drop i = y.bytes ++ r → x = y ∧ ok = true ∧ i' = i + y.bytes.length ∧ err' = 0)
theorem ins_eq {a s : List UInt8} {n : Int} {y : Ins} (h1 : a = y.op) (h2 : n = y.n) (h3 : s = y.s) : (⟨a, n, s⟩ : Ins) = y := by subst h1 h2 h3; rfl
theorem bytes_len (y : Ins) (h : Nat) (e : h = hasAt (idx y.op)) : y.bytes.length = (Lib.uvarint (idx y.op)).length + (argBytes h y.n y.s).length := by
  unfold Ins.bytes
  rw [List.length_append, e]
theorem drop_more {l a r : List UInt8} {i k : Nat} (h : l.drop i = a ++ r) (hk : k = a.length) : l.drop (i + k) = r := by
  rw [← List.drop_drop, h, hk, List.drop_left]
set_option maxHeartbeats 4000000 in
set_option maxRecDepth 100000 in
theorem takeOne_any {w0 w : World} {b : Nat} {v : Value} {l : List UInt8} {i err : Nat} (r0 : RS w0 w b v l i err) (hT : CT w0) :
    Calls Tryz.prog 259 #[.pointer (some ⟨b, 0, none⟩)] w (OneG w0 b v l i err w) := by
  have HT := Lib.hid hT
  have t0 := TK.start r0
  have T0 := Lib.hid t0
  clear r0 hT t0
  go_enter Tryz.func259, Tryz.ntmps259
  go_wp2_with fail
  have hRW : w.heap.size ≤ w.heap.size := Nat.le_refl _
  have hbR : w.heap.size ≠ b := by have := T0.out.blt; omega
  have qA := Three.new w (.string ⟨#[]⟩) (.int .i64 0) (.string ⟨#[]⟩)
  have tA := T0.out.alloc (.cells #[.string ⟨#[]⟩, .int .i64 0, .string ⟨#[]⟩] 70)
  generalize w.alloc (.cells #[.string ⟨#[]⟩, .int .i64 0, .string ⟨#[]⟩] 70) = wA at qA tA ⊢
  generalize hRR : w.heap.size = R at qA hbR ⊢
  rw [hRR] at hRW
  have HRW : Hid (w.heap.size ≤ R) := Lib.hid (by omega)
  clear hRR hRW
  refine (rnum_g tA.rs.rd).mono ?_
  rintro e w1 ⟨V, i1, err1, hV, ⟨rfl, ho1, rd1⟩, g1⟩
  have t1 := tA.got ho1 rd1
  have q1 := qA.keep ho1 hbR
  have T1 := Lib.hid t1
  have Q1 := Lib.hid q1
  have G1 := Lib.hid g1
  clear tA qA ho1 rd1 t1 q1 g1 T0 hV
  go_wp2_with fail
  refine (numbered_any V w1 (HT.out.keep T1.out.rs.bel).ops).mono ?_
  rintro e w2 ⟨rfl, hb2⟩
  have t2 := T1.out.below hb2
  have q2 := Q1.out.below hb2
  have T2 := Lib.hid t2
  have Q2 := Lib.hid q2
  clear t2 q2 hb2 T1 Q1
  by_cases hV : V < 42
  · rw [at42_lt hV, decide_eq_true hV]
    obtain ⟨nm, hnm⟩ : ∃ nm, nm = nameAt V := ⟨_, rfl⟩
    obtain ⟨h, hh⟩ : ∃ h, h = hasAt V := ⟨_, rfl⟩
    rw [← hnm, ← hh]
    have HNM := Lib.hid hnm
    have HHH := Lib.hid hh
    have HV := Lib.hid hV
    clear hnm hh hV
    -- what the guarantee says of the operator
    have HGO : Hid (∀ (y : Ins) (r : List UInt8), err = 0 → y.e = 0 → l.drop i = y.bytes ++ r → nm = y.op ∧ h = hasAt (idx y.op) ∧ i1 = i + (Lib.uvarint (idx y.op)).length ∧ err1 = 0 ∧ l.drop i1 = argBytes h y.n y.s ++ r) := Lib.hid (fun y r he hye hd => by
      have hd' := hd
      unfold Ins.bytes at hd
      rw [List.append_assoc] at hd
      obtain ⟨e1, e2, e3⟩ := G1.out (idx y.op) _ he (by have := idx_le y.op; omega) hd
      have ha : h = hasAt (idx y.op) := by rw [HHH.out, e1]
      refine ⟨by rw [HNM.out, e1]; exact (ins_fine hye).2.1, ha, e2, e3, ?_⟩
      rw [e2, ha]
      exact drop_more hd rfl)
    have HH6 : Hid (h ≤ 6) := Lib.hid (by rw [HHH.out]; exact hasAt_le V)
    clear G1
    by_cases h1 : h = 1
    · subst h1
      go_wp2_with fail
      have iB : Three ((w2.alloc (.cells #[.string (S nm), .int .i64 (1 : Nat)] 242)).alloc (.cells #[.string (S nm), .int .i64 0, .string ⟨#[]⟩] 70)) (w2.heap.size + 1) (.string (S nm)) (.int .i64 0) (.string ⟨#[]⟩) := by
        have h := Three.new (w2.alloc (.cells #[.string (S nm), .int .i64 (1 : Nat)] 242)) (.string (S nm)) (.int .i64 0) (.string ⟨#[]⟩)
        simpa using h
      have tB := (T2.out.alloc (.cells #[.string (S nm), .int .i64 (1 : Nat)] 242)).alloc (.cells #[.string (S nm), .int .i64 0, .string ⟨#[]⟩] 70)
      have qB := (Q2.out.alloc (.cells #[.string (S nm), .int .i64 (1 : Nat)] 242)).alloc (.cells #[.string (S nm), .int .i64 0, .string ⟨#[]⟩] 70)
      have oB : ((w2.alloc (.cells #[.string (S nm), .int .i64 (1 : Nat)] 242)).alloc (.cells #[.string (S nm), .int .i64 0, .string ⟨#[]⟩] 70)).heap[w2.heap.size]? = some (.cells #[.string (S nm), .int .i64 (1 : Nat)] 242 (0, 0)) := ((Only.refl (fun _ => False) _).alloc _).heap (heap_alloc_new w2 _) id
      have hIR : w2.heap.size + 1 ≠ R := by have := Q2.out.cells.2.2; omega
      have hIb : w2.heap.size + 1 ≠ b := by have h1 := T2.out.blt; have h2 := T2.out.on.size; omega
      have hIW : w.heap.size ≤ w2.heap.size + 1 := by have h2 := T2.out.on.size; omega
      generalize (w2.alloc (.cells #[.string (S nm), .int .i64 (1 : Nat)] 242)).alloc (.cells #[.string (S nm), .int .i64 0, .string ⟨#[]⟩] 70) = wB at iB tB qB oB ⊢
      generalize w2.heap.size + 1 = I at iB hIR hIb hIW ⊢
      have oc1 : wB.cell? ⟨w2.heap.size, 1, none⟩ = some (.int .i64 (1 : Nat)) := by simp [World.cell?, oB]
      have HIR := Lib.hid hIR
      have HIW := Lib.hid hIW
      clear oB hIR hIW
      clear oc1
      refine (rint_g tB.rs.rd).mono ?_
      rintro e w3 ⟨n, i3, err3, hn, ⟨rfl, ho3, rd3⟩, g3⟩
      have t3 := tB.got ho3 rd3
      have j3 := iB.keep ho3 hIb
      have q3 := qB.keep ho3 hbR
      have G3 := Lib.hid g3
      have HNB := Lib.hid hn
      obtain ⟨⟨_, c1, _⟩, f, _⟩ := j3.cells
      have f1 := f 1
      have J3 := Lib.hid j3
      have K3 := Lib.hid t3
      have Q3 := Lib.hid q3
      clear tB iB qB ho3 rd3 g3 hn t3 j3 q3 f T2 Q2
      go_upto_region 9 with fail
      have t9 := K3.out.set (I := I) HIW.out 1 (.int .i64 n)
      have i9 := J3.out.one (y' := .int .i64 n)
      have q9 := Q3.out.set_ne (o := 1) (u := .int .i64 n) (fun e => HIR.out e.symm)
      generalize w3.setCell ⟨I, 1, none⟩ (.int .i64 n) = w9 at t9 i9 q9 ⊢
      clear c1 f1 J3 K3 Q3
      clear hbR hIb
      have HCK : Hid (∀ W, Below w9.heap.size w9 W → Calls Tryz.prog 266 #[.agg #[.string (S nm), .int .i64 n, .string ⟨#[]⟩]] W fun e w' => e = .returned (.int .i64 (checkE nm n [] : Nat)) ∧ Below w9.heap.size w9 w') := Lib.hid (fun W hW => by
        exact (check_any nm n [] W (HT.out.keep (t9.below hW).rs.bel) (by simp)).mono (fun _ _ h => ⟨h.1, hW.trans (h.2.mono hW.size)⟩))
      have T9 := Lib.hid t9
      have I9 := Lib.hid i9
      have R9 := Lib.hid q9
      have HCL : Hid (∀ W, Below w9.heap.size w9 W → W.cell? ⟨I, 0, none⟩ = some (.string (S nm)) ∧ W.cell? ⟨I, 1, none⟩ = some (.int .i64 n) ∧ W.cell? ⟨I, 2, none⟩ = some (.string ⟨#[]⟩)) := Lib.hid (fun W hW => (I9.out.below hW).cells.1)
      clear t9 i9 q9
      obtain ⟨E, hE⟩ : ∃ E, E = checkE nm n [] := ⟨_, rfl⟩
      rw [← hE] at HCK
      have HE := Lib.hid hE
      clear hE
      first
      | (go_region_held (fun W => W.cell? ⟨I, 0, none⟩ = some (.string (S nm)) ∧ W.cell? ⟨I, 1, none⟩ = some (.int .i64 n) ∧ W.cell? ⟨I, 2, none⟩ = some (.string ⟨#[]⟩)) (first | with_reducible exact HCL.out _ b5 | with_reducible exact HCL.out _ ((Below.refl _ _).drew) | with_reducible exact k5)
          (first | (go_at_call 266; refine (HCK.out _ (by exact (Below.refl _ _).drew)).mono ?_; rintro e w5 ⟨rfl, b5⟩; obtain ⟨⟨x0, x1, x2⟩, xf, xl⟩ := (R9.out.below b5).cells; have xf0 := xf 0; have xf1 := xf 1; have xf2 := xf 2; clear xf; have k5 := (((I9.out.below b5).set_ne (o := 0) (u := .string (S nm)) HIR.out).set_ne (o := 1) (u := .int .i64 n) HIR.out |>.set_ne (o := 2) (u := .string ⟨#[]⟩) HIR.out).cells.1)))
      | fail
      all_goals go_wp2
      have l5 := load_ins ((R9.out.below b5).all (x' := .string (S nm)) (y' := .int .i64 n) (z' := .string ⟨#[]⟩))
      have t5 := (((T9.out.below b5).set (I := R) HRW.out 0 (.string (S nm))).set (I := R) HRW.out 1 (.int .i64 n)).set (I := R) HRW.out 2 (.string ⟨#[]⟩)
      refine bodyPost_ret (v := .tuple #[.agg #[.string (S nm), .int .i64 n, .string ⟨#[]⟩], .bool ((E : Int) == 0)]) ?_ rfl ?_
      · simp [results, Tryz.results259, asAddr, l5]
      · refine ⟨⟨nm, n, []⟩, ((E : Int) == 0), i3, err3, rfl, ⟨HNB.out, by simp⟩, t5, fun hk => ?_, fun y r he hy hye hd => ?_⟩
        · unfold Ins.e
          rw [← HE.out]
          rw [beq_iff_eq] at hk
          omega
        · obtain ⟨e1, e2, e3, e4, e5⟩ := HGO.out y r he hye hd
          rw [show argBytes 1 y.n y.s = Lib.uvarint (Lib.zigzag y.n) from if_pos rfl] at e5
          obtain ⟨f1, f2, f3⟩ := G3.out y.n r e4 hy.1 e5
          have hx : (⟨nm, n, []⟩ : Ins) = y := ins_eq e1 f1 (ins_short hye (by rw [← e2]; decide)).symm
          have hz : E = 0 := by rw [HE.out, ← hye, ← hx]; rfl
          refine ⟨hx, by rw [hz]; rfl, ?_, f3⟩
          rw [bytes_len y 1 e2, show argBytes 1 y.n y.s = Lib.uvarint (Lib.zigzag y.n) from if_pos rfl, f2, e3]
          omega
    · have e1 : ((h : Int) == 1) = false := by rw [beq_eq_false_iff_ne]; omega
      by_cases h2 : 2 ≤ h
      · have HIT : Hid (∀ W, Calls Tryz.prog 250 #[.int .i64 h] W fun e w' => e = .returned (.bool true) ∧ W = w') := Lib.hid (fun W => by
          have q := istext_any h W
          rw [decide_eq_true h2] at q
          exact q)
        have HH1 := Lib.hid h1
        have HH2 := Lib.hid h2
        clear h1 h2
        go_upto_region 5 with fail
        have iB : Three ((w2.alloc (.cells #[.string (S nm), .int .i64 (h : Nat)] 242)).alloc (.cells #[.string (S nm), .int .i64 0, .string ⟨#[]⟩] 70)) (w2.heap.size + 1) (.string (S nm)) (.int .i64 0) (.string ⟨#[]⟩) := by
          have h := Three.new (w2.alloc (.cells #[.string (S nm), .int .i64 (h : Nat)] 242)) (.string (S nm)) (.int .i64 0) (.string ⟨#[]⟩)
          simpa using h
        have tB := (T2.out.alloc (.cells #[.string (S nm), .int .i64 (h : Nat)] 242)).alloc (.cells #[.string (S nm), .int .i64 0, .string ⟨#[]⟩] 70)
        have qB := (Q2.out.alloc (.cells #[.string (S nm), .int .i64 (h : Nat)] 242)).alloc (.cells #[.string (S nm), .int .i64 0, .string ⟨#[]⟩] 70)
        have oB : ((w2.alloc (.cells #[.string (S nm), .int .i64 (h : Nat)] 242)).alloc (.cells #[.string (S nm), .int .i64 0, .string ⟨#[]⟩] 70)).heap[w2.heap.size]? = some (.cells #[.string (S nm), .int .i64 (h : Nat)] 242 (0, 0)) := ((Only.refl (fun _ => False) _).alloc _).heap (heap_alloc_new w2 _) id
        have hIR : w2.heap.size + 1 ≠ R := by have := Q2.out.cells.2.2; omega
        have hIb : w2.heap.size + 1 ≠ b := by have h1 := T2.out.blt; have h2 := T2.out.on.size; omega
        have hIW : w.heap.size ≤ w2.heap.size + 1 := by have h2 := T2.out.on.size; omega
        generalize (w2.alloc (.cells #[.string (S nm), .int .i64 (h : Nat)] 242)).alloc (.cells #[.string (S nm), .int .i64 0, .string ⟨#[]⟩] 70) = wB at iB tB qB oB ⊢
        generalize w2.heap.size + 1 = I at iB hIR hIb hIW ⊢
        have oc1 : wB.cell? ⟨w2.heap.size, 1, none⟩ = some (.int .i64 (h : Nat)) := by simp [World.cell?, oB]
        have HIR := Lib.hid hIR
        have HIW := Lib.hid hIW
        clear oB hIR hIW
        have ocB := oc1
        go_wp2_with (go_at_call 250; refine (HIT.out _).mono ?_; rintro e w' ⟨rfl, rfl⟩)
        refine (rtext_g tB.rs.rd (HT.out.keep tB.rs.bel).tabs (tB.rs.ne HT.out.tabs).1 (tB.rs.ne HT.out.tabs).2).mono ?_
        rintro e w3 ⟨s, i3, err3, hs, ⟨rfl, ho3, rd3⟩, g3⟩
        have t3 := tB.got ho3 rd3
        have j3 := iB.keep ho3 hIb
        have q3 := qB.keep ho3 hbR
        have G3 := Lib.hid g3
        have HNB := Lib.hid hs
        obtain ⟨⟨_, _, c2⟩, f, _⟩ := j3.cells
        have f2 := f 2
        have J3 := Lib.hid j3
        have K3 := Lib.hid t3
        have Q3 := Lib.hid q3
        clear tB iB qB ho3 rd3 g3 hs t3 j3 q3 f T2 Q2 oc1 ocB
        go_upto_region 9 with fail
        have t9 := K3.out.set (I := I) HIW.out 2 (.string (S s))
        have i9 := J3.out.two (z' := .string (S s))
        have q9 := Q3.out.set_ne (o := 2) (u := .string (S s)) (fun e => HIR.out e.symm)
        generalize w3.setCell ⟨I, 2, none⟩ (.string (S s)) = w9 at t9 i9 q9 ⊢
        clear c2 f2 J3 K3 Q3 e1
        clear hbR hIb
        have HCK : Hid (∀ W, Below w9.heap.size w9 W → Calls Tryz.prog 266 #[.agg #[.string (S nm), .int .i64 0, .string (S s)]] W fun e w' => e = .returned (.int .i64 (checkE nm 0 s : Nat)) ∧ Below w9.heap.size w9 w') := Lib.hid (fun W hW => by
          exact (check_any nm 0 s W (HT.out.keep (t9.below hW).rs.bel) (by have := HNB.out; omega)).mono (fun _ _ h => ⟨h.1, hW.trans (h.2.mono hW.size)⟩))
        have T9 := Lib.hid t9
        have I9 := Lib.hid i9
        have R9 := Lib.hid q9
        have HCL : Hid (∀ W, Below w9.heap.size w9 W → W.cell? ⟨I, 0, none⟩ = some (.string (S nm)) ∧ W.cell? ⟨I, 1, none⟩ = some (.int .i64 0) ∧ W.cell? ⟨I, 2, none⟩ = some (.string (S s))) := Lib.hid (fun W hW => (I9.out.below hW).cells.1)
        clear t9 i9 q9
        obtain ⟨E, hE⟩ : ∃ E, E = checkE nm 0 s := ⟨_, rfl⟩
        rw [← hE] at HCK
        have HE := Lib.hid hE
        clear hE
        first
        | (go_region_held (fun W => W.cell? ⟨I, 0, none⟩ = some (.string (S nm)) ∧ W.cell? ⟨I, 1, none⟩ = some (.int .i64 0) ∧ W.cell? ⟨I, 2, none⟩ = some (.string (S s))) (first | with_reducible exact HCL.out _ b5 | with_reducible exact HCL.out _ ((Below.refl _ _).drew) | with_reducible exact k5)
            (first | (go_at_call 266; refine (HCK.out _ (by exact (Below.refl _ _).drew)).mono ?_; rintro e w5 ⟨rfl, b5⟩; obtain ⟨⟨x0, x1, x2⟩, xf, xl⟩ := (R9.out.below b5).cells; have xf0 := xf 0; have xf1 := xf 1; have xf2 := xf 2; clear xf; have k5 := (((I9.out.below b5).set_ne (o := 0) (u := .string (S nm)) HIR.out).set_ne (o := 1) (u := .int .i64 0) HIR.out |>.set_ne (o := 2) (u := .string (S s)) HIR.out).cells.1)))
        | fail
        all_goals go_wp2
        have l5 := load_ins ((R9.out.below b5).all (x' := .string (S nm)) (y' := .int .i64 0) (z' := .string (S s)))
        have t5 := (((T9.out.below b5).set (I := R) HRW.out 0 (.string (S nm))).set (I := R) HRW.out 1 (.int .i64 0)).set (I := R) HRW.out 2 (.string (S s))
        refine bodyPost_ret (v := .tuple #[.agg #[.string (S nm), .int .i64 0, .string (S s)], .bool ((E : Int) == 0)]) ?_ rfl ?_
        · simp [results, Tryz.results259, asAddr, l5]
        · refine ⟨⟨nm, 0, s⟩, ((E : Int) == 0), i3, err3, rfl, ⟨⟨by show (-9223372036854775808 : Int) ≤ 0; decide, by show (0 : Int) ≤ 9223372036854775807; decide⟩, by have := HNB.out; show s.length ≤ 1048576; omega⟩, t5, fun hk => ?_, fun y r he hy hye hd => ?_⟩
          · unfold Ins.e
            rw [← HE.out]
            rw [beq_iff_eq] at hk
            omega
          · obtain ⟨e1, e2, e3, e4, e5⟩ := HGO.out y r he hye hd
            have hab : argBytes h y.n y.s = textBytes y.s := (if_neg HH1.out).trans (if_pos HH2.out)
            rw [hab] at e5
            obtain ⟨_, _, hfn, hfa⟩ := ins_fine hye
            have htx := allows_text hfa
            obtain ⟨f1, f2, f3⟩ := G3.out y.s r e4 htx.2.1 htx.1 e5
            have hx : (⟨nm, 0, s⟩ : Ins) = y := ins_eq e1 (hfn (by rw [← e2]; exact HH1.out)).symm f1
            have hz : E = 0 := by rw [HE.out, ← hye, ← hx]; rfl
            refine ⟨hx, by rw [hz]; rfl, ?_, f3⟩
            rw [bytes_len y h e2, hab, f2, e3]
            omega

      · have HIT : Hid (∀ W, Calls Tryz.prog 250 #[.int .i64 h] W fun e w' => e = .returned (.bool false) ∧ W = w') := Lib.hid (fun W => by
          have q := istext_any h W
          rw [decide_eq_false h2] at q
          exact q)
        have HH1 := Lib.hid h1
        have HH2 := Lib.hid h2
        clear h1 h2
        go_upto_region 5 with fail
        have iB : Three ((w2.alloc (.cells #[.string (S nm), .int .i64 (h : Nat)] 242)).alloc (.cells #[.string (S nm), .int .i64 0, .string ⟨#[]⟩] 70)) (w2.heap.size + 1) (.string (S nm)) (.int .i64 0) (.string ⟨#[]⟩) := by
          have h := Three.new (w2.alloc (.cells #[.string (S nm), .int .i64 (h : Nat)] 242)) (.string (S nm)) (.int .i64 0) (.string ⟨#[]⟩)
          simpa using h
        have tB := (T2.out.alloc (.cells #[.string (S nm), .int .i64 (h : Nat)] 242)).alloc (.cells #[.string (S nm), .int .i64 0, .string ⟨#[]⟩] 70)
        have qB := (Q2.out.alloc (.cells #[.string (S nm), .int .i64 (h : Nat)] 242)).alloc (.cells #[.string (S nm), .int .i64 0, .string ⟨#[]⟩] 70)
        have oB : ((w2.alloc (.cells #[.string (S nm), .int .i64 (h : Nat)] 242)).alloc (.cells #[.string (S nm), .int .i64 0, .string ⟨#[]⟩] 70)).heap[w2.heap.size]? = some (.cells #[.string (S nm), .int .i64 (h : Nat)] 242 (0, 0)) := ((Only.refl (fun _ => False) _).alloc _).heap (heap_alloc_new w2 _) id
        have hIR : w2.heap.size + 1 ≠ R := by have := Q2.out.cells.2.2; omega
        have hIb : w2.heap.size + 1 ≠ b := by have h1 := T2.out.blt; have h2 := T2.out.on.size; omega
        have hIW : w.heap.size ≤ w2.heap.size + 1 := by have h2 := T2.out.on.size; omega
        generalize (w2.alloc (.cells #[.string (S nm), .int .i64 (h : Nat)] 242)).alloc (.cells #[.string (S nm), .int .i64 0, .string ⟨#[]⟩] 70) = wB at iB tB qB oB ⊢
        generalize w2.heap.size + 1 = I at iB hIR hIb hIW ⊢
        have oc1 : wB.cell? ⟨w2.heap.size, 1, none⟩ = some (.int .i64 (h : Nat)) := by simp [World.cell?, oB]
        have HIR := Lib.hid hIR
        have HIW := Lib.hid hIW
        clear oB hIR hIW
        go_upto_region 9 with (go_at_call 250; refine (HIT.out _).mono ?_; rintro e w' ⟨rfl, rfl⟩)
        have t9 := tB
        have i9 := iB
        have q9 := qB
        generalize hw9 : wB = w9 at t9 i9 q9 ⊢
        clear tB iB qB T2 Q2 oc1 hw9 e1
        clear hbR hIb
        have HCK : Hid (∀ W, Below w9.heap.size w9 W → Calls Tryz.prog 266 #[.agg #[.string (S nm), .int .i64 0, .string ⟨#[]⟩]] W fun e w' => e = .returned (.int .i64 (checkE nm 0 [] : Nat)) ∧ Below w9.heap.size w9 w') := Lib.hid (fun W hW => by
          exact (check_any nm 0 [] W (HT.out.keep (t9.below hW).rs.bel) (by simp)).mono (fun _ _ h => ⟨h.1, hW.trans (h.2.mono hW.size)⟩))
        have T9 := Lib.hid t9
        have I9 := Lib.hid i9
        have R9 := Lib.hid q9
        have HCL : Hid (∀ W, Below w9.heap.size w9 W → W.cell? ⟨I, 0, none⟩ = some (.string (S nm)) ∧ W.cell? ⟨I, 1, none⟩ = some (.int .i64 0) ∧ W.cell? ⟨I, 2, none⟩ = some (.string ⟨#[]⟩)) := Lib.hid (fun W hW => (I9.out.below hW).cells.1)
        clear t9 i9 q9
        obtain ⟨E, hE⟩ : ∃ E, E = checkE nm 0 [] := ⟨_, rfl⟩
        rw [← hE] at HCK
        have HE := Lib.hid hE
        clear hE
        first
        | (go_region_held (fun W => W.cell? ⟨I, 0, none⟩ = some (.string (S nm)) ∧ W.cell? ⟨I, 1, none⟩ = some (.int .i64 0) ∧ W.cell? ⟨I, 2, none⟩ = some (.string ⟨#[]⟩)) (first | with_reducible exact HCL.out _ b5 | with_reducible exact HCL.out _ ((Below.refl _ _).drew) | with_reducible exact k5)
            (first | (go_at_call 266; refine (HCK.out _ (by exact (Below.refl _ _).drew)).mono ?_; rintro e w5 ⟨rfl, b5⟩; obtain ⟨⟨x0, x1, x2⟩, xf, xl⟩ := (R9.out.below b5).cells; have xf0 := xf 0; have xf1 := xf 1; have xf2 := xf 2; clear xf; have k5 := (((I9.out.below b5).set_ne (o := 0) (u := .string (S nm)) HIR.out).set_ne (o := 1) (u := .int .i64 0) HIR.out |>.set_ne (o := 2) (u := .string ⟨#[]⟩) HIR.out).cells.1)))
        | fail
        all_goals go_wp2
        have l5 := load_ins ((R9.out.below b5).all (x' := .string (S nm)) (y' := .int .i64 0) (z' := .string ⟨#[]⟩))
        have t5 := (((T9.out.below b5).set (I := R) HRW.out 0 (.string (S nm))).set (I := R) HRW.out 1 (.int .i64 0)).set (I := R) HRW.out 2 (.string ⟨#[]⟩)
        refine bodyPost_ret (v := .tuple #[.agg #[.string (S nm), .int .i64 0, .string ⟨#[]⟩], .bool ((E : Int) == 0)]) ?_ rfl ?_
        · simp [results, Tryz.results259, asAddr, l5]
        · refine ⟨⟨nm, 0, []⟩, ((E : Int) == 0), i1, err1, rfl, ⟨⟨by show (-9223372036854775808 : Int) ≤ 0; decide, by show (0 : Int) ≤ 9223372036854775807; decide⟩, by simp⟩, t5, fun hk => ?_, fun y r he hy hye hd => ?_⟩
          · unfold Ins.e
            rw [← HE.out]
            rw [beq_iff_eq] at hk
            omega
          · obtain ⟨e1, e2, e3, e4, e5⟩ := HGO.out y r he hye hd
            have hab : argBytes h y.n y.s = [] := (if_neg HH1.out).trans (if_neg HH2.out)
            obtain ⟨_, _, hfn, hfa⟩ := ins_fine hye
            have hx : (⟨nm, 0, []⟩ : Ins) = y := ins_eq e1 (hfn (by rw [← e2]; exact HH1.out)).symm (ins_short hye (by rw [← e2]; have := HH2.out; omega)).symm
            have hz : E = 0 := by rw [HE.out, ← hye, ← hx]; rfl
            refine ⟨hx, by rw [hz]; rfl, ?_, e4⟩
            rw [bytes_len y h e2, hab, e3]
            simp

  · rw [at42_ge hV, decide_eq_false hV]
    have HV := Lib.hid hV
    clear hV
    rw [at_end.1, at_end.2]
    obtain ⟨⟨x0, x1, x2⟩, xf, xl⟩ := Q2.out.cells
    have xf0 := xf 0
    have xf1 := xf 1
    have xf2 := xf 2
    clear xf
    go_wp2
    have l5 := load_ins ((Q2.out.all (x' := .string ⟨#[]⟩) (y' := .int .i64 0) (z' := .string ⟨#[]⟩)).alloc (.cells #[.string (S []), .int .i64 0] 242))
    have t5 := ((((T2.out.set (I := R) HRW.out 0 (.string ⟨#[]⟩)).set (I := R) HRW.out 1 (.int .i64 0)).set (I := R) HRW.out 2 (.string ⟨#[]⟩)).alloc (.cells #[.string (S []), .int .i64 0] 242))
    refine bodyPost_ret (v := .tuple #[.agg #[.string ⟨#[]⟩, .int .i64 0, .string ⟨#[]⟩], .bool false]) ?_ rfl ?_
    · simp [results, Tryz.results259, asAddr, l5]
    · refine ⟨⟨[], 0, []⟩, false, i1, err1, rfl, ⟨by decide, by simp⟩, t5, (fun hk => by cases hk), fun y r he hy hye hd => ?_⟩
      unfold Ins.bytes at hd
      rw [List.append_assoc] at hd
      obtain ⟨e1, _, _⟩ := G1.out (idx y.op) _ he (by have := idx_le y.op; omega) hd
      have := (ins_fine hye).1
      have := HV.out
      omega
end Go.Proofs.YtpincofjopmaaaaGreatDoor
