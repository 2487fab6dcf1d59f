/-
  The contracts of slices.IndexFunc and slices.ContainsFunc and of package class's all, at slices of texts, fields and catches, at whatever function they are handed.
  Conditions: the elements lie in memory that was there before; the function answers, and changes nothing that was there before.
  The contracts of slices.IndexFunc and slices.ContainsFunc and of package class's all, at slices of methods and instructions, at whatever function they are handed.
  Conditions: the elements lie in memory that was there before; the function answers, and changes nothing that was there before.
-/
import Derived.Test.YtpincofjopmaaaaGreatDoorM01
import Derived.Test.YtpincofjopmaaaaGreatDoorM06
import Derived.Test.YtpincofjopmaaaaGreatDoorM11
namespace Go.Proofs.YtpincofjopmaaaaGreatDoor
open Go.RowKit
/-- What a function handed to a search answers of each element. -/
def Tells {α : Type} (R : ElemRel α) (A : Nat → Prop) (F : Nat) (caps : Array Value) (p : α → Bool) (l : List α) (w : World) : Prop :=
  ∀ (k : Nat) (x : α) (v : Value) (w' : World), l[k]? = some x → Below w.heap.size w w' → R A w' x v → Calls Tryz.prog F (#[v] ++ caps) w' (Said (p x) w')
def Found (f : Bool) (w : World) (e : Ending) (w' : World) : Prop := ∃ z : Int, e = .returned (.int .i64 z) ∧ decide (0 ≤ z) = f ∧ Below w.heap.size w w'
set_option maxHeartbeats 2000000 in
set_option maxRecDepth 100000 in
theorem indexf_str {A : Nat → Prop} (F : Nat) (caps : Array Value) (p : List UInt8 → Bool) (l : List (List UInt8)) (sv : Value) (w : World) (he : ∀ args w, (callFunc F args).run Tryz.prog w = .ok (.enter F args) w)
    (hs : Src 1 StrR A w sv l) (hF : Tells StrR A F caps p l w) (hlen : l.length ≤ 9223372036854775807) :
    Calls Tryz.prog 243 #[sv, .func (.func F) #[] caps] w (Found (l.any p) w) := by
  have HF := Lib.hid hF
  have HE := Lib.hid he
  clear hF he
  rcases hs with ⟨ao, cp0, rfl, rfl⟩ | ⟨b, o, cap, rfl, _, hc⟩
  · go_enter Tryz.func243, Tryz.ntmps243
    go_wp2
    go_loopw [8] (fun v8 wr => v8 = .int .i64 0 ∧ wr = w) (fun _ _ => 0)
    case atStart => exact ⟨rfl, rfl⟩
    case round =>
      obtain ⟨rfl, rfl⟩ := hrel
      go_wp2
      go_ret
      exact ⟨-1, rfl, rfl, Below.refl _ _⟩
  · have HC := Lib.hid hc
    obtain ⟨n, hn⟩ : ∃ n, n = l.length := ⟨_, rfl⟩
    rw [← hn] at hlen ⊢
    have HN := Lib.hid hn
    clear hc hn
    go_enter Tryz.func243, Tryz.ntmps243
    go_wp2
    go_loopw [8] (fun v8 wr => ∃ k : Nat, k ≤ n ∧ v8 = .int .i64 k ∧ (l.take k).any p = false ∧ Below w.heap.size w wr) (fun v8 _ => n - (intOf v8).toNat)
    case atStart => exact ⟨0, Nat.zero_le _, rfl, by simp, Below.refl _ _⟩
    case round =>
      obtain ⟨k, hk, rfl, hall, hbw⟩ := hrel
      have HA := Lib.hid hall
      have HB := Lib.hid hbw
      clear hall hbw
      by_cases hlt : k < n
      · have hkl : k < l.length := by have := HN.out; omega
        obtain ⟨x, hx⟩ : ∃ x, l[k]? = some x := ⟨_, List.getElem?_eq_getElem hkl⟩
        have hoW := Only.ofBelow (S := fun _ => False) HB.out
        obtain ⟨v, hv, hsz, hcl⟩ := HC.out k x hx
        have HV := Lib.hid (StrR.st.keep hv hoW (fun _ _ => id))
        obtain rfl := hv
        have d0 : wr.cell? ⟨b, o + k, none⟩ = some (.string (S x)) := hoW.cell (a := ⟨b, o + k, none⟩) (by have q := hcl 0 _ rfl; rw [Nat.mul_one] at q; exact q) id
        clear hcl hsz
        have HX := Lib.hid hx
        have hts := take_any_succ p l k x hx
        rw [HA.out, Bool.false_or] at hts
        have HTS := Lib.hid hts
        clear hx hkl hoW hts
        have hk0 : (0 : Int) ≤ k := by omega
        have hkn : (k : Int) < (n : Int) := by omega
        have he := HE.out
        go_wp2_with fail
        refine (HF.out k x _ wr HX.out HB.out HV.out).mono ?_
        rintro e w1 ⟨rfl, hb1⟩
        have hb2 : Below w.heap.size w w1 := HB.out.trans (hb1.mono HB.out.size)
        have HB2 := Lib.hid hb2
        clear hb1 hb2 he d0
        cases hp : p x with
        | true =>
          rw [hp] at HTS
          have hfin : l.any p = true := by
            rw [List.any_eq_true]
            exact ⟨x, List.mem_of_getElem? HX.out, hp⟩
          have HFI := Lib.hid hfin
          clear hp hfin
          go_wp2
          go_ret
          exact ⟨k, rfl, by rw [HFI.out]; simp, HB2.out⟩
        | false =>
          rw [hp] at HTS
          clear hp
          go_wp2
          go_roundw
          case rel => exact ⟨k + 1, by omega, by go_num, HTS.out, HB2.out⟩
          case measure => simp [intOf]; omega
      · obtain rfl : k = n := by omega
        have hfin : l.any p = false := by
          have h := HA.out
          rw [HN.out, List.take_of_length_le (Nat.le_refl _)] at h
          exact h
        have HFI := Lib.hid hfin
        clear hfin
        go_wp2
        go_ret
        exact ⟨-1, rfl, by rw [HFI.out]; rfl, HB.out⟩
set_option maxHeartbeats 400000 in
theorem contf_str {A : Nat → Prop} (F : Nat) (caps : Array Value) (p : List UInt8 → Bool) (l : List (List UInt8)) (sv : Value) (w : World) (he : ∀ args w, (callFunc F args).run Tryz.prog w = .ok (.enter F args) w)
    (hs : Src 1 StrR A w sv l) (hF : Tells StrR A F caps p l w) (hlen : l.length ≤ 9223372036854775807) :
    Calls Tryz.prog 189 #[sv, .func (.func F) #[] caps] w (Said (l.any p) w) := by
  have HI := Lib.hid (indexf_str F caps p l sv w he hs hF hlen)
  obtain ⟨ao, cp, rfl⟩ := hs.shape
  generalize l.any p = f at HI ⊢
  generalize l.length = n at HI ⊢
  clear he hs hF hlen
  go_enter Tryz.func189, Tryz.ntmps189
  go_wp2_with fail
  refine HI.out.mono ?_
  rintro e w1 ⟨z, rfl, hz, hb⟩
  have HZ := Lib.hid hz
  have HB := Lib.hid hb
  clear hz hb
  go_wp2
  go_ret
  exact ⟨congrArg (fun q => Ending.returned (.bool q)) HZ.out, HB.out⟩
set_option maxHeartbeats 2000000 in
set_option maxRecDepth 100000 in
theorem all1_str (F : Nat) (caps : Array Value) (c : Nat) (x : List UInt8) (v : Value) (r : Bool) (w : World) (he : ∀ args w, (callFunc F args).run Tryz.prog w = .ok (.enter F args) w)
    (A : Nat → Prop) (w0 : World) (hv : StrR A w0 x v) (hc : w.cell? ⟨c, 0, none⟩ = some (.func (.func F) #[] caps)) (hF : ∀ w', Below w.heap.size w w' → Calls Tryz.prog F (#[v] ++ caps) w' (Said r w')) :
    Calls Tryz.prog 228 #[v, .pointer (some ⟨c, 0, none⟩)] w (Said (!r) w) := by
  obtain rfl := hv
  have HF := Lib.hid hF
  have hlt : c < w.heap.size := World.block_lt_of_cell? w _ hc
  clear hF
  go_enter Tryz.func228, Tryz.ntmps228
  go_wp2_with fail
  refine (HF.out _ (Below.refl _ w)).mono ?_
  rintro e w1 ⟨rfl, hb⟩
  clear hc he
  go_wp2
  go_ret
  exact ⟨rfl, hb⟩
set_option maxHeartbeats 2000000 in
set_option maxRecDepth 100000 in
theorem all_str {A : Nat → Prop} (F : Nat) (caps : Array Value) (p : List UInt8 → Bool) (l : List (List UInt8)) (sv : Value) (w : World) (he : ∀ args w, (callFunc F args).run Tryz.prog w = .ok (.enter F args) w)
    (hs : Src 1 StrR A w sv l) (hF : Tells StrR A F caps p l w) (hlen : l.length ≤ 9223372036854775807) :
    Calls Tryz.prog 163 #[sv, .func (.func F) #[] caps] w (Said (l.all p) w) := by
  have hmf : ∀ (fn : Fn) (first cap : Array Value) (w : World), (Instr.makeFunc fn first cap).run Tryz.prog w = .ok (.func fn first cap) w := fun _ _ _ _ => rfl
  rw [all_not_any]
  have HCF : Hid (∀ T : TypeId, Calls Tryz.prog 189 #[sv, .func (.func 228) #[] #[.pointer (some ⟨w.heap.size, 0, none⟩)]] (w.alloc (.cells #[.func (.func F) #[] caps] T)) (Said (l.any fun x => !p x) (w.alloc (.cells #[.func (.func F) #[] caps] T)))) := Lib.hid (fun T => by
    have hb0 : Below w.heap.size w (w.alloc (.cells #[.func (.func F) #[] caps] T)) := (Below.refl _ w).alloc (Nat.le_refl _) _
    refine contf_str (A := A) 228 _ (fun x => !p x) l sv _ (enters_fn Tryz.func228 (by kernel_rfl) rfl) (StrR.st.below hs hb0) (fun k x v w' hx hb' hv => ?_) hlen
    have hc' : w'.cell? ⟨w.heap.size, 0, none⟩ = some (.func (.func F) #[] caps) := (Only.ofBelow (S := fun _ => False) hb').cell (by simp) id
    have hbw : Below w.heap.size w w' := hb0.trans (hb'.mono hb0.size)
    exact all1_str F caps w.heap.size x _ (p x) w' he A w' hv hc' (fun w'' hb'' => hF k x _ w'' hx (hbw.trans (hb''.mono hbw.size)) (StrR.st.keep hv (Only.ofBelow (S := fun _ => False) hb'') (fun _ _ => id))))
  obtain ⟨ao, cp, rfl⟩ := hs.shape
  generalize (l.any fun x => !p x) = f at HCF ⊢
  generalize l.length = n at HCF ⊢
  clear he hs hF hlen
  go_enter Tryz.func163, Tryz.ntmps163
  go_wp2_with fail
  refine (HCF.out _).mono ?_
  rintro e w1 ⟨rfl, hb⟩
  have hbw : Below w.heap.size w w1 := ((Below.refl _ w).alloc (Nat.le_refl _) _).trans (hb.mono (by simp))
  have HB := Lib.hid hbw
  clear hb hbw hmf
  go_wp2
  go_ret
  exact ⟨rfl, HB.out⟩
set_option maxHeartbeats 2000000 in
set_option maxRecDepth 100000 in
theorem indexf_fld {A : Nat → Prop} (F : Nat) (caps : Array Value) (p : Fld → Bool) (l : List (Fld)) (sv : Value) (w : World) (he : ∀ args w, (callFunc F args).run Tryz.prog w = .ok (.enter F args) w)
    (hs : Src 3 FldR A w sv l) (hF : Tells FldR A F caps p l w) (hlen : l.length ≤ 9223372036854775807) :
    Calls Tryz.prog 88 #[sv, .func (.func F) #[] caps] w (Found (l.any p) w) := by
  have HF := Lib.hid hF
  have HE := Lib.hid he
  clear hF he
  rcases hs with ⟨ao, cp0, rfl, rfl⟩ | ⟨b, o, cap, rfl, _, hc⟩
  · go_enter Tryz.func88, Tryz.ntmps88
    go_wp2
    go_loopw [8] (fun v8 wr => v8 = .int .i64 0 ∧ wr = w) (fun _ _ => 0)
    case atStart => exact ⟨rfl, rfl⟩
    case round =>
      obtain ⟨rfl, rfl⟩ := hrel
      go_wp2
      go_ret
      exact ⟨-1, rfl, rfl, Below.refl _ _⟩
  · have HC := Lib.hid hc
    obtain ⟨n, hn⟩ : ∃ n, n = l.length := ⟨_, rfl⟩
    rw [← hn] at hlen ⊢
    have HN := Lib.hid hn
    clear hc hn
    go_enter Tryz.func88, Tryz.ntmps88
    go_wp2
    go_loopw [8] (fun v8 wr => ∃ k : Nat, k ≤ n ∧ v8 = .int .i64 k ∧ (l.take k).any p = false ∧ Below w.heap.size w wr) (fun v8 _ => n - (intOf v8).toNat)
    case atStart => exact ⟨0, Nat.zero_le _, rfl, by simp, Below.refl _ _⟩
    case round =>
      obtain ⟨k, hk, rfl, hall, hbw⟩ := hrel
      have HA := Lib.hid hall
      have HB := Lib.hid hbw
      clear hall hbw
      by_cases hlt : k < n
      · have hkl : k < l.length := by have := HN.out; omega
        obtain ⟨x, hx⟩ : ∃ x, l[k]? = some x := ⟨_, List.getElem?_eq_getElem hkl⟩
        have hoW := Only.ofBelow (S := fun _ => False) HB.out
        obtain ⟨v, hv, hsz, hcl⟩ := HC.out k x hx
        have HV := Lib.hid (FldR.st.keep hv hoW (fun _ _ => id))
        obtain rfl := hv
        have d0 : wr.cell? ⟨b, o + k * 3, none⟩ = some (.string (S x.name)) := hoW.cell (a := ⟨b, o + k * 3, none⟩) (hcl 0 _ rfl) id
        have d1 : wr.cell? ⟨b, o + k * 3 + 1, none⟩ = some (.string (S x.kind)) := hoW.cell (a := ⟨b, o + k * 3 + 1, none⟩) (hcl 1 _ rfl) id
        have d2 : wr.cell? ⟨b, o + k * 3 + 2, none⟩ = some (.bool x.tr) := hoW.cell (a := ⟨b, o + k * 3 + 2, none⟩) (hcl 2 _ rfl) id
        clear hcl hsz
        have HX := Lib.hid hx
        have hts := take_any_succ p l k x hx
        rw [HA.out, Bool.false_or] at hts
        have HTS := Lib.hid hts
        clear hx hkl hoW hts
        have hk0 : (0 : Int) ≤ k := by omega
        have hkn : (k : Int) < (n : Int) := by omega
        have he := HE.out
        go_wp2_with fail
        refine (HF.out k x _ wr HX.out HB.out HV.out).mono ?_
        rintro e w1 ⟨rfl, hb1⟩
        have hb2 : Below w.heap.size w w1 := HB.out.trans (hb1.mono HB.out.size)
        have HB2 := Lib.hid hb2
        clear hb1 hb2 he d0 d1 d2
        cases hp : p x with
        | true =>
          rw [hp] at HTS
          have hfin : l.any p = true := by
            rw [List.any_eq_true]
            exact ⟨x, List.mem_of_getElem? HX.out, hp⟩
          have HFI := Lib.hid hfin
          clear hp hfin
          go_wp2
          go_ret
          exact ⟨k, rfl, by rw [HFI.out]; simp, HB2.out⟩
        | false =>
          rw [hp] at HTS
          clear hp
          go_wp2
          go_roundw
          case rel => exact ⟨k + 1, by omega, by go_num, HTS.out, HB2.out⟩
          case measure => simp [intOf]; omega
      · obtain rfl : k = n := by omega
        have hfin : l.any p = false := by
          have h := HA.out
          rw [HN.out, List.take_of_length_le (Nat.le_refl _)] at h
          exact h
        have HFI := Lib.hid hfin
        clear hfin
        go_wp2
        go_ret
        exact ⟨-1, rfl, by rw [HFI.out]; rfl, HB.out⟩
set_option maxHeartbeats 400000 in
theorem contf_fld {A : Nat → Prop} (F : Nat) (caps : Array Value) (p : Fld → Bool) (l : List (Fld)) (sv : Value) (w : World) (he : ∀ args w, (callFunc F args).run Tryz.prog w = .ok (.enter F args) w)
    (hs : Src 3 FldR A w sv l) (hF : Tells FldR A F caps p l w) (hlen : l.length ≤ 9223372036854775807) :
    Calls Tryz.prog 117 #[sv, .func (.func F) #[] caps] w (Said (l.any p) w) := by
  have HI := Lib.hid (indexf_fld F caps p l sv w he hs hF hlen)
  obtain ⟨ao, cp, rfl⟩ := hs.shape
  generalize l.any p = f at HI ⊢
  generalize l.length = n at HI ⊢
  clear he hs hF hlen
  go_enter Tryz.func117, Tryz.ntmps117
  go_wp2_with fail
  refine HI.out.mono ?_
  rintro e w1 ⟨z, rfl, hz, hb⟩
  have HZ := Lib.hid hz
  have HB := Lib.hid hb
  clear hz hb
  go_wp2
  go_ret
  exact ⟨congrArg (fun q => Ending.returned (.bool q)) HZ.out, HB.out⟩
set_option maxHeartbeats 2000000 in
set_option maxRecDepth 100000 in
theorem all1_fld (F : Nat) (caps : Array Value) (c : Nat) (x : Fld) (v : Value) (r : Bool) (w : World) (he : ∀ args w, (callFunc F args).run Tryz.prog w = .ok (.enter F args) w)
    (A : Nat → Prop) (w0 : World) (hv : FldR A w0 x v) (hc : w.cell? ⟨c, 0, none⟩ = some (.func (.func F) #[] caps)) (hF : ∀ w', Below w.heap.size w w' → Calls Tryz.prog F (#[v] ++ caps) w' (Said r w')) :
    Calls Tryz.prog 172 #[v, .pointer (some ⟨c, 0, none⟩)] w (Said (!r) w) := by
  obtain rfl := hv
  have HF := Lib.hid hF
  have hlt : c < w.heap.size := World.block_lt_of_cell? w _ hc
  have hcA : ∀ o : Obj, (w.alloc o).cell? ⟨c, 0, none⟩ = some (.func (.func F) #[] caps) := fun o => ((Only.refl (fun _ => False) w).alloc o).cell hc id
  clear hc
  clear hF
  go_enter Tryz.func172, Tryz.ntmps172
  go_wp2_with fail
  refine (HF.out _ ((Below.refl _ w).alloc (Nat.le_refl _) _)).mono ?_
  rintro e w1 ⟨rfl, hb⟩
  clear hcA he
  go_wp2
  go_ret
  exact ⟨rfl, ((Below.refl _ w).alloc (Nat.le_refl _) _).trans (hb.mono (by simp))⟩
set_option maxHeartbeats 2000000 in
set_option maxRecDepth 100000 in
theorem all_fld {A : Nat → Prop} (F : Nat) (caps : Array Value) (p : Fld → Bool) (l : List (Fld)) (sv : Value) (w : World) (he : ∀ args w, (callFunc F args).run Tryz.prog w = .ok (.enter F args) w)
    (hs : Src 3 FldR A w sv l) (hF : Tells FldR A F caps p l w) (hlen : l.length ≤ 9223372036854775807) :
    Calls Tryz.prog 100 #[sv, .func (.func F) #[] caps] w (Said (l.all p) w) := by
  have hmf : ∀ (fn : Fn) (first cap : Array Value) (w : World), (Instr.makeFunc fn first cap).run Tryz.prog w = .ok (.func fn first cap) w := fun _ _ _ _ => rfl
  rw [all_not_any]
  have HCF : Hid (∀ T : TypeId, Calls Tryz.prog 117 #[sv, .func (.func 172) #[] #[.pointer (some ⟨w.heap.size, 0, none⟩)]] (w.alloc (.cells #[.func (.func F) #[] caps] T)) (Said (l.any fun x => !p x) (w.alloc (.cells #[.func (.func F) #[] caps] T)))) := Lib.hid (fun T => by
    have hb0 : Below w.heap.size w (w.alloc (.cells #[.func (.func F) #[] caps] T)) := (Below.refl _ w).alloc (Nat.le_refl _) _
    refine contf_fld (A := A) 172 _ (fun x => !p x) l sv _ (enters_fn Tryz.func172 (by kernel_rfl) rfl) (FldR.st.below hs hb0) (fun k x v w' hx hb' hv => ?_) hlen
    have hc' : w'.cell? ⟨w.heap.size, 0, none⟩ = some (.func (.func F) #[] caps) := (Only.ofBelow (S := fun _ => False) hb').cell (by simp) id
    have hbw : Below w.heap.size w w' := hb0.trans (hb'.mono hb0.size)
    exact all1_fld F caps w.heap.size x _ (p x) w' he A w' hv hc' (fun w'' hb'' => hF k x _ w'' hx (hbw.trans (hb''.mono hbw.size)) (FldR.st.keep hv (Only.ofBelow (S := fun _ => False) hb'') (fun _ _ => id))))
  obtain ⟨ao, cp, rfl⟩ := hs.shape
  generalize (l.any fun x => !p x) = f at HCF ⊢
  generalize l.length = n at HCF ⊢
  clear he hs hF hlen
  go_enter Tryz.func100, Tryz.ntmps100
  go_wp2_with fail
  refine (HCF.out _).mono ?_
  rintro e w1 ⟨rfl, hb⟩
  have hbw : Below w.heap.size w w1 := ((Below.refl _ w).alloc (Nat.le_refl _) _).trans (hb.mono (by simp))
  have HB := Lib.hid hbw
  clear hb hbw hmf
  go_wp2
  go_ret
  exact ⟨rfl, HB.out⟩
set_option maxHeartbeats 2000000 in
set_option maxRecDepth 100000 in
theorem indexf_cat {A : Nat → Prop} (F : Nat) (caps : Array Value) (p : Cat → Bool) (l : List (Cat)) (sv : Value) (w : World) (he : ∀ args w, (callFunc F args).run Tryz.prog w = .ok (.enter F args) w)
    (hs : Src 4 CatR A w sv l) (hF : Tells CatR A F caps p l w) (hlen : l.length ≤ 9223372036854775807) :
    Calls Tryz.prog 280 #[sv, .func (.func F) #[] caps] w (Found (l.any p) w) := by
  have HF := Lib.hid hF
  have HE := Lib.hid he
  clear hF he
  rcases hs with ⟨ao, cp0, rfl, rfl⟩ | ⟨b, o, cap, rfl, _, hc⟩
  · go_enter Tryz.func280, Tryz.ntmps280
    go_wp2
    go_loopw [8] (fun v8 wr => v8 = .int .i64 0 ∧ wr = w) (fun _ _ => 0)
    case atStart => exact ⟨rfl, rfl⟩
    case round =>
      obtain ⟨rfl, rfl⟩ := hrel
      go_wp2
      go_ret
      exact ⟨-1, rfl, rfl, Below.refl _ _⟩
  · have HC := Lib.hid hc
    obtain ⟨n, hn⟩ : ∃ n, n = l.length := ⟨_, rfl⟩
    rw [← hn] at hlen ⊢
    have HN := Lib.hid hn
    clear hc hn
    go_enter Tryz.func280, Tryz.ntmps280
    go_wp2
    go_loopw [8] (fun v8 wr => ∃ k : Nat, k ≤ n ∧ v8 = .int .i64 k ∧ (l.take k).any p = false ∧ Below w.heap.size w wr) (fun v8 _ => n - (intOf v8).toNat)
    case atStart => exact ⟨0, Nat.zero_le _, rfl, by simp, Below.refl _ _⟩
    case round =>
      obtain ⟨k, hk, rfl, hall, hbw⟩ := hrel
      have HA := Lib.hid hall
      have HB := Lib.hid hbw
      clear hall hbw
      by_cases hlt : k < n
      · have hkl : k < l.length := by have := HN.out; omega
        obtain ⟨x, hx⟩ : ∃ x, l[k]? = some x := ⟨_, List.getElem?_eq_getElem hkl⟩
        have hoW := Only.ofBelow (S := fun _ => False) HB.out
        obtain ⟨v, hv, hsz, hcl⟩ := HC.out k x hx
        have HV := Lib.hid (CatR.st.keep hv hoW (fun _ _ => id))
        obtain rfl := hv
        have d0 : wr.cell? ⟨b, o + k * 4, none⟩ = some (.int .i64 x.fr) := hoW.cell (a := ⟨b, o + k * 4, none⟩) (hcl 0 _ rfl) id
        have d1 : wr.cell? ⟨b, o + k * 4 + 1, none⟩ = some (.int .i64 x.till) := hoW.cell (a := ⟨b, o + k * 4 + 1, none⟩) (hcl 1 _ rfl) id
        have d2 : wr.cell? ⟨b, o + k * 4 + 2, none⟩ = some (.int .i64 x.at_) := hoW.cell (a := ⟨b, o + k * 4 + 2, none⟩) (hcl 2 _ rfl) id
        have d3 : wr.cell? ⟨b, o + k * 4 + 3, none⟩ = some (.string (S x.cls)) := hoW.cell (a := ⟨b, o + k * 4 + 3, none⟩) (hcl 3 _ rfl) id
        clear hcl hsz
        have HX := Lib.hid hx
        have hts := take_any_succ p l k x hx
        rw [HA.out, Bool.false_or] at hts
        have HTS := Lib.hid hts
        clear hx hkl hoW hts
        have hk0 : (0 : Int) ≤ k := by omega
        have hkn : (k : Int) < (n : Int) := by omega
        have he := HE.out
        go_wp2_with fail
        refine (HF.out k x _ wr HX.out HB.out HV.out).mono ?_
        rintro e w1 ⟨rfl, hb1⟩
        have hb2 : Below w.heap.size w w1 := HB.out.trans (hb1.mono HB.out.size)
        have HB2 := Lib.hid hb2
        clear hb1 hb2 he d0 d1 d2 d3
        cases hp : p x with
        | true =>
          rw [hp] at HTS
          have hfin : l.any p = true := by
            rw [List.any_eq_true]
            exact ⟨x, List.mem_of_getElem? HX.out, hp⟩
          have HFI := Lib.hid hfin
          clear hp hfin
          go_wp2
          go_ret
          exact ⟨k, rfl, by rw [HFI.out]; simp, HB2.out⟩
        | false =>
          rw [hp] at HTS
          clear hp
          go_wp2
          go_roundw
          case rel => exact ⟨k + 1, by omega, by go_num, HTS.out, HB2.out⟩
          case measure => simp [intOf]; omega
      · obtain rfl : k = n := by omega
        have hfin : l.any p = false := by
          have h := HA.out
          rw [HN.out, List.take_of_length_le (Nat.le_refl _)] at h
          exact h
        have HFI := Lib.hid hfin
        clear hfin
        go_wp2
        go_ret
        exact ⟨-1, rfl, by rw [HFI.out]; rfl, HB.out⟩
set_option maxHeartbeats 400000 in
theorem contf_cat {A : Nat → Prop} (F : Nat) (caps : Array Value) (p : Cat → Bool) (l : List (Cat)) (sv : Value) (w : World) (he : ∀ args w, (callFunc F args).run Tryz.prog w = .ok (.enter F args) w)
    (hs : Src 4 CatR A w sv l) (hF : Tells CatR A F caps p l w) (hlen : l.length ≤ 9223372036854775807) :
    Calls Tryz.prog 267 #[sv, .func (.func F) #[] caps] w (Said (l.any p) w) := by
  have HI := Lib.hid (indexf_cat F caps p l sv w he hs hF hlen)
  obtain ⟨ao, cp, rfl⟩ := hs.shape
  generalize l.any p = f at HI ⊢
  generalize l.length = n at HI ⊢
  clear he hs hF hlen
  go_enter Tryz.func267, Tryz.ntmps267
  go_wp2_with fail
  refine HI.out.mono ?_
  rintro e w1 ⟨z, rfl, hz, hb⟩
  have HZ := Lib.hid hz
  have HB := Lib.hid hb
  clear hz hb
  go_wp2
  go_ret
  exact ⟨congrArg (fun q => Ending.returned (.bool q)) HZ.out, HB.out⟩
set_option maxHeartbeats 2000000 in
set_option maxRecDepth 100000 in
theorem all1_cat (F : Nat) (caps : Array Value) (c : Nat) (x : Cat) (v : Value) (r : Bool) (w : World) (he : ∀ args w, (callFunc F args).run Tryz.prog w = .ok (.enter F args) w)
    (A : Nat → Prop) (w0 : World) (hv : CatR A w0 x v) (hc : w.cell? ⟨c, 0, none⟩ = some (.func (.func F) #[] caps)) (hF : ∀ w', Below w.heap.size w w' → Calls Tryz.prog F (#[v] ++ caps) w' (Said r w')) :
    Calls Tryz.prog 268 #[v, .pointer (some ⟨c, 0, none⟩)] w (Said (!r) w) := by
  obtain rfl := hv
  have HF := Lib.hid hF
  have hlt : c < w.heap.size := World.block_lt_of_cell? w _ hc
  have hcA : ∀ o : Obj, (w.alloc o).cell? ⟨c, 0, none⟩ = some (.func (.func F) #[] caps) := fun o => ((Only.refl (fun _ => False) w).alloc o).cell hc id
  clear hc
  clear hF
  go_enter Tryz.func268, Tryz.ntmps268
  go_wp2_with fail
  refine (HF.out _ ((Below.refl _ w).alloc (Nat.le_refl _) _)).mono ?_
  rintro e w1 ⟨rfl, hb⟩
  clear hcA he
  go_wp2
  go_ret
  exact ⟨rfl, ((Below.refl _ w).alloc (Nat.le_refl _) _).trans (hb.mono (by simp))⟩
set_option maxHeartbeats 2000000 in
set_option maxRecDepth 100000 in
theorem all_cat {A : Nat → Prop} (F : Nat) (caps : Array Value) (p : Cat → Bool) (l : List (Cat)) (sv : Value) (w : World) (he : ∀ args w, (callFunc F args).run Tryz.prog w = .ok (.enter F args) w)
    (hs : Src 4 CatR A w sv l) (hF : Tells CatR A F caps p l w) (hlen : l.length ≤ 9223372036854775807) :
    Calls Tryz.prog 236 #[sv, .func (.func F) #[] caps] w (Said (l.all p) w) := by
  have hmf : ∀ (fn : Fn) (first cap : Array Value) (w : World), (Instr.makeFunc fn first cap).run Tryz.prog w = .ok (.func fn first cap) w := fun _ _ _ _ => rfl
  rw [all_not_any]
  have HCF : Hid (∀ T : TypeId, Calls Tryz.prog 267 #[sv, .func (.func 268) #[] #[.pointer (some ⟨w.heap.size, 0, none⟩)]] (w.alloc (.cells #[.func (.func F) #[] caps] T)) (Said (l.any fun x => !p x) (w.alloc (.cells #[.func (.func F) #[] caps] T)))) := Lib.hid (fun T => by
    have hb0 : Below w.heap.size w (w.alloc (.cells #[.func (.func F) #[] caps] T)) := (Below.refl _ w).alloc (Nat.le_refl _) _
    refine contf_cat (A := A) 268 _ (fun x => !p x) l sv _ (enters_fn Tryz.func268 (by kernel_rfl) rfl) (CatR.st.below hs hb0) (fun k x v w' hx hb' hv => ?_) hlen
    have hc' : w'.cell? ⟨w.heap.size, 0, none⟩ = some (.func (.func F) #[] caps) := (Only.ofBelow (S := fun _ => False) hb').cell (by simp) id
    have hbw : Below w.heap.size w w' := hb0.trans (hb'.mono hb0.size)
    exact all1_cat F caps w.heap.size x _ (p x) w' he A w' hv hc' (fun w'' hb'' => hF k x _ w'' hx (hbw.trans (hb''.mono hbw.size)) (CatR.st.keep hv (Only.ofBelow (S := fun _ => False) hb'') (fun _ _ => id))))
  obtain ⟨ao, cp, rfl⟩ := hs.shape
  generalize (l.any fun x => !p x) = f at HCF ⊢
  generalize l.length = n at HCF ⊢
  clear he hs hF hlen
  go_enter Tryz.func236, Tryz.ntmps236
  go_wp2_with fail
  refine (HCF.out _).mono ?_
  rintro e w1 ⟨rfl, hb⟩
  have hbw : Below w.heap.size w w1 := ((Below.refl _ w).alloc (Nat.le_refl _) _).trans (hb.mono (by simp))
  have HB := Lib.hid hbw
  clear hb hbw hmf
  go_wp2
  go_ret
  exact ⟨rfl, HB.out⟩
end Go.Proofs.YtpincofjopmaaaaGreatDoor
namespace Go.Proofs.YtpincofjopmaaaaGreatDoor
open Go.RowKit
set_option maxHeartbeats 2000000 in
set_option maxRecDepth 100000 in
theorem indexf_mth {A : Nat → Prop} (F : Nat) (caps : Array Value) (p : Mth → Bool) (l : List (Mth)) (sv : Value) (w : World) (he : ∀ args w, (callFunc F args).run Tryz.prog w = .ok (.enter F args) w)
    (hs : Src 7 MthR A w sv l) (hF : Tells MthR A F caps p l w) (hlen : l.length ≤ 9223372036854775807) :
    Calls Tryz.prog 224 #[sv, .func (.func F) #[] caps] w (Found (l.any p) w) := by
  have HF := Lib.hid hF
  have HE := Lib.hid he
  clear hF he
  rcases hs with ⟨ao, cp0, rfl, rfl⟩ | ⟨b, o, cap, rfl, _, hc⟩
  · go_enter Tryz.func224, Tryz.ntmps224
    go_wp2
    go_loopw [8] (fun v8 wr => v8 = .int .i64 0 ∧ wr = w) (fun _ _ => 0)
    case atStart => exact ⟨rfl, rfl⟩
    case round =>
      obtain ⟨rfl, rfl⟩ := hrel
      go_wp2
      go_ret
      exact ⟨-1, rfl, rfl, Below.refl _ _⟩
  · have HC := Lib.hid hc
    obtain ⟨n, hn⟩ : ∃ n, n = l.length := ⟨_, rfl⟩
    rw [← hn] at hlen ⊢
    have HN := Lib.hid hn
    clear hc hn
    go_enter Tryz.func224, Tryz.ntmps224
    go_wp2
    go_loopw [8] (fun v8 wr => ∃ k : Nat, k ≤ n ∧ v8 = .int .i64 k ∧ (l.take k).any p = false ∧ Below w.heap.size w wr) (fun v8 _ => n - (intOf v8).toNat)
    case atStart => exact ⟨0, Nat.zero_le _, rfl, by simp, Below.refl _ _⟩
    case round =>
      obtain ⟨k, hk, rfl, hall, hbw⟩ := hrel
      have HA := Lib.hid hall
      have HB := Lib.hid hbw
      clear hall hbw
      by_cases hlt : k < n
      · have hkl : k < l.length := by have := HN.out; omega
        obtain ⟨x, hx⟩ : ∃ x, l[k]? = some x := ⟨_, List.getElem?_eq_getElem hkl⟩
        have hoW := Only.ofBelow (S := fun _ => False) HB.out
        obtain ⟨v, hv, hsz, hcl⟩ := HC.out k x hx
        have HV := Lib.hid (MthR.st.keep hv hoW (fun _ _ => id))
        obtain ⟨_, _, _, rfl, ⟨po, pc, rfl⟩, ⟨co, cc, rfl⟩, ⟨ko, kc, rfl⟩⟩ := mth_shape hv
        have d0 : wr.cell? ⟨b, o + k * 7, none⟩ = some (.string (S x.name)) := hoW.cell (a := ⟨b, o + k * 7, none⟩) (hcl 0 _ rfl) id
        have d1 : wr.cell? ⟨b, o + k * 7 + 1, none⟩ = some (.slice po x.params.length pc) := hoW.cell (a := ⟨b, o + k * 7 + 1, none⟩) (hcl 1 _ rfl) id
        have d2 : wr.cell? ⟨b, o + k * 7 + 2, none⟩ = some (.string (S x.res)) := hoW.cell (a := ⟨b, o + k * 7 + 2, none⟩) (hcl 2 _ rfl) id
        have d3 : wr.cell? ⟨b, o + k * 7 + 3, none⟩ = some (.bool x.abs) := hoW.cell (a := ⟨b, o + k * 7 + 3, none⟩) (hcl 3 _ rfl) id
        have d4 : wr.cell? ⟨b, o + k * 7 + 4, none⟩ = some (.int .i64 x.loc) := hoW.cell (a := ⟨b, o + k * 7 + 4, none⟩) (hcl 4 _ rfl) id
        have d5 : wr.cell? ⟨b, o + k * 7 + 5, none⟩ = some (.slice co x.code.length cc) := hoW.cell (a := ⟨b, o + k * 7 + 5, none⟩) (hcl 5 _ rfl) id
        have d6 : wr.cell? ⟨b, o + k * 7 + 6, none⟩ = some (.slice ko x.cats.length kc) := hoW.cell (a := ⟨b, o + k * 7 + 6, none⟩) (hcl 6 _ rfl) id
        clear hcl hsz
        have HX := Lib.hid hx
        have hts := take_any_succ p l k x hx
        rw [HA.out, Bool.false_or] at hts
        have HTS := Lib.hid hts
        clear hx hkl hoW hts
        have hk0 : (0 : Int) ≤ k := by omega
        have hkn : (k : Int) < (n : Int) := by omega
        have he := HE.out
        go_wp2_with fail
        refine (HF.out k x _ wr HX.out HB.out HV.out).mono ?_
        rintro e w1 ⟨rfl, hb1⟩
        have hb2 : Below w.heap.size w w1 := HB.out.trans (hb1.mono HB.out.size)
        have HB2 := Lib.hid hb2
        clear hb1 hb2 he d0 d1 d2 d3 d4 d5 d6
        cases hp : p x with
        | true =>
          rw [hp] at HTS
          have hfin : l.any p = true := by
            rw [List.any_eq_true]
            exact ⟨x, List.mem_of_getElem? HX.out, hp⟩
          have HFI := Lib.hid hfin
          clear hp hfin
          go_wp2
          go_ret
          exact ⟨k, rfl, by rw [HFI.out]; simp, HB2.out⟩
        | false =>
          rw [hp] at HTS
          clear hp
          go_wp2
          go_roundw
          case rel => exact ⟨k + 1, by omega, by go_num, HTS.out, HB2.out⟩
          case measure => simp [intOf]; omega
      · obtain rfl : k = n := by omega
        have hfin : l.any p = false := by
          have h := HA.out
          rw [HN.out, List.take_of_length_le (Nat.le_refl _)] at h
          exact h
        have HFI := Lib.hid hfin
        clear hfin
        go_wp2
        go_ret
        exact ⟨-1, rfl, by rw [HFI.out]; rfl, HB.out⟩
set_option maxHeartbeats 400000 in
theorem contf_mth {A : Nat → Prop} (F : Nat) (caps : Array Value) (p : Mth → Bool) (l : List (Mth)) (sv : Value) (w : World) (he : ∀ args w, (callFunc F args).run Tryz.prog w = .ok (.enter F args) w)
    (hs : Src 7 MthR A w sv l) (hF : Tells MthR A F caps p l w) (hlen : l.length ≤ 9223372036854775807) :
    Calls Tryz.prog 159 #[sv, .func (.func F) #[] caps] w (Said (l.any p) w) := by
  have HI := Lib.hid (indexf_mth F caps p l sv w he hs hF hlen)
  obtain ⟨ao, cp, rfl⟩ := hs.shape
  generalize l.any p = f at HI ⊢
  generalize l.length = n at HI ⊢
  clear he hs hF hlen
  go_enter Tryz.func159, Tryz.ntmps159
  go_wp2_with fail
  refine HI.out.mono ?_
  rintro e w1 ⟨z, rfl, hz, hb⟩
  have HZ := Lib.hid hz
  have HB := Lib.hid hb
  clear hz hb
  go_wp2
  go_ret
  exact ⟨congrArg (fun q => Ending.returned (.bool q)) HZ.out, HB.out⟩
set_option maxHeartbeats 2000000 in
set_option maxRecDepth 100000 in
theorem all1_mth (F : Nat) (caps : Array Value) (c : Nat) (x : Mth) (v : Value) (r : Bool) (w : World) (he : ∀ args w, (callFunc F args).run Tryz.prog w = .ok (.enter F args) w)
    (A : Nat → Prop) (w0 : World) (hv : MthR A w0 x v) (hc : w.cell? ⟨c, 0, none⟩ = some (.func (.func F) #[] caps)) (hF : ∀ w', Below w.heap.size w w' → Calls Tryz.prog F (#[v] ++ caps) w' (Said r w')) :
    Calls Tryz.prog 175 #[v, .pointer (some ⟨c, 0, none⟩)] w (Said (!r) w) := by
  obtain ⟨_, _, _, rfl, ⟨po, pc, rfl⟩, ⟨co, cc, rfl⟩, ⟨ko, kc, rfl⟩⟩ := mth_shape hv
  have HF := Lib.hid hF
  have hlt : c < w.heap.size := World.block_lt_of_cell? w _ hc
  have hcA : ∀ o : Obj, (w.alloc o).cell? ⟨c, 0, none⟩ = some (.func (.func F) #[] caps) := fun o => ((Only.refl (fun _ => False) w).alloc o).cell hc id
  clear hc
  clear hF
  go_enter Tryz.func175, Tryz.ntmps175
  go_wp2_with fail
  refine (HF.out _ ((Below.refl _ w).alloc (Nat.le_refl _) _)).mono ?_
  rintro e w1 ⟨rfl, hb⟩
  clear hcA he
  go_wp2
  go_ret
  exact ⟨rfl, ((Below.refl _ w).alloc (Nat.le_refl _) _).trans (hb.mono (by simp))⟩
set_option maxHeartbeats 2000000 in
set_option maxRecDepth 100000 in
theorem all_mth {A : Nat → Prop} (F : Nat) (caps : Array Value) (p : Mth → Bool) (l : List (Mth)) (sv : Value) (w : World) (he : ∀ args w, (callFunc F args).run Tryz.prog w = .ok (.enter F args) w)
    (hs : Src 7 MthR A w sv l) (hF : Tells MthR A F caps p l w) (hlen : l.length ≤ 9223372036854775807) :
    Calls Tryz.prog 102 #[sv, .func (.func F) #[] caps] w (Said (l.all p) w) := by
  have hmf : ∀ (fn : Fn) (first cap : Array Value) (w : World), (Instr.makeFunc fn first cap).run Tryz.prog w = .ok (.func fn first cap) w := fun _ _ _ _ => rfl
  rw [all_not_any]
  have HCF : Hid (∀ T : TypeId, Calls Tryz.prog 159 #[sv, .func (.func 175) #[] #[.pointer (some ⟨w.heap.size, 0, none⟩)]] (w.alloc (.cells #[.func (.func F) #[] caps] T)) (Said (l.any fun x => !p x) (w.alloc (.cells #[.func (.func F) #[] caps] T)))) := Lib.hid (fun T => by
    have hb0 : Below w.heap.size w (w.alloc (.cells #[.func (.func F) #[] caps] T)) := (Below.refl _ w).alloc (Nat.le_refl _) _
    refine contf_mth (A := A) 175 _ (fun x => !p x) l sv _ (enters_fn Tryz.func175 (by kernel_rfl) rfl) (MthR.st.below hs hb0) (fun k x v w' hx hb' hv => ?_) hlen
    have hc' : w'.cell? ⟨w.heap.size, 0, none⟩ = some (.func (.func F) #[] caps) := (Only.ofBelow (S := fun _ => False) hb').cell (by simp) id
    have hbw : Below w.heap.size w w' := hb0.trans (hb'.mono hb0.size)
    exact all1_mth F caps w.heap.size x _ (p x) w' he A w' hv hc' (fun w'' hb'' => hF k x _ w'' hx (hbw.trans (hb''.mono hbw.size)) (MthR.st.keep hv (Only.ofBelow (S := fun _ => False) hb'') (fun _ _ => id))))
  obtain ⟨ao, cp, rfl⟩ := hs.shape
  generalize (l.any fun x => !p x) = f at HCF ⊢
  generalize l.length = n at HCF ⊢
  clear he hs hF hlen
  go_enter Tryz.func102, Tryz.ntmps102
  go_wp2_with fail
  refine (HCF.out _).mono ?_
  rintro e w1 ⟨rfl, hb⟩
  have hbw : Below w.heap.size w w1 := ((Below.refl _ w).alloc (Nat.le_refl _) _).trans (hb.mono (by simp))
  have HB := Lib.hid hbw
  clear hb hbw hmf
  go_wp2
  go_ret
  exact ⟨rfl, HB.out⟩
set_option maxHeartbeats 2000000 in
set_option maxRecDepth 100000 in
theorem indexf_ins {A : Nat → Prop} (F : Nat) (caps : Array Value) (p : Ins → Bool) (l : List (Ins)) (sv : Value) (w : World) (he : ∀ args w, (callFunc F args).run Tryz.prog w = .ok (.enter F args) w)
    (hs : Src 3 InsR A w sv l) (hF : Tells InsR A F caps p l w) (hlen : l.length ≤ 9223372036854775807) :
    Calls Tryz.prog 278 #[sv, .func (.func F) #[] caps] w (Found (l.any p) w) := by
  have HF := Lib.hid hF
  have HE := Lib.hid he
  clear hF he
  rcases hs with ⟨ao, cp0, rfl, rfl⟩ | ⟨b, o, cap, rfl, _, hc⟩
  · go_enter Tryz.func278, Tryz.ntmps278
    go_wp2
    go_loopw [8] (fun v8 wr => v8 = .int .i64 0 ∧ wr = w) (fun _ _ => 0)
    case atStart => exact ⟨rfl, rfl⟩
    case round =>
      obtain ⟨rfl, rfl⟩ := hrel
      go_wp2
      go_ret
      exact ⟨-1, rfl, rfl, Below.refl _ _⟩
  · have HC := Lib.hid hc
    obtain ⟨n, hn⟩ : ∃ n, n = l.length := ⟨_, rfl⟩
    rw [← hn] at hlen ⊢
    have HN := Lib.hid hn
    clear hc hn
    go_enter Tryz.func278, Tryz.ntmps278
    go_wp2
    go_loopw [8] (fun v8 wr => ∃ k : Nat, k ≤ n ∧ v8 = .int .i64 k ∧ (l.take k).any p = false ∧ Below w.heap.size w wr) (fun v8 _ => n - (intOf v8).toNat)
    case atStart => exact ⟨0, Nat.zero_le _, rfl, by simp, Below.refl _ _⟩
    case round =>
      obtain ⟨k, hk, rfl, hall, hbw⟩ := hrel
      have HA := Lib.hid hall
      have HB := Lib.hid hbw
      clear hall hbw
      by_cases hlt : k < n
      · have hkl : k < l.length := by have := HN.out; omega
        obtain ⟨x, hx⟩ : ∃ x, l[k]? = some x := ⟨_, List.getElem?_eq_getElem hkl⟩
        have hoW := Only.ofBelow (S := fun _ => False) HB.out
        obtain ⟨v, hv, hsz, hcl⟩ := HC.out k x hx
        have HV := Lib.hid (InsR.st.keep hv hoW (fun _ _ => id))
        obtain rfl := hv
        have d0 : wr.cell? ⟨b, o + k * 3, none⟩ = some (.string (S x.op)) := hoW.cell (a := ⟨b, o + k * 3, none⟩) (hcl 0 _ rfl) id
        have d1 : wr.cell? ⟨b, o + k * 3 + 1, none⟩ = some (.int .i64 x.n) := hoW.cell (a := ⟨b, o + k * 3 + 1, none⟩) (hcl 1 _ rfl) id
        have d2 : wr.cell? ⟨b, o + k * 3 + 2, none⟩ = some (.string (S x.s)) := hoW.cell (a := ⟨b, o + k * 3 + 2, none⟩) (hcl 2 _ rfl) id
        clear hcl hsz
        have HX := Lib.hid hx
        have hts := take_any_succ p l k x hx
        rw [HA.out, Bool.false_or] at hts
        have HTS := Lib.hid hts
        clear hx hkl hoW hts
        have hk0 : (0 : Int) ≤ k := by omega
        have hkn : (k : Int) < (n : Int) := by omega
        have he := HE.out
        go_wp2_with fail
        refine (HF.out k x _ wr HX.out HB.out HV.out).mono ?_
        rintro e w1 ⟨rfl, hb1⟩
        have hb2 : Below w.heap.size w w1 := HB.out.trans (hb1.mono HB.out.size)
        have HB2 := Lib.hid hb2
        clear hb1 hb2 he d0 d1 d2
        cases hp : p x with
        | true =>
          rw [hp] at HTS
          have hfin : l.any p = true := by
            rw [List.any_eq_true]
            exact ⟨x, List.mem_of_getElem? HX.out, hp⟩
          have HFI := Lib.hid hfin
          clear hp hfin
          go_wp2
          go_ret
          exact ⟨k, rfl, by rw [HFI.out]; simp, HB2.out⟩
        | false =>
          rw [hp] at HTS
          clear hp
          go_wp2
          go_roundw
          case rel => exact ⟨k + 1, by omega, by go_num, HTS.out, HB2.out⟩
          case measure => simp [intOf]; omega
      · obtain rfl : k = n := by omega
        have hfin : l.any p = false := by
          have h := HA.out
          rw [HN.out, List.take_of_length_le (Nat.le_refl _)] at h
          exact h
        have HFI := Lib.hid hfin
        clear hfin
        go_wp2
        go_ret
        exact ⟨-1, rfl, by rw [HFI.out]; rfl, HB.out⟩
set_option maxHeartbeats 400000 in
theorem contf_ins {A : Nat → Prop} (F : Nat) (caps : Array Value) (p : Ins → Bool) (l : List (Ins)) (sv : Value) (w : World) (he : ∀ args w, (callFunc F args).run Tryz.prog w = .ok (.enter F args) w)
    (hs : Src 3 InsR A w sv l) (hF : Tells InsR A F caps p l w) (hlen : l.length ≤ 9223372036854775807) :
    Calls Tryz.prog 264 #[sv, .func (.func F) #[] caps] w (Said (l.any p) w) := by
  have HI := Lib.hid (indexf_ins F caps p l sv w he hs hF hlen)
  obtain ⟨ao, cp, rfl⟩ := hs.shape
  generalize l.any p = f at HI ⊢
  generalize l.length = n at HI ⊢
  clear he hs hF hlen
  go_enter Tryz.func264, Tryz.ntmps264
  go_wp2_with fail
  refine HI.out.mono ?_
  rintro e w1 ⟨z, rfl, hz, hb⟩
  have HZ := Lib.hid hz
  have HB := Lib.hid hb
  clear hz hb
  go_wp2
  go_ret
  exact ⟨congrArg (fun q => Ending.returned (.bool q)) HZ.out, HB.out⟩
set_option maxHeartbeats 2000000 in
set_option maxRecDepth 100000 in
theorem all1_ins (F : Nat) (caps : Array Value) (c : Nat) (x : Ins) (v : Value) (r : Bool) (w : World) (he : ∀ args w, (callFunc F args).run Tryz.prog w = .ok (.enter F args) w)
    (A : Nat → Prop) (w0 : World) (hv : InsR A w0 x v) (hc : w.cell? ⟨c, 0, none⟩ = some (.func (.func F) #[] caps)) (hF : ∀ w', Below w.heap.size w w' → Calls Tryz.prog F (#[v] ++ caps) w' (Said r w')) :
    Calls Tryz.prog 265 #[v, .pointer (some ⟨c, 0, none⟩)] w (Said (!r) w) := by
  obtain rfl := hv
  have HF := Lib.hid hF
  have hlt : c < w.heap.size := World.block_lt_of_cell? w _ hc
  have hcA : ∀ o : Obj, (w.alloc o).cell? ⟨c, 0, none⟩ = some (.func (.func F) #[] caps) := fun o => ((Only.refl (fun _ => False) w).alloc o).cell hc id
  clear hc
  clear hF
  go_enter Tryz.func265, Tryz.ntmps265
  go_wp2_with fail
  refine (HF.out _ ((Below.refl _ w).alloc (Nat.le_refl _) _)).mono ?_
  rintro e w1 ⟨rfl, hb⟩
  clear hcA he
  go_wp2
  go_ret
  exact ⟨rfl, ((Below.refl _ w).alloc (Nat.le_refl _) _).trans (hb.mono (by simp))⟩
set_option maxHeartbeats 2000000 in
set_option maxRecDepth 100000 in
theorem all_ins {A : Nat → Prop} (F : Nat) (caps : Array Value) (p : Ins → Bool) (l : List (Ins)) (sv : Value) (w : World) (he : ∀ args w, (callFunc F args).run Tryz.prog w = .ok (.enter F args) w)
    (hs : Src 3 InsR A w sv l) (hF : Tells InsR A F caps p l w) (hlen : l.length ≤ 9223372036854775807) :
    Calls Tryz.prog 234 #[sv, .func (.func F) #[] caps] w (Said (l.all p) w) := by
  have hmf : ∀ (fn : Fn) (first cap : Array Value) (w : World), (Instr.makeFunc fn first cap).run Tryz.prog w = .ok (.func fn first cap) w := fun _ _ _ _ => rfl
  rw [all_not_any]
  have HCF : Hid (∀ T : TypeId, Calls Tryz.prog 264 #[sv, .func (.func 265) #[] #[.pointer (some ⟨w.heap.size, 0, none⟩)]] (w.alloc (.cells #[.func (.func F) #[] caps] T)) (Said (l.any fun x => !p x) (w.alloc (.cells #[.func (.func F) #[] caps] T)))) := Lib.hid (fun T => by
    have hb0 : Below w.heap.size w (w.alloc (.cells #[.func (.func F) #[] caps] T)) := (Below.refl _ w).alloc (Nat.le_refl _) _
    refine contf_ins (A := A) 265 _ (fun x => !p x) l sv _ (enters_fn Tryz.func265 (by kernel_rfl) rfl) (InsR.st.below hs hb0) (fun k x v w' hx hb' hv => ?_) hlen
    have hc' : w'.cell? ⟨w.heap.size, 0, none⟩ = some (.func (.func F) #[] caps) := (Only.ofBelow (S := fun _ => False) hb').cell (by simp) id
    have hbw : Below w.heap.size w w' := hb0.trans (hb'.mono hb0.size)
    exact all1_ins F caps w.heap.size x _ (p x) w' he A w' hv hc' (fun w'' hb'' => hF k x _ w'' hx (hbw.trans (hb''.mono hbw.size)) (InsR.st.keep hv (Only.ofBelow (S := fun _ => False) hb'') (fun _ _ => id))))
  obtain ⟨ao, cp, rfl⟩ := hs.shape
  generalize (l.any fun x => !p x) = f at HCF ⊢
  generalize l.length = n at HCF ⊢
  clear he hs hF hlen
  go_enter Tryz.func234, Tryz.ntmps234
  go_wp2_with fail
  refine (HCF.out _).mono ?_
  rintro e w1 ⟨rfl, hb⟩
  have hbw : Below w.heap.size w w1 := ((Below.refl _ w).alloc (Nat.le_refl _) _).trans (hb.mono (by simp))
  have HB := Lib.hid hbw
  clear hb hbw hmf
  go_wp2
  go_ret
  exact ⟨rfl, HB.out⟩
end Go.Proofs.YtpincofjopmaaaaGreatDoor
