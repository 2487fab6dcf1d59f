/-
  The contracts of slices.IndexFunc and slices.ContainsFunc and of package class's all, at slices of texts, fields and catches, at whatever function they are handed.
  Conditions: the elements lie in memory that was there before; the function answers, and changes nothing that was there before.
  Plain mathematics of layer 4: the forty-two operators, where a name stands among them, what each has.
  Conditions: none; the last laws speak of how the program's table is read at an index.
  Strings and bytes: a list of bytes as a string, conversions there and back.
  Conditions: none of its own.
-/
import Derived.Test.YtpincofjopmaaaaGreatDoorM02
import Derived.Test.YtpincofjopmaaaaGreatDoorM04
import Derived.Test.YtpincofjopmaaaaGreatDoorM01
import Derived.Test.YtpincofjopmaaaaGreatDoorProg
import Derived.KernelRfl
import Derived.Laws.BytesArg
import Derived.Lib.Bytes
import Derived.Lib.ConvBytes
namespace Go.Proofs.YtpincofjopmaaaaGreatDoor
open Go.RowKit
/-- What a function handed to a search answers of each element. -/
def Tells {α : Type} (R : ElemRel α) (A : Nat → Prop) (F : Nat) (caps : Array Value) (p : α → Bool) (l : List α) (w : World) : Prop :=
  ∀ (k : Nat) (x : α) (v : Value) (w' : World), l[k]? = some x → Below w.heap.size w w' → R A w' x v → Calls Tryz.prog F (#[v] ++ caps) w' (Said (p x) w')
def Found (f : Bool) (w : World) (e : Ending) (w' : World) : Prop := ∃ z : Int, e = .returned (.int .i64 z) ∧ decide (0 ≤ z) = f ∧ Below w.heap.size w w'
set_option maxHeartbeats 2000000 in
set_option maxRecDepth 100000 in
theorem indexf_str {A : Nat → Prop} (F : Nat) (caps : Array Value) (p : List UInt8 → Bool) (l : List (List UInt8)) (sv : Value) (w : World) (he : ∀ args w, (callFunc F args).run Tryz.prog w = .ok (.enter F args) w)
    (hs : Src 1 StrR A w sv l) (hF : Tells StrR A F caps p l w) (hlen : l.length ≤ 9223372036854775807) :
    Calls Tryz.prog 243 #[sv, .func (.func F) #[] caps] w (Found (l.any p) w) := by
  have HF := Lib.hid hF
  have HE := Lib.hid he
  clear hF he
  rcases hs with ⟨ao, cp0, rfl, rfl⟩ | ⟨b, o, cap, rfl, _, hc⟩
  · go_enter Tryz.func243, Tryz.ntmps243
    go_wp2
    go_loopw [8] (fun v8 wr => v8 = .int .i64 0 ∧ wr = w) (fun _ _ => 0)
    case atStart => exact ⟨rfl, rfl⟩
    case round =>
      obtain ⟨rfl, rfl⟩ := hrel
      go_wp2
      go_ret
      exact ⟨-1, rfl, rfl, Below.refl _ _⟩
  · have HC := Lib.hid hc
    obtain ⟨n, hn⟩ : ∃ n, n = l.length := ⟨_, rfl⟩
    rw [← hn] at hlen ⊢
    have HN := Lib.hid hn
    clear hc hn
    go_enter Tryz.func243, Tryz.ntmps243
    go_wp2
    go_loopw [8] (fun v8 wr => ∃ k : Nat, k ≤ n ∧ v8 = .int .i64 k ∧ (l.take k).any p = false ∧ Below w.heap.size w wr) (fun v8 _ => n - (intOf v8).toNat)
    case atStart => exact ⟨0, Nat.zero_le _, rfl, by simp, Below.refl _ _⟩
    case round =>
      obtain ⟨k, hk, rfl, hall, hbw⟩ := hrel
      have HA := Lib.hid hall
      have HB := Lib.hid hbw
      clear hall hbw
      by_cases hlt : k < n
      · have hkl : k < l.length := by have := HN.out; omega
        obtain ⟨x, hx⟩ : ∃ x, l[k]? = some x := ⟨_, List.getElem?_eq_getElem hkl⟩
        have hoW := Only.ofBelow (S := fun _ => False) HB.out
        obtain ⟨v, hv, hsz, hcl⟩ := HC.out k x hx
        have HV := Lib.hid (StrR.st.keep hv hoW (fun _ _ => id))
        obtain rfl := hv
        have d0 : wr.cell? ⟨b, o + k, none⟩ = some (.string (S x)) := hoW.cell (a := ⟨b, o + k, none⟩) (by have q := hcl 0 _ rfl; rw [Nat.mul_one] at q; exact q) id
        clear hcl hsz
        have HX := Lib.hid hx
        have hts := take_any_succ p l k x hx
        rw [HA.out, Bool.false_or] at hts
        have HTS := Lib.hid hts
        clear hx hkl hoW hts
        have hk0 : (0 : Int) ≤ k := by omega
        have hkn : (k : Int) < (n : Int) := by omega
        have he := HE.out
        go_wp2_with fail
        refine (HF.out k x _ wr HX.out HB.out HV.out).mono ?_
        rintro e w1 ⟨rfl, hb1⟩
        have hb2 : Below w.heap.size w w1 := HB.out.trans (hb1.mono HB.out.size)
        have HB2 := Lib.hid hb2
        clear hb1 hb2 he d0
        cases hp : p x with
        | true =>
          rw [hp] at HTS
          have hfin : l.any p = true := by
            rw [List.any_eq_true]
            exact ⟨x, List.mem_of_getElem? HX.out, hp⟩
          have HFI := Lib.hid hfin
          clear hp hfin
          go_wp2
          go_ret
          exact ⟨k, rfl, by rw [HFI.out]; simp, HB2.out⟩
        | false =>
          rw [hp] at HTS
          clear hp
          go_wp2
          go_roundw
          case rel => exact ⟨k + 1, by omega, by go_num, HTS.out, HB2.out⟩
          case measure => simp [intOf]; omega
      · obtain rfl : k = n := by omega
        have hfin : l.any p = false := by
          have h := HA.out
          rw [HN.out, List.take_of_length_le (Nat.le_refl _)] at h
          exact h
        have HFI := Lib.hid hfin
        clear hfin
        go_wp2
        go_ret
        exact ⟨-1, rfl, by rw [HFI.out]; rfl, HB.out⟩
set_option maxHeartbeats 400000 in
theorem contf_str {A : Nat → Prop} (F : Nat) (caps : Array Value) (p : List UInt8 → Bool) (l : List (List UInt8)) (sv : Value) (w : World) (he : ∀ args w, (callFunc F args).run Tryz.prog w = .ok (.enter F args) w)
    (hs : Src 1 StrR A w sv l) (hF : Tells StrR A F caps p l w) (hlen : l.length ≤ 9223372036854775807) :
    Calls Tryz.prog 189 #[sv, .func (.func F) #[] caps] w (Said (l.any p) w) := by
  have HI := Lib.hid (indexf_str F caps p l sv w he hs hF hlen)
  obtain ⟨ao, cp, rfl⟩ := hs.shape
  generalize l.any p = f at HI ⊢
  generalize l.length = n at HI ⊢
  clear he hs hF hlen
  go_enter Tryz.func189, Tryz.ntmps189
  go_wp2_with fail
  refine HI.out.mono ?_
  rintro e w1 ⟨z, rfl, hz, hb⟩
  have HZ := Lib.hid hz
  have HB := Lib.hid hb
  clear hz hb
  go_wp2
  go_ret
  exact ⟨congrArg (fun q => Ending.returned (.bool q)) HZ.out, HB.out⟩
set_option maxHeartbeats 2000000 in
set_option maxRecDepth 100000 in
theorem all1_str (F : Nat) (caps : Array Value) (c : Nat) (x : List UInt8) (v : Value) (r : Bool) (w : World) (he : ∀ args w, (callFunc F args).run Tryz.prog w = .ok (.enter F args) w)
    (A : Nat → Prop) (w0 : World) (hv : StrR A w0 x v) (hc : w.cell? ⟨c, 0, none⟩ = some (.func (.func F) #[] caps)) (hF : ∀ w', Below w.heap.size w w' → Calls Tryz.prog F (#[v] ++ caps) w' (Said r w')) :
    Calls Tryz.prog 228 #[v, .pointer (some ⟨c, 0, none⟩)] w (Said (!r) w) := by
  obtain rfl := hv
  have HF := Lib.hid hF
  have hlt : c < w.heap.size := World.block_lt_of_cell? w _ hc
  clear hF
  go_enter Tryz.func228, Tryz.ntmps228
  go_wp2_with fail
  refine (HF.out _ (Below.refl _ w)).mono ?_
  rintro e w1 ⟨rfl, hb⟩
  clear hc he
  go_wp2
  go_ret
  exact ⟨rfl, hb⟩
set_option maxHeartbeats 2000000 in
set_option maxRecDepth 100000 in
theorem all_str {A : Nat → Prop} (F : Nat) (caps : Array Value) (p : List UInt8 → Bool) (l : List (List UInt8)) (sv : Value) (w : World) (he : ∀ args w, (callFunc F args).run Tryz.prog w = .ok (.enter F args) w)
    (hs : Src 1 StrR A w sv l) (hF : Tells StrR A F caps p l w) (hlen : l.length ≤ 9223372036854775807) :
    Calls Tryz.prog 163 #[sv, .func (.func F) #[] caps] w (Said (l.all p) w) := by
  have hmf : ∀ (fn : Fn) (first cap : Array Value) (w : World), (Instr.makeFunc fn first cap).run Tryz.prog w = .ok (.func fn first cap) w := fun _ _ _ _ => rfl
  rw [all_not_any]
  have HCF : Hid (∀ T : TypeId, Calls Tryz.prog 189 #[sv, .func (.func 228) #[] #[.pointer (some ⟨w.heap.size, 0, none⟩)]] (w.alloc (.cells #[.func (.func F) #[] caps] T)) (Said (l.any fun x => !p x) (w.alloc (.cells #[.func (.func F) #[] caps] T)))) := Lib.hid (fun T => by
    have hb0 : Below w.heap.size w (w.alloc (.cells #[.func (.func F) #[] caps] T)) := (Below.refl _ w).alloc (Nat.le_refl _) _
    refine contf_str (A := A) 228 _ (fun x => !p x) l sv _ (enters_fn Tryz.func228 (by kernel_rfl) rfl) (StrR.st.below hs hb0) (fun k x v w' hx hb' hv => ?_) hlen
    have hc' : w'.cell? ⟨w.heap.size, 0, none⟩ = some (.func (.func F) #[] caps) := (Only.ofBelow (S := fun _ => False) hb').cell (by simp) id
    have hbw : Below w.heap.size w w' := hb0.trans (hb'.mono hb0.size)
    exact all1_str F caps w.heap.size x _ (p x) w' he A w' hv hc' (fun w'' hb'' => hF k x _ w'' hx (hbw.trans (hb''.mono hbw.size)) (StrR.st.keep hv (Only.ofBelow (S := fun _ => False) hb'') (fun _ _ => id))))
  obtain ⟨ao, cp, rfl⟩ := hs.shape
  generalize (l.any fun x => !p x) = f at HCF ⊢
  generalize l.length = n at HCF ⊢
  clear he hs hF hlen
  go_enter Tryz.func163, Tryz.ntmps163
  go_wp2_with fail
  refine (HCF.out _).mono ?_
  rintro e w1 ⟨rfl, hb⟩
  have hbw : Below w.heap.size w w1 := ((Below.refl _ w).alloc (Nat.le_refl _) _).trans (hb.mono (by simp))
  have HB := Lib.hid hbw
  clear hb hbw hmf
  go_wp2
  go_ret
  exact ⟨rfl, HB.out⟩
set_option maxHeartbeats 2000000 in
set_option maxRecDepth 100000 in
theorem indexf_fld {A : Nat → Prop} (F : Nat) (caps : Array Value) (p : Fld → Bool) (l : List (Fld)) (sv : Value) (w : World) (he : ∀ args w, (callFunc F args).run Tryz.prog w = .ok (.enter F args) w)
    (hs : Src 3 FldR A w sv l) (hF : Tells FldR A F caps p l w) (hlen : l.length ≤ 9223372036854775807) :
    Calls Tryz.prog 88 #[sv, .func (.func F) #[] caps] w (Found (l.any p) w) := by
  have HF := Lib.hid hF
  have HE := Lib.hid he
  clear hF he
  rcases hs with ⟨ao, cp0, rfl, rfl⟩ | ⟨b, o, cap, rfl, _, hc⟩
  · go_enter Tryz.func88, Tryz.ntmps88
    go_wp2
    go_loopw [8] (fun v8 wr => v8 = .int .i64 0 ∧ wr = w) (fun _ _ => 0)
    case atStart => exact ⟨rfl, rfl⟩
    case round =>
      obtain ⟨rfl, rfl⟩ := hrel
      go_wp2
      go_ret
      exact ⟨-1, rfl, rfl, Below.refl _ _⟩
  · have HC := Lib.hid hc
    obtain ⟨n, hn⟩ : ∃ n, n = l.length := ⟨_, rfl⟩
    rw [← hn] at hlen ⊢
    have HN := Lib.hid hn
    clear hc hn
    go_enter Tryz.func88, Tryz.ntmps88
    go_wp2
    go_loopw [8] (fun v8 wr => ∃ k : Nat, k ≤ n ∧ v8 = .int .i64 k ∧ (l.take k).any p = false ∧ Below w.heap.size w wr) (fun v8 _ => n - (intOf v8).toNat)
    case atStart => exact ⟨0, Nat.zero_le _, rfl, by simp, Below.refl _ _⟩
    case round =>
      obtain ⟨k, hk, rfl, hall, hbw⟩ := hrel
      have HA := Lib.hid hall
      have HB := Lib.hid hbw
      clear hall hbw
      by_cases hlt : k < n
      · have hkl : k < l.length := by have := HN.out; omega
        obtain ⟨x, hx⟩ : ∃ x, l[k]? = some x := ⟨_, List.getElem?_eq_getElem hkl⟩
        have hoW := Only.ofBelow (S := fun _ => False) HB.out
        obtain ⟨v, hv, hsz, hcl⟩ := HC.out k x hx
        have HV := Lib.hid (FldR.st.keep hv hoW (fun _ _ => id))
        obtain rfl := hv
        have d0 : wr.cell? ⟨b, o + k * 3, none⟩ = some (.string (S x.name)) := hoW.cell (a := ⟨b, o + k * 3, none⟩) (hcl 0 _ rfl) id
        have d1 : wr.cell? ⟨b, o + k * 3 + 1, none⟩ = some (.string (S x.kind)) := hoW.cell (a := ⟨b, o + k * 3 + 1, none⟩) (hcl 1 _ rfl) id
        have d2 : wr.cell? ⟨b, o + k * 3 + 2, none⟩ = some (.bool x.tr) := hoW.cell (a := ⟨b, o + k * 3 + 2, none⟩) (hcl 2 _ rfl) id
        clear hcl hsz
        have HX := Lib.hid hx
        have hts := take_any_succ p l k x hx
        rw [HA.out, Bool.false_or] at hts
        have HTS := Lib.hid hts
        clear hx hkl hoW hts
        have hk0 : (0 : Int) ≤ k := by omega
        have hkn : (k : Int) < (n : Int) := by omega
        have he := HE.out
        go_wp2_with fail
        refine (HF.out k x _ wr HX.out HB.out HV.out).mono ?_
        rintro e w1 ⟨rfl, hb1⟩
        have hb2 : Below w.heap.size w w1 := HB.out.trans (hb1.mono HB.out.size)
        have HB2 := Lib.hid hb2
        clear hb1 hb2 he d0 d1 d2
        cases hp : p x with
        | true =>
          rw [hp] at HTS
          have hfin : l.any p = true := by
            rw [List.any_eq_true]
            exact ⟨x, List.mem_of_getElem? HX.out, hp⟩
          have HFI := Lib.hid hfin
          clear hp hfin
          go_wp2
          go_ret
          exact ⟨k, rfl, by rw [HFI.out]; simp, HB2.out⟩
        | false =>
          rw [hp] at HTS
          clear hp
          go_wp2
          go_roundw
          case rel => exact ⟨k + 1, by omega, by go_num, HTS.out, HB2.out⟩
          case measure => simp [intOf]; omega
      · obtain rfl : k = n := by omega
        have hfin : l.any p = false := by
          have h := HA.out
          rw [HN.out, List.take_of_length_le (Nat.le_refl _)] at h
          exact h
        have HFI := Lib.hid hfin
        clear hfin
        go_wp2
        go_ret
        exact ⟨-1, rfl, by rw [HFI.out]; rfl, HB.out⟩
set_option maxHeartbeats 400000 in
theorem contf_fld {A : Nat → Prop} (F : Nat) (caps : Array Value) (p : Fld → Bool) (l : List (Fld)) (sv : Value) (w : World) (he : ∀ args w, (callFunc F args).run Tryz.prog w = .ok (.enter F args) w)
    (hs : Src 3 FldR A w sv l) (hF : Tells FldR A F caps p l w) (hlen : l.length ≤ 9223372036854775807) :
    Calls Tryz.prog 117 #[sv, .func (.func F) #[] caps] w (Said (l.any p) w) := by
  have HI := Lib.hid (indexf_fld F caps p l sv w he hs hF hlen)
  obtain ⟨ao, cp, rfl⟩ := hs.shape
  generalize l.any p = f at HI ⊢
  generalize l.length = n at HI ⊢
  clear he hs hF hlen
  go_enter Tryz.func117, Tryz.ntmps117
  go_wp2_with fail
  refine HI.out.mono ?_
  rintro e w1 ⟨z, rfl, hz, hb⟩
  have HZ := Lib.hid hz
  have HB := Lib.hid hb
  clear hz hb
  go_wp2
  go_ret
  exact ⟨congrArg (fun q => Ending.returned (.bool q)) HZ.out, HB.out⟩
set_option maxHeartbeats 2000000 in
set_option maxRecDepth 100000 in
theorem all1_fld (F : Nat) (caps : Array Value) (c : Nat) (x : Fld) (v : Value) (r : Bool) (w : World) (he : ∀ args w, (callFunc F args).run Tryz.prog w = .ok (.enter F args) w)
    (A : Nat → Prop) (w0 : World) (hv : FldR A w0 x v) (hc : w.cell? ⟨c, 0, none⟩ = some (.func (.func F) #[] caps)) (hF : ∀ w', Below w.heap.size w w' → Calls Tryz.prog F (#[v] ++ caps) w' (Said r w')) :
    Calls Tryz.prog 172 #[v, .pointer (some ⟨c, 0, none⟩)] w (Said (!r) w) := by
  obtain rfl := hv
  have HF := Lib.hid hF
  have hlt : c < w.heap.size := World.block_lt_of_cell? w _ hc
  have hcA : ∀ o : Obj, (w.alloc o).cell? ⟨c, 0, none⟩ = some (.func (.func F) #[] caps) := fun o => ((Only.refl (fun _ => False) w).alloc o).cell hc id
  clear hc
  clear hF
  go_enter Tryz.func172, Tryz.ntmps172
  go_wp2_with fail
  refine (HF.out _ ((Below.refl _ w).alloc (Nat.le_refl _) _)).mono ?_
  rintro e w1 ⟨rfl, hb⟩
  clear hcA he
  go_wp2
  go_ret
  exact ⟨rfl, ((Below.refl _ w).alloc (Nat.le_refl _) _).trans (hb.mono (by simp))⟩
set_option maxHeartbeats 2000000 in
set_option maxRecDepth 100000 in
theorem all_fld {A : Nat → Prop} (F : Nat) (caps : Array Value) (p : Fld → Bool) (l : List (Fld)) (sv : Value) (w : World) (he : ∀ args w, (callFunc F args).run Tryz.prog w = .ok (.enter F args) w)
    (hs : Src 3 FldR A w sv l) (hF : Tells FldR A F caps p l w) (hlen : l.length ≤ 9223372036854775807) :
    Calls Tryz.prog 100 #[sv, .func (.func F) #[] caps] w (Said (l.all p) w) := by
  have hmf : ∀ (fn : Fn) (first cap : Array Value) (w : World), (Instr.makeFunc fn first cap).run Tryz.prog w = .ok (.func fn first cap) w := fun _ _ _ _ => rfl
  rw [all_not_any]
  have HCF : Hid (∀ T : TypeId, Calls Tryz.prog 117 #[sv, .func (.func 172) #[] #[.pointer (some ⟨w.heap.size, 0, none⟩)]] (w.alloc (.cells #[.func (.func F) #[] caps] T)) (Said (l.any fun x => !p x) (w.alloc (.cells #[.func (.func F) #[] caps] T)))) := Lib.hid (fun T => by
    have hb0 : Below w.heap.size w (w.alloc (.cells #[.func (.func F) #[] caps] T)) := (Below.refl _ w).alloc (Nat.le_refl _) _
    refine contf_fld (A := A) 172 _ (fun x => !p x) l sv _ (enters_fn Tryz.func172 (by kernel_rfl) rfl) (FldR.st.below hs hb0) (fun k x v w' hx hb' hv => ?_) hlen
    have hc' : w'.cell? ⟨w.heap.size, 0, none⟩ = some (.func (.func F) #[] caps) := (Only.ofBelow (S := fun _ => False) hb').cell (by simp) id
    have hbw : Below w.heap.size w w' := hb0.trans (hb'.mono hb0.size)
    exact all1_fld F caps w.heap.size x _ (p x) w' he A w' hv hc' (fun w'' hb'' => hF k x _ w'' hx (hbw.trans (hb''.mono hbw.size)) (FldR.st.keep hv (Only.ofBelow (S := fun _ => False) hb'') (fun _ _ => id))))
  obtain ⟨ao, cp, rfl⟩ := hs.shape
  generalize (l.any fun x => !p x) = f at HCF ⊢
  generalize l.length = n at HCF ⊢
  clear he hs hF hlen
  go_enter Tryz.func100, Tryz.ntmps100
  go_wp2_with fail
  refine (HCF.out _).mono ?_
  rintro e w1 ⟨rfl, hb⟩
  have hbw : Below w.heap.size w w1 := ((Below.refl _ w).alloc (Nat.le_refl _) _).trans (hb.mono (by simp))
  have HB := Lib.hid hbw
  clear hb hbw hmf
  go_wp2
  go_ret
  exact ⟨rfl, HB.out⟩
set_option maxHeartbeats 2000000 in
set_option maxRecDepth 100000 in
theorem indexf_cat {A : Nat → Prop} (F : Nat) (caps : Array Value) (p : Cat → Bool) (l : List (Cat)) (sv : Value) (w : World) (he : ∀ args w, (callFunc F args).run Tryz.prog w = .ok (.enter F args) w)
    (hs : Src 4 CatR A w sv l) (hF : Tells CatR A F caps p l w) (hlen : l.length ≤ 9223372036854775807) :
    Calls Tryz.prog 280 #[sv, .func (.func F) #[] caps] w (Found (l.any p) w) := by
  have HF := Lib.hid hF
  have HE := Lib.hid he
  clear hF he
  rcases hs with ⟨ao, cp0, rfl, rfl⟩ | ⟨b, o, cap, rfl, _, hc⟩
  · go_enter Tryz.func280, Tryz.ntmps280
    go_wp2
    go_loopw [8] (fun v8 wr => v8 = .int .i64 0 ∧ wr = w) (fun _ _ => 0)
    case atStart => exact ⟨rfl, rfl⟩
    case round =>
      obtain ⟨rfl, rfl⟩ := hrel
      go_wp2
      go_ret
      exact ⟨-1, rfl, rfl, Below.refl _ _⟩
  · have HC := Lib.hid hc
    obtain ⟨n, hn⟩ : ∃ n, n = l.length := ⟨_, rfl⟩
    rw [← hn] at hlen ⊢
    have HN := Lib.hid hn
    clear hc hn
    go_enter Tryz.func280, Tryz.ntmps280
    go_wp2
    go_loopw [8] (fun v8 wr => ∃ k : Nat, k ≤ n ∧ v8 = .int .i64 k ∧ (l.take k).any p = false ∧ Below w.heap.size w wr) (fun v8 _ => n - (intOf v8).toNat)
    case atStart => exact ⟨0, Nat.zero_le _, rfl, by simp, Below.refl _ _⟩
    case round =>
      obtain ⟨k, hk, rfl, hall, hbw⟩ := hrel
      have HA := Lib.hid hall
      have HB := Lib.hid hbw
      clear hall hbw
      by_cases hlt : k < n
      · have hkl : k < l.length := by have := HN.out; omega
        obtain ⟨x, hx⟩ : ∃ x, l[k]? = some x := ⟨_, List.getElem?_eq_getElem hkl⟩
        have hoW := Only.ofBelow (S := fun _ => False) HB.out
        obtain ⟨v, hv, hsz, hcl⟩ := HC.out k x hx
        have HV := Lib.hid (CatR.st.keep hv hoW (fun _ _ => id))
        obtain rfl := hv
        have d0 : wr.cell? ⟨b, o + k * 4, none⟩ = some (.int .i64 x.fr) := hoW.cell (a := ⟨b, o + k * 4, none⟩) (hcl 0 _ rfl) id
        have d1 : wr.cell? ⟨b, o + k * 4 + 1, none⟩ = some (.int .i64 x.till) := hoW.cell (a := ⟨b, o + k * 4 + 1, none⟩) (hcl 1 _ rfl) id
        have d2 : wr.cell? ⟨b, o + k * 4 + 2, none⟩ = some (.int .i64 x.at_) := hoW.cell (a := ⟨b, o + k * 4 + 2, none⟩) (hcl 2 _ rfl) id
        have d3 : wr.cell? ⟨b, o + k * 4 + 3, none⟩ = some (.string (S x.cls)) := hoW.cell (a := ⟨b, o + k * 4 + 3, none⟩) (hcl 3 _ rfl) id
        clear hcl hsz
        have HX := Lib.hid hx
        have hts := take_any_succ p l k x hx
        rw [HA.out, Bool.false_or] at hts
        have HTS := Lib.hid hts
        clear hx hkl hoW hts
        have hk0 : (0 : Int) ≤ k := by omega
        have hkn : (k : Int) < (n : Int) := by omega
        have he := HE.out
        go_wp2_with fail
        refine (HF.out k x _ wr HX.out HB.out HV.out).mono ?_
        rintro e w1 ⟨rfl, hb1⟩
        have hb2 : Below w.heap.size w w1 := HB.out.trans (hb1.mono HB.out.size)
        have HB2 := Lib.hid hb2
        clear hb1 hb2 he d0 d1 d2 d3
        cases hp : p x with
        | true =>
          rw [hp] at HTS
          have hfin : l.any p = true := by
            rw [List.any_eq_true]
            exact ⟨x, List.mem_of_getElem? HX.out, hp⟩
          have HFI := Lib.hid hfin
          clear hp hfin
          go_wp2
          go_ret
          exact ⟨k, rfl, by rw [HFI.out]; simp, HB2.out⟩
        | false =>
          rw [hp] at HTS
          clear hp
          go_wp2
          go_roundw
          case rel => exact ⟨k + 1, by omega, by go_num, HTS.out, HB2.out⟩
          case measure => simp [intOf]; omega
      · obtain rfl : k = n := by omega
        have hfin : l.any p = false := by
          have h := HA.out
          rw [HN.out, List.take_of_length_le (Nat.le_refl _)] at h
          exact h
        have HFI := Lib.hid hfin
        clear hfin
        go_wp2
        go_ret
        exact ⟨-1, rfl, by rw [HFI.out]; rfl, HB.out⟩
set_option maxHeartbeats 400000 in
theorem contf_cat {A : Nat → Prop} (F : Nat) (caps : Array Value) (p : Cat → Bool) (l : List (Cat)) (sv : Value) (w : World) (he : ∀ args w, (callFunc F args).run Tryz.prog w = .ok (.enter F args) w)
    (hs : Src 4 CatR A w sv l) (hF : Tells CatR A F caps p l w) (hlen : l.length ≤ 9223372036854775807) :
    Calls Tryz.prog 267 #[sv, .func (.func F) #[] caps] w (Said (l.any p) w) := by
  have HI := Lib.hid (indexf_cat F caps p l sv w he hs hF hlen)
  obtain ⟨ao, cp, rfl⟩ := hs.shape
  generalize l.any p = f at HI ⊢
  generalize l.length = n at HI ⊢
  clear he hs hF hlen
  go_enter Tryz.func267, Tryz.ntmps267
  go_wp2_with fail
  refine HI.out.mono ?_
  rintro e w1 ⟨z, rfl, hz, hb⟩
  have HZ := Lib.hid hz
  have HB := Lib.hid hb
  clear hz hb
  go_wp2
  go_ret
  exact ⟨congrArg (fun q => Ending.returned (.bool q)) HZ.out, HB.out⟩
set_option maxHeartbeats 2000000 in
set_option maxRecDepth 100000 in
theorem all1_cat (F : Nat) (caps : Array Value) (c : Nat) (x : Cat) (v : Value) (r : Bool) (w : World) (he : ∀ args w, (callFunc F args).run Tryz.prog w = .ok (.enter F args) w)
    (A : Nat → Prop) (w0 : World) (hv : CatR A w0 x v) (hc : w.cell? ⟨c, 0, none⟩ = some (.func (.func F) #[] caps)) (hF : ∀ w', Below w.heap.size w w' → Calls Tryz.prog F (#[v] ++ caps) w' (Said r w')) :
    Calls Tryz.prog 268 #[v, .pointer (some ⟨c, 0, none⟩)] w (Said (!r) w) := by
  obtain rfl := hv
  have HF := Lib.hid hF
  have hlt : c < w.heap.size := World.block_lt_of_cell? w _ hc
  have hcA : ∀ o : Obj, (w.alloc o).cell? ⟨c, 0, none⟩ = some (.func (.func F) #[] caps) := fun o => ((Only.refl (fun _ => False) w).alloc o).cell hc id
  clear hc
  clear hF
  go_enter Tryz.func268, Tryz.ntmps268
  go_wp2_with fail
  refine (HF.out _ ((Below.refl _ w).alloc (Nat.le_refl _) _)).mono ?_
  rintro e w1 ⟨rfl, hb⟩
  clear hcA he
  go_wp2
  go_ret
  exact ⟨rfl, ((Below.refl _ w).alloc (Nat.le_refl _) _).trans (hb.mono (by simp))⟩
set_option maxHeartbeats 2000000 in
set_option maxRecDepth 100000 in
theorem all_cat {A : Nat → Prop} (F : Nat) (caps : Array Value) (p : Cat → Bool) (l : List (Cat)) (sv : Value) (w : World) (he : ∀ args w, (callFunc F args).run Tryz.prog w = .ok (.enter F args) w)
    (hs : Src 4 CatR A w sv l) (hF : Tells CatR A F caps p l w) (hlen : l.length ≤ 9223372036854775807) :
    Calls Tryz.prog 236 #[sv, .func (.func F) #[] caps] w (Said (l.all p) w) := by
  have hmf : ∀ (fn : Fn) (first cap : Array Value) (w : World), (Instr.makeFunc fn first cap).run Tryz.prog w = .ok (.func fn first cap) w := fun _ _ _ _ => rfl
  rw [all_not_any]
  have HCF : Hid (∀ T : TypeId, Calls Tryz.prog 267 #[sv, .func (.func 268) #[] #[.pointer (some ⟨w.heap.size, 0, none⟩)]] (w.alloc (.cells #[.func (.func F) #[] caps] T)) (Said (l.any fun x => !p x) (w.alloc (.cells #[.func (.func F) #[] caps] T)))) := Lib.hid (fun T => by
    have hb0 : Below w.heap.size w (w.alloc (.cells #[.func (.func F) #[] caps] T)) := (Below.refl _ w).alloc (Nat.le_refl _) _
    refine contf_cat (A := A) 268 _ (fun x => !p x) l sv _ (enters_fn Tryz.func268 (by kernel_rfl) rfl) (CatR.st.below hs hb0) (fun k x v w' hx hb' hv => ?_) hlen
    have hc' : w'.cell? ⟨w.heap.size, 0, none⟩ = some (.func (.func F) #[] caps) := (Only.ofBelow (S := fun _ => False) hb').cell (by simp) id
    have hbw : Below w.heap.size w w' := hb0.trans (hb'.mono hb0.size)
    exact all1_cat F caps w.heap.size x _ (p x) w' he A w' hv hc' (fun w'' hb'' => hF k x _ w'' hx (hbw.trans (hb''.mono hbw.size)) (CatR.st.keep hv (Only.ofBelow (S := fun _ => False) hb'') (fun _ _ => id))))
  obtain ⟨ao, cp, rfl⟩ := hs.shape
  generalize (l.any fun x => !p x) = f at HCF ⊢
  generalize l.length = n at HCF ⊢
  clear he hs hF hlen
  go_enter Tryz.func236, Tryz.ntmps236
  go_wp2_with fail
  refine (HCF.out _).mono ?_
  rintro e w1 ⟨rfl, hb⟩
  have hbw : Below w.heap.size w w1 := ((Below.refl _ w).alloc (Nat.le_refl _) _).trans (hb.mono (by simp))
  have HB := Lib.hid hbw
  clear hb hbw hmf
  go_wp2
  go_ret
  exact ⟨rfl, HB.out⟩
end Go.Proofs.YtpincofjopmaaaaGreatDoor
namespace Go.Proofs.YtpincofjopmaaaaGreatDoor
open Go.RowKit
/-- The operators in order: the name, and what it has (0 nothing, 1 a number, 2 a word, 3 a class, 4 a reference, 5 an element's kind, 6 a member). -/
def opTab : List (List UInt8 × Nat) := [
  ([105, 110, 116], 1),
  ([116, 114, 117, 101], 0),
  ([102, 97, 108, 115, 101], 0),
  ([119, 111, 114, 100], 2),
  ([110, 117, 108, 108], 0),
  ([108, 111, 97, 100], 1),
  ([115, 116, 111, 114, 101], 1),
  ([112, 111, 112], 0),
  ([100, 117, 112], 0),
  ([115, 119, 97, 112], 0),
  ([97, 100, 100], 0),
  ([115, 117, 98], 0),
  ([109, 117, 108], 0),
  ([100, 105, 118], 0),
  ([114, 101, 109], 0),
  ([110, 101, 103], 0),
  ([108, 101, 115, 115], 0),
  ([115, 97, 109, 101], 0),
  ([110, 111, 116], 0),
  ([98, 111, 116, 104], 0),
  ([106, 111, 105, 110], 0),
  ([115, 105, 122, 101], 0),
  ([106, 117, 109, 112], 1),
  ([98, 114, 97, 110, 99, 104], 1),
  ([110, 101, 119], 3),
  ([103, 101, 116], 6),
  ([112, 117, 116], 6),
  ([99, 97, 108, 108], 6),
  ([97, 114, 114, 97, 121], 5),
  ([97, 116], 0),
  ([115, 101, 116], 0),
  ([105, 115], 4),
  ([99, 97, 115, 116], 4),
  ([114, 101, 116, 117, 114, 110], 0),
  ([116, 104, 114, 111, 119], 0),
  ([111, 117, 116], 0),
  ([101, 113, 117, 97, 108], 0),
  ([97, 110, 100], 0),
  ([111, 114], 0),
  ([120, 111, 114], 0),
  ([115, 104, 108], 0),
  ([115, 104, 114], 0)]
def nameAt (k : Nat) : List UInt8 := (opTab.getD k ([], 0)).1
def hasAt (k : Nat) : Nat := (opTab.getD k ([], 0)).2
/-- Where a name stands; 42: nowhere. -/
def idx (s : List UInt8) : Nat := opTab.findIdx fun x => x.1 == s
def opCells : List Value := opTab.flatMap fun x => [.string (S x.1), .int .i64 (x.2 : Nat)]
theorem opTab_len : opTab.length = 42 := by decide
theorem idx_le (s : List UInt8) : idx s ≤ 42 := by
  have h := List.findIdx_le_length (xs := opTab) (p := fun x => x.1 == s)
  rw [opTab_len] at h
  exact h
theorem nameAt_get (k : Nat) (h : k < opTab.length) : nameAt k = opTab[k].1 := by
  unfold nameAt
  rw [List.getD_eq_getElem?_getD, List.getElem?_eq_getElem h]
  rfl
theorem idx_before (s : List UInt8) (j : Nat) (h : j < idx s) : (nameAt j == s) = false := by
  have hl : j < opTab.length := Nat.lt_of_lt_of_le h (by rw [opTab_len]; exact idx_le s)
  have h1 := List.not_of_lt_findIdx (p := fun x : List UInt8 × Nat => x.1 == s) (xs := opTab) h
  rw [nameAt_get j hl]
  simpa using h1
theorem idx_at (s : List UInt8) (h : idx s < 42) : (nameAt (idx s) == s) = true := by
  have hl : idx s < opTab.length := by rw [opTab_len]; exact h
  have h1 := List.findIdx_getElem (p := fun x : List UInt8 × Nat => x.1 == s) (xs := opTab) (w := hl)
  rw [nameAt_get _ hl]
  exact h1
theorem hasAt_le (k : Nat) : hasAt k ≤ 6 := by
  by_cases h : k < 42
  · exact (show ∀ k : Fin 42, hasAt k.val ≤ 6 by decide) ⟨k, h⟩
  · unfold hasAt
    rw [List.getD_eq_getElem?_getD, List.getElem?_eq_none (by rw [opTab_len]; omega)]
    decide
theorem at_end : nameAt 42 = [] ∧ hasAt 42 = 0 := by decide
def opVal (k : Nat) : Value := .agg #[.string (S (nameAt k)), .int .i64 (hasAt k : Nat)]
theorem op_index0 (w : World) : (Instr.index 287 (.agg opCells.toArray) (.int .i64 0)).run Tryz.prog w = .ok (opVal 0) w := by kernel_rfl
theorem op_index1 (w : World) : (Instr.index 287 (.agg opCells.toArray) (.int .i64 1)).run Tryz.prog w = .ok (opVal 1) w := by kernel_rfl
theorem op_index2 (w : World) : (Instr.index 287 (.agg opCells.toArray) (.int .i64 2)).run Tryz.prog w = .ok (opVal 2) w := by kernel_rfl
theorem op_index3 (w : World) : (Instr.index 287 (.agg opCells.toArray) (.int .i64 3)).run Tryz.prog w = .ok (opVal 3) w := by kernel_rfl
theorem op_index4 (w : World) : (Instr.index 287 (.agg opCells.toArray) (.int .i64 4)).run Tryz.prog w = .ok (opVal 4) w := by kernel_rfl
theorem op_index5 (w : World) : (Instr.index 287 (.agg opCells.toArray) (.int .i64 5)).run Tryz.prog w = .ok (opVal 5) w := by kernel_rfl
theorem op_index6 (w : World) : (Instr.index 287 (.agg opCells.toArray) (.int .i64 6)).run Tryz.prog w = .ok (opVal 6) w := by kernel_rfl
theorem op_index7 (w : World) : (Instr.index 287 (.agg opCells.toArray) (.int .i64 7)).run Tryz.prog w = .ok (opVal 7) w := by kernel_rfl
theorem op_index8 (w : World) : (Instr.index 287 (.agg opCells.toArray) (.int .i64 8)).run Tryz.prog w = .ok (opVal 8) w := by kernel_rfl
theorem op_index9 (w : World) : (Instr.index 287 (.agg opCells.toArray) (.int .i64 9)).run Tryz.prog w = .ok (opVal 9) w := by kernel_rfl
theorem op_index10 (w : World) : (Instr.index 287 (.agg opCells.toArray) (.int .i64 10)).run Tryz.prog w = .ok (opVal 10) w := by kernel_rfl
theorem op_index11 (w : World) : (Instr.index 287 (.agg opCells.toArray) (.int .i64 11)).run Tryz.prog w = .ok (opVal 11) w := by kernel_rfl
theorem op_index12 (w : World) : (Instr.index 287 (.agg opCells.toArray) (.int .i64 12)).run Tryz.prog w = .ok (opVal 12) w := by kernel_rfl
theorem op_index13 (w : World) : (Instr.index 287 (.agg opCells.toArray) (.int .i64 13)).run Tryz.prog w = .ok (opVal 13) w := by kernel_rfl
theorem op_index14 (w : World) : (Instr.index 287 (.agg opCells.toArray) (.int .i64 14)).run Tryz.prog w = .ok (opVal 14) w := by kernel_rfl
theorem op_index15 (w : World) : (Instr.index 287 (.agg opCells.toArray) (.int .i64 15)).run Tryz.prog w = .ok (opVal 15) w := by kernel_rfl
theorem op_index16 (w : World) : (Instr.index 287 (.agg opCells.toArray) (.int .i64 16)).run Tryz.prog w = .ok (opVal 16) w := by kernel_rfl
theorem op_index17 (w : World) : (Instr.index 287 (.agg opCells.toArray) (.int .i64 17)).run Tryz.prog w = .ok (opVal 17) w := by kernel_rfl
theorem op_index18 (w : World) : (Instr.index 287 (.agg opCells.toArray) (.int .i64 18)).run Tryz.prog w = .ok (opVal 18) w := by kernel_rfl
theorem op_index19 (w : World) : (Instr.index 287 (.agg opCells.toArray) (.int .i64 19)).run Tryz.prog w = .ok (opVal 19) w := by kernel_rfl
theorem op_index20 (w : World) : (Instr.index 287 (.agg opCells.toArray) (.int .i64 20)).run Tryz.prog w = .ok (opVal 20) w := by kernel_rfl
theorem op_index21 (w : World) : (Instr.index 287 (.agg opCells.toArray) (.int .i64 21)).run Tryz.prog w = .ok (opVal 21) w := by kernel_rfl
theorem op_index22 (w : World) : (Instr.index 287 (.agg opCells.toArray) (.int .i64 22)).run Tryz.prog w = .ok (opVal 22) w := by kernel_rfl
theorem op_index23 (w : World) : (Instr.index 287 (.agg opCells.toArray) (.int .i64 23)).run Tryz.prog w = .ok (opVal 23) w := by kernel_rfl
theorem op_index24 (w : World) : (Instr.index 287 (.agg opCells.toArray) (.int .i64 24)).run Tryz.prog w = .ok (opVal 24) w := by kernel_rfl
theorem op_index25 (w : World) : (Instr.index 287 (.agg opCells.toArray) (.int .i64 25)).run Tryz.prog w = .ok (opVal 25) w := by kernel_rfl
theorem op_index26 (w : World) : (Instr.index 287 (.agg opCells.toArray) (.int .i64 26)).run Tryz.prog w = .ok (opVal 26) w := by kernel_rfl
theorem op_index27 (w : World) : (Instr.index 287 (.agg opCells.toArray) (.int .i64 27)).run Tryz.prog w = .ok (opVal 27) w := by kernel_rfl
theorem op_index28 (w : World) : (Instr.index 287 (.agg opCells.toArray) (.int .i64 28)).run Tryz.prog w = .ok (opVal 28) w := by kernel_rfl
theorem op_index29 (w : World) : (Instr.index 287 (.agg opCells.toArray) (.int .i64 29)).run Tryz.prog w = .ok (opVal 29) w := by kernel_rfl
theorem op_index30 (w : World) : (Instr.index 287 (.agg opCells.toArray) (.int .i64 30)).run Tryz.prog w = .ok (opVal 30) w := by kernel_rfl
theorem op_index31 (w : World) : (Instr.index 287 (.agg opCells.toArray) (.int .i64 31)).run Tryz.prog w = .ok (opVal 31) w := by kernel_rfl
theorem op_index32 (w : World) : (Instr.index 287 (.agg opCells.toArray) (.int .i64 32)).run Tryz.prog w = .ok (opVal 32) w := by kernel_rfl
theorem op_index33 (w : World) : (Instr.index 287 (.agg opCells.toArray) (.int .i64 33)).run Tryz.prog w = .ok (opVal 33) w := by kernel_rfl
theorem op_index34 (w : World) : (Instr.index 287 (.agg opCells.toArray) (.int .i64 34)).run Tryz.prog w = .ok (opVal 34) w := by kernel_rfl
theorem op_index35 (w : World) : (Instr.index 287 (.agg opCells.toArray) (.int .i64 35)).run Tryz.prog w = .ok (opVal 35) w := by kernel_rfl
theorem op_index36 (w : World) : (Instr.index 287 (.agg opCells.toArray) (.int .i64 36)).run Tryz.prog w = .ok (opVal 36) w := by kernel_rfl
theorem op_index37 (w : World) : (Instr.index 287 (.agg opCells.toArray) (.int .i64 37)).run Tryz.prog w = .ok (opVal 37) w := by kernel_rfl
theorem op_index38 (w : World) : (Instr.index 287 (.agg opCells.toArray) (.int .i64 38)).run Tryz.prog w = .ok (opVal 38) w := by kernel_rfl
theorem op_index39 (w : World) : (Instr.index 287 (.agg opCells.toArray) (.int .i64 39)).run Tryz.prog w = .ok (opVal 39) w := by kernel_rfl
theorem op_index40 (w : World) : (Instr.index 287 (.agg opCells.toArray) (.int .i64 40)).run Tryz.prog w = .ok (opVal 40) w := by kernel_rfl
theorem op_index41 (w : World) : (Instr.index 287 (.agg opCells.toArray) (.int .i64 41)).run Tryz.prog w = .ok (opVal 41) w := by kernel_rfl
theorem op_index (k : Nat) (hk : k < 42) (w : World) : (Instr.index 287 (.agg opCells.toArray) (.int .i64 (k : Nat))).run Tryz.prog w = .ok (.agg #[.string (S (nameAt k)), .int .i64 (hasAt k : Nat)]) w :=
  match k, hk with
  | 0, _ => op_index0 w
  | 1, _ => op_index1 w
  | 2, _ => op_index2 w
  | 3, _ => op_index3 w
  | 4, _ => op_index4 w
  | 5, _ => op_index5 w
  | 6, _ => op_index6 w
  | 7, _ => op_index7 w
  | 8, _ => op_index8 w
  | 9, _ => op_index9 w
  | 10, _ => op_index10 w
  | 11, _ => op_index11 w
  | 12, _ => op_index12 w
  | 13, _ => op_index13 w
  | 14, _ => op_index14 w
  | 15, _ => op_index15 w
  | 16, _ => op_index16 w
  | 17, _ => op_index17 w
  | 18, _ => op_index18 w
  | 19, _ => op_index19 w
  | 20, _ => op_index20 w
  | 21, _ => op_index21 w
  | 22, _ => op_index22 w
  | 23, _ => op_index23 w
  | 24, _ => op_index24 w
  | 25, _ => op_index25 w
  | 26, _ => op_index26 w
  | 27, _ => op_index27 w
  | 28, _ => op_index28 w
  | 29, _ => op_index29 w
  | 30, _ => op_index30 w
  | 31, _ => op_index31 w
  | 32, _ => op_index32 w
  | 33, _ => op_index33 w
  | 34, _ => op_index34 w
  | 35, _ => op_index35 w
  | 36, _ => op_index36 w
  | 37, _ => op_index37 w
  | 38, _ => op_index38 w
  | 39, _ => op_index39 w
  | 40, _ => op_index40 w
  | 41, _ => op_index41 w
  | n + 42, h => absurd h (by omega)
end Go.Proofs.YtpincofjopmaaaaGreatDoor
namespace Go.Proofs.YtpincofjopmaaaaGreatDoor
open Go.RowKit
theorem info_u8 : (Tryz.prog.info? 5).map (fun i => (i.zero, i.size, i.bytes)) = some (some (.int .u8 0), 1, 1) := by kernel_rfl
theorem conv_row (w : World) (b n cap : Nat) (l : List UInt8) (hl : l.length = n) (hc : ∀ j, j < n → w.cell? ⟨b, j, none⟩ = (Lib.byteCells l)[j]?) :
    Sem.run Tryz.prog (convert 71 9 (.slice (some ⟨b, 0, none⟩) n cap)) w = .ok (.string (S l)) w := by
  have h := run_convert_bytes_arg (P := Tryz.prog) w 71 5 Tryz.underlying71 Tryz.underlying5 b 0 n cap (l.map fun c => (c.toNat : Int)) (by simpa using hl) (fun i hi => by
    rw [Nat.zero_add, hc i hi, byteCells_at]
    have : i < l.length := by omega
    simp [List.getD, List.getElem?_eq_getElem this]) 9 Tryz.underlying9
  rw [h]
  refine congrArg (fun s => Result.ok (Value.string s) w) ?_
  simp only [strOfNums, S, List.map_map]
  clear h
  refine congrArg (fun m : List UInt8 => ByteArray.mk m.toArray) ?_
  conv => rhs; rw [← List.map_id l]
  apply List.map_congr_left
  intro c _
  simp
theorem conv_one (w : World) (c : UInt8) (z : Int) (hz : z = (c.toNat : Int)) :
    Sem.run Tryz.prog (convert 71 9 (.slice (some ⟨w.heap.size, 0, none⟩) 1 1)) (w.alloc (.cells #[.int .u8 z] 5)) = .ok (.string (S [c])) (w.alloc (.cells #[.int .u8 z] 5)) := by
  refine conv_row _ _ 1 1 [c] rfl (fun j hj => ?_)
  obtain rfl : j = 0 := by omega
  subst hz
  simp [Lib.byteCells]
theorem conv_owned {w : World} {v : Value} {l : List UInt8} (h : RowIs w v l) : Sem.run Tryz.prog (convert 71 9 v) w = .ok (.string (S l)) w := by
  rcases h.2 with ⟨rfl, h0⟩ | ⟨g, cap, cur, rfl, hb, hgg, hn, _, hcs, htake⟩
  · have : l = [] := List.eq_nil_of_length_eq_zero h0
    subst this
    exact run_convert_bytes_nil (P := Tryz.prog) w 71 5 Tryz.underlying71 Tryz.underlying5 0 0 9 Tryz.underlying9
  · exact conv_row w g l.length cap l rfl (fun j hj => h.cellAt j (by omega))
/-- '[]byte(s)'. -/
theorem conv_back (s : List UInt8) (w : World) :
    Sem.run Tryz.prog (convert 9 71 (.string (S s))) w = .ok (.slice (some ⟨w.heap.size, 0, none⟩) s.length (grownCap w s.length 0 5)) (Lib.bytesWorld w 5 (S s)) := by
  have h := Lib.run_convert_string_bytes (P := Tryz.prog) w 9 71 5 (S s) Tryz.underlying9 Tryz.underlying71 Tryz.underlying5
  rw [S_size] at h
  exact h
theorem src_back (s : List UInt8) (w : World) (c : Nat) : SrcIs (Lib.bytesWorld w 5 (S s)) (.slice (some ⟨w.heap.size, 0, none⟩) s.length c) s := by
  refine .inr ⟨_, c, rfl, fun j u hj => ?_⟩
  have hjl : j < s.length := by
    rcases Nat.lt_or_ge j s.length with h | h
    · exact h
    · simp [byteCells_at, List.getElem?_eq_none h] at hj
  have ha : (⟨w.heap.size, 0, none⟩ : Addr).add j = ⟨w.heap.size, j, none⟩ := by unfold Addr.add; split <;> simp_all
  rw [ha, Lib.bytesWorld_cell w _ (S s) j (by rw [S_size]; exact hjl), S_list, ← hj, byteCells_at, List.getElem?_eq_getElem hjl]
  simp [List.getD, List.getElem?_eq_getElem hjl]
theorem below_back (s : List UInt8) (w : World) : Below w.heap.size w (Lib.bytesWorld w 5 (S s)) :=
  ⟨rfl, rfl, rfl, by rw [Lib.bytesWorld_size]; omega, fun k hk => Lib.bytesWorld_at_old w _ (S s) k hk⟩
theorem add_plain' {a : Addr} {w : World} {v : Value} (h : w.cell? a = some v) : ∃ b off, a = ⟨b, off, none⟩ := by
  obtain ⟨b, off, sp⟩ := a
  cases sp with
  | none => exact ⟨b, off, rfl⟩
  | some q =>
    exfalso
    unfold World.cell? at h
    split at h
    · simp at h
    · cases h
theorem setCells_below {B g : Nat} (hg : B ≤ g) : ∀ (vs : List Value) (o : Nat) (a w : World), Below B a w → Below B a (w.setCells g o vs)
  | [], _, _, _, h => h
  | v :: vs, o, a, w, h => setCells_below hg vs (o + 1) a (w.setCell ⟨g, o, none⟩ v) (h.setCell hg _)
theorem heap_alloc_new' (w : World) (o : Obj) (b : Nat) (h : b = w.heap.size) : (w.alloc o).heap[b]? = some o := by rw [h]; exact heap_alloc_new w o
/-- A slice of bytes that has some lies in a block. -/
theorem SrcIs.plain {w : World} {v : Value} {l : List UInt8} (h : SrcIs w v l) (hl : 0 < l.length) : ∃ b off cap, v = .slice (some ⟨b, off, none⟩) l.length cap ∧ ∀ j, j < l.length → w.cell? ⟨b, off + j, none⟩ = some (.int .u8 (l.getD j 0).toNat) := by
  rcases h with ⟨_, rfl⟩ | ⟨a, cap, rfl, hc⟩
  · simp at hl
  · have key : ∀ j, j < l.length → w.cell? (a.add j) = some (.int .u8 (l.getD j 0).toNat) := fun j hj => by
      refine hc j _ ?_
      rw [byteCells_at, List.getElem?_eq_getElem hj]
      simp [List.getD, List.getElem?_eq_getElem hj]
    obtain ⟨b, off, sp⟩ := a
    cases sp with
    | some q =>
      obtain ⟨b', off', e⟩ := add_plain' (key 0 hl)
      unfold Addr.add at e
      split at e <;> simp_all
    | none =>
      refine ⟨b, off, cap, rfl, fun j hj => ?_⟩
      have := key j hj
      rw [show (⟨b, off, none⟩ : Addr).add j = ⟨b, off + j, none⟩ by unfold Addr.add; split <;> simp_all] at this
      exact this
theorem SrcIs.below {w w' : World} {v : Value} {l : List UInt8} (h : SrcIs w v l) (hb : Below w.heap.size w w') : SrcIs w' v l :=
  h.imp id (fun ⟨a, cap, hv, hc⟩ => ⟨a, cap, hv, fun j u hj => (Only.ofBelow (S := fun _ => False) hb).cell (hc j u hj) id⟩)
/-- A row of the call's own. -/
structure BS (w0 w : World) (v : Value) (l : List UInt8) : Prop where
  row : RowIs w v l
  own : ∀ g, v.ownBlock = some g → w0.heap.size ≤ g
  bel : Below w0.heap.size w0 w
theorem BS.keep {w0 w w' : World} {v : Value} {l : List UInt8} (h : BS w0 w v l) (hb : Below w.heap.size w w') : BS w0 w' v l :=
  ⟨(Only.ofBelow (S := fun _ => False) hb).row h.row (fun _ _ => id), h.own, h.bel.trans (hb.mono h.bel.size)⟩
theorem BS.alloc {w0 w : World} {v : Value} {l : List UInt8} (h : BS w0 w v l) (o : Obj) : BS w0 (w.alloc o) v l := h.keep ((Below.refl _ _).alloc (Nat.le_refl _) o)
theorem BS.drewN {w0 w : World} {v : Value} {l : List UInt8} (h : BS w0 w v l) (q : Nat) : BS w0 (w.drewN q) v l := ⟨h.row, h.own, ⟨h.bel.os, h.bel.tape, h.bel.output, h.bel.size, h.bel.block⟩⟩
/-- 'string(b)' of bytes wherever they lie. -/
theorem conv_src {w : World} {v : Value} {l : List UInt8} (h : SrcIs w v l) : Sem.run Tryz.prog (convert 71 9 v) w = .ok (.string (S l)) w := by
  by_cases hl : 0 < l.length
  · obtain ⟨b, off, cap, rfl, hc⟩ := h.plain hl
    have h := run_convert_bytes_arg (P := Tryz.prog) w 71 5 Tryz.underlying71 Tryz.underlying5 b off l.length cap (l.map fun c => (c.toNat : Int)) (by simp) (fun i hi => by
      rw [hc i hi]
      simp [List.getD, List.getElem?_eq_getElem hi]) 9 Tryz.underlying9
    rw [h]
    refine congrArg (fun s => Result.ok (Value.string s) w) ?_
    simp only [strOfNums, S, List.map_map]
    clear h
    refine congrArg (fun m : List UInt8 => ByteArray.mk m.toArray) ?_
    conv => rhs; rw [← List.map_id l]
    apply List.map_congr_left
    intro c _
    simp
  · have : l = [] := List.eq_nil_of_length_eq_zero (by omega)
    subst this
    rcases h with ⟨rfl, _⟩ | ⟨a, cap, rfl, _⟩
    · exact run_convert_bytes_nil (P := Tryz.prog) w 71 5 Tryz.underlying71 Tryz.underlying5 0 0 9 Tryz.underlying9
    · rw [run_convert_bytes_string w 71 9 5 _ _ _ Tryz.underlying71 Tryz.underlying5 Tryz.underlying9]
      simp [Conv.bytesToString, loadCells, loadCellsFrom]
      rfl
/-- Cells of these bytes, from an address on. -/
def At (w : World) (a : Addr) (l : List UInt8) : Prop := ∀ j u, (Lib.byteCells l)[j]? = some u → w.cell? (a.add j) = some u
/-- Bytes behind which there is no room. -/
def FullIs (w : World) (v : Value) (l : List UInt8) : Prop := (v = .slice none 0 0 ∧ l = []) ∨ ∃ a, v = .slice (some a) l.length l.length ∧ At w a l
/-- Go's append onto such bytes makes new memory. -/
theorem append_full (w : World) (ty : TypeId) (bv : Value) (l m : List UInt8) (a : Addr) (c : Nat) (hb : FullIs w bv l) (hm : At w a m) (hm0 : 0 < m.length) (hlim : l.length + m.length ≤ 140737488355328) :
    ∃ v' w', (Builtin.append_ #[71, 71] ty #[bv, .slice (some a) m.length c]).run Tryz.prog w = .ok v' w' ∧ BS w w' v' (l ++ m) := by
  obtain ⟨i0, hi, hz0, hz1, hz2⟩ := info_parts info_u8
  have hlen : (Lib.byteCells (l ++ m)).length = (l ++ m).length * 1 := by rw [byteCells_length, Nat.mul_one]
  have grown : ∀ old : Nat, BS w (w.drew.alloc (.cells ((Lib.byteCells l).toArray ++ (Lib.byteCells m).toArray ++ Builtin.zeroCells (Value.int .u8 0).cells (grownCap w (l.length + m.length) old 5 - (l.length + m.length))) 5))
      (.slice (some ⟨w.heap.size, 0, none⟩) (l.length + m.length) (grownCap w (l.length + m.length) old 5)) (l ++ m) := by
    intro old
    have hge := grownCap_ge w (l.length + m.length) old 5
    have hcm : grownCap w (l.length + m.length) old 5 ≤ maxLen := grownCap_le_maxLen w _ old 5 (by unfold maxLen; omega)
    refine ⟨⟨hlen, .inr ⟨w.heap.size, _, _, by rw [List.length_append], Nat.zero_le _, heap_alloc_new w.drew _, by rw [List.length_append]; exact hge, hcm, ?_, ?_⟩⟩, fun g hg => by simp [Value.ownBlock] at hg; omega, (Below.refl _ w).drew.alloc (Nat.le_refl _) _⟩
    · simp only [Array.size_append, List.size_toArray, size_zeroCells, byteCells_length]
      rw [show (Value.int IntKind.u8 0).cells.size = 1 from rfl]
      omega
    · simp only [Array.toList_append, List.append_assoc]
      rw [← List.append_assoc, ← byteCells_append, ← hlen]
      exact List.take_left
  rcases hb with ⟨rfl, rfl⟩ | ⟨b, rfl, hcb⟩
  · have hr := run_append_nil (P := Tryz.prog) w 71 ty 5 i0 (.int .u8 0) Tryz.underlying71 hi hz0 a m.length c (Lib.byteCells m) (by rw [byteCells_length, hz1, Nat.mul_one]) hm hm0 (by simp at hlim; omega) (by rw [hz2]; simp at hlim; omega)
    have hgr := grown 0
    simp only [List.length_nil, Nat.zero_add, List.nil_append, show Lib.byteCells [] = [] from rfl, Array.empty_append] at hgr
    exact ⟨_, _, hr, hgr⟩
  · have hr := run_append_grow (P := Tryz.prog) w 71 ty 5 i0 (.int .u8 0) Tryz.underlying71 hi hz0 b l.length l.length (Lib.byteCells l) (by rw [byteCells_length, hz1, Nat.mul_one]) hcb a m.length c (Lib.byteCells m) (by rw [byteCells_length, hz1, Nat.mul_one]) hm (by omega) (by omega) (growslice_fits (by omega) (by rw [hz2]; omega))
    exact ⟨_, _, hr, grown l.length⟩
/-- An append whose run is known. -/
theorem wpList_append_eq {P : Program} {w : World} {ops : Array Oper} {rest : List Oper} {o : Oper} {a : Act} {Q : Exit → Act → World → Prop} (hgd : o.guard = none) (s x : Operand) (t : TypeId)
    (ho : o.op = .call { callee := .builtin .append, args := #[s, x], argTypes := #[t, t] }) (sv xv v' : Value) (w' : World) (hs : a.eval s = sv) (hx : a.eval x = xv)
    (hrun : (Builtin.append_ #[t, t] o.type #[sv, xv]).run P w = .ok v' w') (h : wpList P ops Q rest (a.put o.dst v') w') : wpList P ops Q (o :: rest) a w := by
  refine wpList_plain hgd fun K hK => ?_
  unfold Oper.wp
  simp only [execOp, ho, resolve, invoke, builtin, Sem.run_bind, Sem.run_pure, Result.andThen_ok, List.map_toArray, List.map_cons, List.map_nil, hs, hx, hrun]
  exact hK _ _ h
end Go.Proofs.YtpincofjopmaaaaGreatDoor
