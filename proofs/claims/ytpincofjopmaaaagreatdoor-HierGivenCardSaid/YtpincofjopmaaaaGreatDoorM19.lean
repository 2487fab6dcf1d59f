/-
  A table of classes in memory: the map, the entries, and what they lead to.
  Conditions: none; these are definitions and small laws of worlds.
  The contract of an entry's line: the function is handed the class and those that it is derived from, till it says yes.
  Conditions: the table lies in memory that was there before; the function leaves it alone.
  The contract of an entry's parents: the function is handed what the class is derived from, and what it is like, till it says yes.
  Conditions: the table lies in memory that was there before; the function leaves it alone.
-/
import Derived.Test.YtpincofjopmaaaaGreatDoorM02
import Derived.Test.YtpincofjopmaaaaGreatDoorM18
import Derived.StringKeys
import Derived.Deep.LoopGhost
namespace Go.Proofs.YtpincofjopmaaaaGreatDoor
open Go.RowKit
/-- An entry: its class, what that is derived from, and what it is like (places in the table). -/
structure Ent where
  cls : Cls
  up : Option Nat
  lk : List Nat
/-- A pointer to an entry, or nil. -/
def ptrV (B : Nat → Nat) (o : Option Nat) : Value := .pointer (o.map fun j => ⟨B j, 0, none⟩)
theorem ptrV_is (B : Nat → Nat) (o : Option Nat) : ∃ q, ptrV B o = .pointer q := ⟨_, rfl⟩
theorem ptrV_some (B : Nat → Nat) (j : Nat) : ptrV B (some j) = .pointer (some ⟨B j, 0, none⟩) := rfl
theorem ptrV_none (B : Nat → Nat) : ptrV B none = .pointer none := rfl
/-- The place of a name. -/
def placeE (es : List Ent) (n : List UInt8) : Option Nat := es.findIdx? (fun e => e.cls.name == n)
def lookE (es : List Ent) : Lit → Option Nat
  | .string n => placeE es n
  | _ => none
/-- An entry's own cells. -/
def entC (B : Nat → Nat) (i : Nat) (e : Ent) (lv fv mv sv : Value) : Array Value :=
  #[.int .i64 i, .string (S e.cls.name), .string (S e.cls.sup), lv, .bool e.cls.itf, .bool e.cls.abs, .bool e.cls.fin, fv, mv, ptrV B e.up, sv]
def EntIs (A : Nat → Prop) (B : Nat → Nat) (w : World) (i : Nat) (e : Ent) : Prop :=
  ∃ lv fv mv sv, Box w (B i) (entC B i e lv fv mv sv) 97 ∧ Src 1 StrR A w lv e.cls.like ∧ Src 3 FldR A w fv e.cls.flds ∧ Src 7 MthR A w mv e.cls.mths ∧ Src 1 (EntP B) A w sv e.lk
theorem EntIs.keep {A S : Nat → Prop} {B : Nat → Nat} {w w' : World} {i : Nat} {e : Ent} (h : EntIs A B w i e) (ho : Only S w w') (hA : ∀ k, A k → ¬ S k) (hB : ¬ S (B i)) : EntIs A B w' i e := by
  obtain ⟨lv, fv, mv, sv, h0, h1, h2, h3, h4⟩ := h
  exact ⟨lv, fv, mv, sv, h0.keep ho hB, StrR.st.src h1 ho hA, FldR.st.src h2 ho hA, MthR.st.src h3 ho hA, (EntP.st B).src h4 ho hA⟩
theorem EntIs.cls {A : Nat → Prop} {B : Nat → Nat} {w : World} {i : Nat} {e : Ent} (h : EntIs A B w i e) : ∃ v : Value, ClsR A w e.cls v := by
  obtain ⟨lv, fv, mv, sv, h0, h1, h2, h3, h4⟩ := h
  exact ⟨_, lv, fv, mv, rfl, h1, h2, h3⟩
/-- The table at block T, its map at block mb, its entries at the blocks B 0, B 1, ..; all else in the blocks of A. -/
structure Tab (A : Nat → Prop) (w : World) (T mb : Nat) (B : Nat → Nat) (es : List Ent) : Prop where
  box : Box w T #[.map (some mb)] 86
  map : MapF Tryz.prog 9 (.pointer none) w mb es.length (fun k => ptrV B (lookE es k)) (fun k => (lookE es k).isSome)
  ent : ∀ i e, es[i]? = some e → EntIs A B w i e
  inj : ∀ i j, i < es.length → j < es.length → B i = B j → i = j
  offA : ∀ i, i < es.length → ¬ A (B i)
  offT : ∀ i, i < es.length → B i ≠ T
  offM : ∀ i, i < es.length → B i ≠ mb
  T_A : ¬ A T
  M_A : ¬ A mb
  T_M : T ≠ mb
theorem Tab.keep {A S : Nat → Prop} {w w' : World} {T mb : Nat} {B : Nat → Nat} {es : List Ent} (h : Tab A w T mb B es) (ho : Only S w w') (hS : ∀ k, k < w.heap.size → ¬ S k) : Tab A w' T mb B es := by
  have hS' : Only (fun _ => False) w w' := ho.mono (fun i hi s => hS i hi s)
  exact ⟨h.box.keep hS' id, h.map.keep hS' id, fun i e hi => (h.ent i e hi).keep hS' (fun _ _ => id) id, h.inj, h.offA, h.offT, h.offM, h.T_A, h.M_A, h.T_M⟩
theorem Tab.below {A : Nat → Prop} {w w' : World} {T mb : Nat} {B : Nat → Nat} {es : List Ent} (h : Tab A w T mb B es) (hb : Below w.heap.size w w') : Tab A w' T mb B es :=
  h.keep (Only.ofBelow (S := fun _ => False) hb) (fun _ _ => id)
theorem Tab.lt {A : Nat → Prop} {w : World} {T mb : Nat} {B : Nat → Nat} {es : List Ent} (h : Tab A w T mb B es) {i : Nat} (hi : i < es.length) : B i < w.heap.size := by
  obtain ⟨_, _, _, _, h0, _⟩ := h.ent i es[i] (List.getElem?_eq_getElem hi)
  exact h0.lt
theorem key_str (n : List UInt8) (hn : n.length ≤ 9223372036854775807) : keyOf Tryz.prog 9 (.string (S n)) = some (.string n) := by
  have h := Go.WideMaps.keyOf_string_mk (P := Tryz.prog) (k := 9) (s := S n) Tryz.underlying9 (by rw [S_size]; unfold maxLen; exact hn)
  rw [h]
  exact congrArg (fun x => some (Lit.string x)) rfl
theorem keyed_str : Maps.Keyed Tryz.prog 9 := Maps.string_keyed Tryz.underlying9
theorem zero_ptr (w : World) : (zeroValue 94).run Tryz.prog w = .ok (.pointer none) w := by kernel_rfl
/-- What is looked up at a name. -/
theorem Tab.look {A : Nat → Prop} {w : World} {T mb : Nat} {B : Nat → Nat} {es : List Ent} (h : Tab A w T mb B es) (n : List UInt8) (hn : n.length ≤ 9223372036854775807) :
    (Instr.lookup 84 (.map (some mb)) (.string (S n)) false).run Tryz.prog w = .ok (ptrV B (placeE es n)) w :=
  h.map.look keyed_str Tryz.underlying84 (zero_ptr w) (key_str n hn)
end Go.Proofs.YtpincofjopmaaaaGreatDoor
namespace Go.Proofs.YtpincofjopmaaaaGreatDoor
open Go.RowKit
/-- The places from one on up. -/
def Chain (es : List Ent) : List Nat → Option Nat → Prop
  | [], o => o = none
  | i :: l, o => o = some i ∧ ∃ e, es[i]? = some e ∧ Chain es l e.up
theorem drop_cons {α : Type} {l r : List α} {k : Nat} {x : α} (h : l.drop k = x :: r) : l[k]? = some x ∧ l.drop (k + 1) = r ∧ k < l.length := by
  have hk : k < l.length := by
    rcases Nat.lt_or_ge k l.length with h' | h'
    · exact h'
    · rw [List.drop_eq_nil_of_le h'] at h; cases h
  rw [List.drop_eq_getElem_cons hk] at h
  injection h with h1 h2
  exact ⟨by rw [List.getElem?_eq_getElem hk, h1], h2, hk⟩
set_option maxHeartbeats 2000000 in
set_option maxRecDepth 100000 in
theorem line_any {A : Nat → Prop} {B : Nat → Nat} {T mb : Nat} {es : List Ent} {w0 : World} (hT : Tab A w0 T mb B es) (F : Nat) (caps : Array Value) (L : List Nat) (o : Option Nat) (J K : Nat → World → Prop) (w : World) (he : ∀ args w, (callFunc F args).run Tryz.prog w = .ok (.enter F args) w)
    (hc : Chain es L o) (hJ : ∀ k w', J k w' → Below w0.heap.size w0 w') (h0 : J 0 w) (hF : Steps B F caps L J K) :
    Calls Tryz.prog 85 #[ptrV B o, .func (.func F) #[] caps] w (YesNo (fun w' => ∃ k, k < L.length ∧ K k w') (J L.length)) := by
  have HF := Lib.hid hF
  have HE := Lib.hid he
  have HT := Lib.hid hT
  have HJ := Lib.hid hJ
  have H0 := Lib.hid h0
  have HC := Lib.hid hc
  clear hF he hT hJ h0 hc
  generalize hv0 : ptrV B o = vo
  have HV := Lib.hid hv0
  clear hv0
  go_enter Tryz.func85, Tryz.ntmps85
  go_wp2
  go_loopg [0] (L.length + 1) (fun gk v0 wr => ∃ (k : Nat) (o : Option Nat), v0 = ptrV B o ∧ Chain es (L.drop k) o ∧ J k wr ∧ k ≤ L.length ∧ L.length - k < gk)
  case atStart => exact ⟨0, o, HV.out.symm, HC.out, H0.out, Nat.zero_le _, by omega⟩
  case round =>
    obtain ⟨k, o, hv, hc, hj, hk, hg⟩ := hrel
    have HJK := Lib.hid hj
    clear hj
    cases hd : L.drop k with
    | nil =>
      rw [hd] at hc
      have ho : o = none := hc
      subst ho
      have hv' : u0 = .pointer none := hv
      clear hv hc
      subst hv'
      have hkl : L.length = k := by
        have := congrArg List.length hd
        simp at this
        omega
      have HKL := Lib.hid hkl
      clear hd hkl
      go_wp2
      go_ret
      exact ⟨false, rfl, (fun h => by cases h), fun _ => by rw [HKL.out]; exact HJK.out⟩
    | cons i r =>
      rw [hd] at hc
      obtain ⟨ho, e, hei, hcr⟩ := hc
      obtain ⟨hx, hr, hkl⟩ := drop_cons hd
      subst ho
      have hv' : u0 = .pointer (some ⟨B i, 0, none⟩) := hv
      subst hv'
      have HX := Lib.hid hx
      have HR := Lib.hid hr
      have HEI := Lib.hid hei
      have HCR := Lib.hid hcr
      clear hv hx hr hei hcr hd
      have he := HE.out
      go_wp2_with fail
      refine (HF.out k i wr HX.out HJK.out).mono ?_
      rintro e1 w1 ⟨b, rfl, hy, hno⟩
      have HY := Lib.hid hy
      have HNO := Lib.hid hno
      clear he hy hno
      cases b with
      | true =>
        have HK := Lib.hid (HY.out rfl)
        clear HY HNO
        go_wp2
        go_ret
        exact ⟨true, rfl, fun _ => ⟨k, hkl, HK.out⟩, (fun h => by cases h)⟩
      | false =>
        have HK := Lib.hid (HNO.out rfl)
        clear HY HNO
        obtain ⟨lv, fv, mv, sv, hb, _⟩ := (HT.out.below (HJ.out _ _ HK.out)).ent i e HEI.out
        have c9 := hb.cell 9 rfl
        clear hb
        go_wp2
        go_roundg (L.length - k)
        case measure => omega
        case rel => exact ⟨k + 1, e.up, rfl, by rw [HR.out]; exact HCR.out, HK.out, hkl, by omega⟩
end Go.Proofs.YtpincofjopmaaaaGreatDoor
namespace Go.Proofs.YtpincofjopmaaaaGreatDoor
open Go.RowKit
def Ent.par (e : Ent) : List Nat := e.up.toList ++ e.lk
theorem YesNo.shift {n : Nat} {J K : Nat → World → Prop} {w : World} {e : Ending} (h : YesNo (fun w' => ∃ k, k < n ∧ K (k + 1) w') (J (n + 1)) e w) : YesNo (fun w' => ∃ k, k < n + 1 ∧ K k w') (J (n + 1)) e w := by
  obtain ⟨b, e1, h1, h2⟩ := h
  exact ⟨b, e1, fun q => by obtain ⟨k, hk, hK⟩ := h1 q; exact ⟨k + 1, by omega, hK⟩, h2⟩
set_option maxHeartbeats 2000000 in
set_option maxRecDepth 100000 in
theorem parents_any {A : Nat → Prop} {B : Nat → Nat} {T mb : Nat} {es : List Ent} {w0 : World} (hT : Tab A w0 T mb B es) (F : Nat) (caps : Array Value) (i : Nat) (e : Ent) (hi : es[i]? = some e) (J K : Nat → World → Prop) (w : World) (he : ∀ args w, (callFunc F args).run Tryz.prog w = .ok (.enter F args) w)
    (hJ : ∀ k w', J k w' → Below w0.heap.size w0 w') (h0 : J 0 w) (hF : Steps B F caps e.par J K) (hlen : e.lk.length ≤ 9223372036854775807) :
    Calls Tryz.prog 116 #[.pointer (some ⟨B i, 0, none⟩), .func (.func F) #[] caps] w (YesNo (fun w' => ∃ k, k < e.par.length ∧ K k w') (J e.par.length)) := by
  obtain ⟨cls, up, lk⟩ := e
  obtain ⟨lv, fv, mv, sv, hb, _, _, _, hs⟩ := hT.ent i _ hi
  have HB := Lib.hid hb
  have HS := Lib.hid hs
  have HJ := Lib.hid hJ
  have c9 := (hb.below (hJ 0 w h0)).cell 9 rfl
  have c10 := (hb.below (hJ 0 w h0)).cell 10 rfl
  cases up with
  | none =>
    have hpar : (Ent.mk cls none lk).par = lk := rfl
    rw [hpar] at hF ⊢
    have c9' : w.cell? ⟨B i, 9, none⟩ = some (.pointer none) := c9
    have c10' : w.cell? ⟨B i, 10, none⟩ = some sv := c10
    have HC := Lib.hid (contf_ent (B := B) (A := A) F caps lk sv J K w he (fun k w' h => (EntP.st B).below hs (hJ k w' h)) h0 hF hlen)
    clear hb hs hJ c9 c10 he h0 hF hlen hpar hi hT
    go_enter Tryz.func116, Tryz.ntmps116
    go_wp2_with fail
    refine HC.out.mono ?_
    rintro e w1 ⟨b, rfl, hy, hno⟩
    have HY := Lib.hid hy
    have HNO := Lib.hid hno
    clear hy hno
    cases b
    · have HK := Lib.hid (HNO.out rfl)
      clear HY HNO
      go_wp2
      go_ret
      exact ⟨false, rfl, (fun h => by cases h), fun _ => HK.out⟩
    · have HK := Lib.hid (HY.out rfl)
      clear HY HNO
      go_wp2
      go_ret
      exact ⟨true, rfl, fun _ => HK.out, (fun h => by cases h)⟩
  | some j =>
    have hpar : (Ent.mk cls (some j) lk).par = j :: lk := rfl
    rw [hpar] at hF ⊢
    have c9' : w.cell? ⟨B i, 9, none⟩ = some (.pointer (some ⟨B j, 0, none⟩)) := c9
    have HF0 := Lib.hid (hF 0 j w rfl h0)
    have HC : Hid (∀ w', J 1 w' → Calls Tryz.prog 183 #[sv, .func (.func F) #[] caps] w' (YesNo (fun w' => ∃ k, k < lk.length + 1 ∧ K k w') (J (lk.length + 1)))) := Lib.hid (fun w' h1 =>
      (contf_ent (B := B) (A := A) F caps lk sv (fun k => J (k + 1)) (fun k => K (k + 1)) w' he (fun k w'' h => (EntP.st B).below hs (hJ (k + 1) w'' h)) h1 (fun k x w'' hx hj => hF (k + 1) x w'' (by simpa using hx) hj) hlen).mono (fun e w'' h => h.shift))
    have HE := Lib.hid he
    clear hb hs hJ c9 c10 he h0 hF hlen hpar hi hT
    rw [List.length_cons]
    have he := HE.out
    go_enter Tryz.func116, Tryz.ntmps116
    go_wp2_with fail
    refine HF0.out.mono ?_
    rintro e w1 ⟨b, rfl, hy, hno⟩
    have HY := Lib.hid hy
    have HNO := Lib.hid hno
    clear hy hno he c9'
    cases b
    · have HJ1 := Lib.hid (HNO.out rfl)
      have d10 : w1.cell? ⟨B i, 10, none⟩ = some sv := (HB.out.below (HJ.out 1 w1 HJ1.out)).cell 10 rfl
      clear HY HNO
      go_wp2_with fail
      refine (HC.out w1 HJ1.out).mono ?_
      rintro e w2 ⟨b, rfl, hy, hno⟩
      have HY := Lib.hid hy
      have HNO := Lib.hid hno
      clear hy hno d10
      cases b
      · have HK := Lib.hid (HNO.out rfl)
        clear HY HNO
        go_wp2
        go_ret
        exact ⟨false, rfl, (fun h => by cases h), fun _ => HK.out⟩
      · have HK := Lib.hid (HY.out rfl)
        clear HY HNO
        go_wp2
        go_ret
        exact ⟨true, rfl, fun _ => HK.out, (fun h => by cases h)⟩
    · have HK := Lib.hid (HY.out rfl)
      clear HY HNO
      go_wp2
      go_ret
      exact ⟨true, rfl, fun _ => ⟨0, Nat.succ_pos _, HK.out⟩, (fun h => by cases h)⟩
end Go.Proofs.YtpincofjopmaaaaGreatDoor
