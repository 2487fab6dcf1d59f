/-
  The contracts of package class's equal and sameList at texts, fields, instructions, catches and methods.
  Conditions: the elements lie in memory that was there before; the function that sameList is handed answers, and changes nothing that was there before.
-/
import Derived.Test.YtpincofjopmaaaaGreatDoorM20
import Derived.Test.YtpincofjopmaaaaGreatDoorM22
import Derived.Deep.RegionHeld
import Derived.Deep.DrawnRows
import Derived.Deep.Cut
namespace Go.Proofs.YtpincofjopmaaaaGreatDoor
open Go.RowKit
attribute [local go_sem ↓] Go.wp_at_zero Go.wp_at_succ
def strEq (x y : List UInt8) : Bool := x == y
def Fld.eqB (x y : Fld) : Bool := x.name == y.name && (x.kind == y.kind && x.tr == y.tr)
def Ins.eqB (x y : Ins) : Bool := x.op == y.op && (x.n == y.n && x.s == y.s)
def Cat.eqB (x y : Cat) : Bool := x.fr == y.fr && (x.till == y.till && (x.at_ == y.at_ && x.cls == y.cls))
/-- Are two lists of the same length, and is each pair so? -/
def samB {α : Type} (p : α → α → Bool) (a b : List α) : Bool := decide (a.length = b.length) && (a.zip b).all fun q => p q.1 q.2
def pairT {α : Type} (p : α → α → Bool) (a b : List α) (k : Nat) : Bool := ((a.zip b).take k).all fun q => p q.1 q.2
theorem pairT_succ {α : Type} (p : α → α → Bool) (a b : List α) (k : Nat) (x y : α) (hx : a[k]? = some x) (hy : b[k]? = some y) : pairT p a b (k + 1) = (pairT p a b k && p x y) := by
  unfold pairT
  rw [take_all_succ _ _ _ (x, y) (by rw [List.getElem?_zip_eq_some]; exact ⟨hx, hy⟩)]
theorem pairT_le {α : Type} (p : α → α → Bool) (a b : List α) (k : Nat) (h : pairT p a b k = false) : ((a.zip b).all fun q => p q.1 q.2) = false := by
  unfold pairT at h
  rw [List.all_eq_false] at h ⊢
  obtain ⟨q, hq, hn⟩ := h
  exact ⟨q, List.mem_of_mem_take hq, hn⟩
set_option maxHeartbeats 4000000 in
set_option maxRecDepth 100000 in
theorem eq_str (x y : List UInt8) (w : World) :
    Calls Tryz.prog 49 #[strV x, strV y] w (Said (strEq x y) w) := by
  have ex := S_toList x
  have ey := S_toList y
  go_enter Tryz.func49, Tryz.ntmps49
  go_wp2
  go_ret
  exact ⟨rfl, Below.refl _ _⟩
set_option maxHeartbeats 4000000 in
set_option maxRecDepth 100000 in
theorem eq_fld (x y : Fld) (w : World) :
    Calls Tryz.prog 51 #[fldV x, fldV y] w (Said (Fld.eqB x y) w) := by
  have e0x := S_toList x.name
  have e0y := S_toList y.name
  have e1x := S_toList x.kind
  have e1y := S_toList y.kind
  go_enter Tryz.func51, Tryz.ntmps51
  go_wp2
  all_goals
    clear e0x e0y e1x e1y
    go_ret
    exact ⟨ret_bool (by simp [Fld.eqB, *]), below_alloc (below_alloc (Below.refl _ w) _) _⟩
set_option maxHeartbeats 4000000 in
set_option maxRecDepth 100000 in
theorem eq_ins (x y : Ins) (w : World) :
    Calls Tryz.prog 107 #[insVal x, insVal y] w (Said (Ins.eqB x y) w) := by
  have e0x := S_toList x.op
  have e0y := S_toList y.op
  have e1x := S_toList x.s
  have e1y := S_toList y.s
  go_enter Tryz.func107, Tryz.ntmps107
  go_wp2
  all_goals
    clear e0x e0y e1x e1y
    go_ret
    exact ⟨ret_bool (by simp [Ins.eqB, *]), below_alloc (below_alloc (Below.refl _ w) _) _⟩
set_option maxHeartbeats 4000000 in
set_option maxRecDepth 100000 in
theorem eq_cat (x y : Cat) (w : World) :
    Calls Tryz.prog 109 #[catV x, catV y] w (Said (Cat.eqB x y) w) := by
  have e0x := S_toList x.cls
  have e0y := S_toList y.cls
  go_enter Tryz.func109, Tryz.ntmps109
  go_wp2
  all_goals
    clear e0x e0y
    go_ret
    exact ⟨ret_bool (by simp [Cat.eqB, *]), below_alloc (below_alloc (Below.refl _ w) _) _⟩
set_option maxHeartbeats 4000000 in
set_option maxRecDepth 100000 in
theorem samel_str {A1 A2 : Nat → Prop} (F : Nat) (p : List UInt8 → List UInt8 → Bool) (la lb : List (List UInt8)) (sa sb : Value) (w : World) (he : ∀ args w, (callFunc F args).run Tryz.prog w = .ok (.enter F args) w)
    (ha : Src 1 StrR A1 w sa la) (hb : Src 1 StrR A2 w sb lb) (hF : ∀ (k : Nat) (x y : List UInt8) (u v : Value) (w' : World), la[k]? = some x → lb[k]? = some y → Below w.heap.size w w' → StrR A1 w' x u → StrR A2 w' y v → Calls Tryz.prog F #[u, v] w' (Said (p x y) w')) (hl1 : la.length ≤ 9223372036854775807) (hl2 : lb.length ≤ 9223372036854775807) :
    Calls Tryz.prog 48 #[sa, sb, .func (.func F) #[] #[]] w (Said (samB p la lb) w) := by
  have HF := Lib.hid hF
  have HE := Lib.hid he
  obtain ⟨n, hn⟩ : ∃ n, n = la.length := ⟨_, rfl⟩
  obtain ⟨m, hm⟩ : ∃ m, m = lb.length := ⟨_, rfl⟩
  obtain ⟨so, sc, rfl⟩ : ∃ so sc, sa = .slice so n sc := by rw [hn]; exact ha.shape
  obtain ⟨to_, tc, rfl⟩ : ∃ so sc, sb = .slice so m sc := by rw [hm]; exact hb.shape
  have HN := Lib.hid hn
  have HM := Lib.hid hm
  have hn1 : n ≤ 9223372036854775807 := by omega
  have hm1 : m ≤ 9223372036854775807 := by omega
  by_cases hnm : n = m
  case neg =>
    have hR : samB p la lb = false := by unfold samB; rw [decide_eq_false (by rw [← hn, ← hm]; exact hnm), Bool.false_and]
    rw [hR]
    have hq : ((n : Int) != (m : Int)) = true := by rw [bne_iff_ne]; omega
    clear hF he ha hb hn hm hnm hR hl1 hl2
    go_enter Tryz.func48, Tryz.ntmps48
    go_wp2
    go_ret
    exact ⟨rfl, Below.refl _ _⟩
  subst hnm
  have HR : Hid (samB p la lb = (la.zip lb).all fun q => p q.1 q.2) := Lib.hid (by unfold samB; rw [decide_eq_true (by rw [← hn, ← hm]), Bool.true_and])
  obtain ⟨r, hr⟩ : ∃ r, r = samB p la lb := ⟨_, rfl⟩
  rw [← hr] at HR ⊢
  clear hr
  have HC : Hid (∀ (k : Nat) (x : List UInt8), la[k]? = some x → ∃ b o v, so = some ⟨b, o, none⟩ ∧ StrR A1 w x v ∧ v.cells.size = 1 ∧ ∀ j u, v.cells[j]? = some u → w.cell? ⟨b, o + k * 1 + j, none⟩ = some u) := Lib.hid (fun k x hx => by
    rcases ha with ⟨ao, cp0, he, rfl⟩ | ⟨b, o, cap, he, _, hc⟩
    · simp at hx
    · simp at he
      obtain ⟨v, hv, hsz, hcl⟩ := hc k x hx
      exact ⟨b, o, v, he.1, hv, hsz, hcl⟩)
  have HD : Hid (∀ (k : Nat) (y : List UInt8), lb[k]? = some y → ∃ b o v, to_ = some ⟨b, o, none⟩ ∧ StrR A2 w y v ∧ v.cells.size = 1 ∧ ∀ j u, v.cells[j]? = some u → w.cell? ⟨b, o + k * 1 + j, none⟩ = some u) := Lib.hid (fun k x hx => by
    rcases hb with ⟨ao, cp0, he, rfl⟩ | ⟨b, o, cap, he, _, hc⟩
    · simp at hx
    · simp at he
      obtain ⟨v, hv, hsz, hcl⟩ := hc k x hx
      exact ⟨b, o, v, he.1, hv, hsz, hcl⟩)
  clear hF he ha hb hn hm hl1 hl2
  go_enter Tryz.func48, Tryz.ntmps48
  go_wp2
  go_loopw [16] (fun v16 wr => ∃ k : Nat, k ≤ n ∧ v16 = .int .i64 k ∧ pairT p la lb k = true ∧ Below w.heap.size w wr) (fun v16 _ => n - (intOf v16).toNat)
  case atStart => exact ⟨0, Nat.zero_le _, rfl, by simp [pairT], Below.refl _ _⟩
  case round =>
    obtain ⟨k, hk, rfl, hall, hbw⟩ := hrel
    have HA := Lib.hid hall
    have HB := Lib.hid hbw
    clear hall hbw
    by_cases hlt : k < n
    · have hkl : k < la.length := by have := HN.out; omega
      have hkm : k < lb.length := by have := HM.out; omega
      obtain ⟨x, hx⟩ : ∃ x, la[k]? = some x := ⟨_, List.getElem?_eq_getElem hkl⟩
      obtain ⟨y, hy⟩ : ∃ y, lb[k]? = some y := ⟨_, List.getElem?_eq_getElem hkm⟩
      have hoW := Only.ofBelow (S := fun _ => False) HB.out
      obtain ⟨b1, o1, ux, rfl, hux, _, hcx⟩ := HC.out k x hx
      obtain ⟨b2, o2, uy, rfl, huy, _, hcy⟩ := HD.out k y hy
      have HUX := Lib.hid (StrR.st.keep hux hoW (fun _ _ => id))
      have HUY := Lib.hid (StrR.st.keep huy hoW (fun _ _ => id))
      obtain rfl := hux
      obtain rfl := huy
      have d0 : wr.cell? ⟨b1, o1 + k, none⟩ = some (.string (S x)) := hoW.cell (a := ⟨b1, o1 + k, none⟩) (by have q := hcx 0 _ rfl; rw [Nat.mul_one] at q; exact q) id
      have HY : Hid (∀ W, Below w.heap.size w W → W.cell? ⟨b2, o2 + k, none⟩ = some (.string (S y))) := Lib.hid (fun W hW => by
        have ho := Only.ofBelow (S := fun _ => False) hW
        exact ho.cell (a := ⟨b2, o2 + k, none⟩) (by have q := hcy 0 _ rfl; rw [Nat.mul_one] at q; exact q) id)
      have HX := Lib.hid hx
      have HYY := Lib.hid hy
      have HPS := Lib.hid (pairT_succ p la lb k x y hx hy)
      rw [HA.out, Bool.true_and] at HPS
      clear hx hy hkl hkm hoW hcx hcy
      have hk0 : (0 : Int) ≤ k := by omega
      have hkn : (k : Int) < (n : Int) := by omega
      obtain ⟨W1, hW1⟩ : ∃ W1, W1 = wr := ⟨_, rfl⟩
      rw [← hW1] at HB HUX HUY d0 ⊢
      have HBR := Lib.hid (Below.refl W1.heap.size W1)
      have HB1 := HB
      clear hW1
      have HFX : Hid (∀ W, Below W1.heap.size W1 W → Calls Tryz.prog F #[.string (S x), .string (S y)] W (Said (p x y) W)) := Lib.hid (fun W hW => HF.out k x y _ _ W HX.out HYY.out (below_step HB1.out hW) (StrR.st.keep (StrR.st.keep HUX.out (Only.ofBelow (S := fun _ => False) HBR.out) (fun _ _ => id)) (Only.ofBelow (S := fun _ => False) hW) (fun _ _ => id)) (StrR.st.keep (StrR.st.keep HUY.out (Only.ofBelow (S := fun _ => False) HBR.out) (fun _ _ => id)) (Only.ofBelow (S := fun _ => False) hW) (fun _ _ => id)))
      have HS : Hid (∀ W, Below W1.heap.size W1 W → W.cell? ⟨b2, o2 + k, none⟩ = some (.string (S y))) := Lib.hid (fun W hW => HY.out W (below_step HB1.out hW))
      have g0 := HS.out _ (Below.refl _ W1)
      have he := HE.out
      go_wp2_with fail
      refine (HFX.out _ (Below.refl _ _)).mono ?_
      rintro e w1 ⟨rfl, b9⟩
      have hb9 : Below w.heap.size w w1 := by (repeat (first | (with_reducible exact HB1.out) | (with_reducible (apply below_step; rotate_left; assumption)) | (with_reducible refine below_drew ?_)))
      have HB9 := Lib.hid hb9
      clear b9 hb9 he HFX HS g0 d0
      cases hp : p x y with
      | true =>
        rw [hp] at HPS
        clear hp
        go_wp2
        go_roundw
        case rel => exact ⟨k + 1, by omega, by go_num, HPS.out, HB9.out⟩
        case measure => simp [intOf]; omega
      | false =>
        rw [hp] at HPS
        have hfin : r = false := by rw [HR.out]; exact pairT_le p la lb (k + 1) HPS.out
        subst hfin
        clear hp
        go_wp2
        go_ret
        exact ⟨rfl, HB9.out⟩
    · obtain rfl : k = n := by omega
      have hfin : r = true := by
        have h := HA.out
        unfold pairT at h
        rw [List.take_of_length_le (by rw [List.length_zip, ← HN.out, ← HM.out]; omega)] at h
        rw [HR.out]
        exact h
      subst hfin
      go_wp2
      go_ret
      exact ⟨rfl, HB.out⟩
set_option maxHeartbeats 4000000 in
set_option maxRecDepth 100000 in
theorem samel_fld {A1 A2 : Nat → Prop} (F : Nat) (p : Fld → Fld → Bool) (la lb : List (Fld)) (sa sb : Value) (w : World) (he : ∀ args w, (callFunc F args).run Tryz.prog w = .ok (.enter F args) w)
    (ha : Src 3 FldR A1 w sa la) (hb : Src 3 FldR A2 w sb lb) (hF : ∀ (k : Nat) (x y : Fld) (u v : Value) (w' : World), la[k]? = some x → lb[k]? = some y → Below w.heap.size w w' → FldR A1 w' x u → FldR A2 w' y v → Calls Tryz.prog F #[u, v] w' (Said (p x y) w')) (hl1 : la.length ≤ 9223372036854775807) (hl2 : lb.length ≤ 9223372036854775807) :
    Calls Tryz.prog 50 #[sa, sb, .func (.func F) #[] #[]] w (Said (samB p la lb) w) := by
  have HF := Lib.hid hF
  have HE := Lib.hid he
  obtain ⟨n, hn⟩ : ∃ n, n = la.length := ⟨_, rfl⟩
  obtain ⟨m, hm⟩ : ∃ m, m = lb.length := ⟨_, rfl⟩
  obtain ⟨so, sc, rfl⟩ : ∃ so sc, sa = .slice so n sc := by rw [hn]; exact ha.shape
  obtain ⟨to_, tc, rfl⟩ : ∃ so sc, sb = .slice so m sc := by rw [hm]; exact hb.shape
  have HN := Lib.hid hn
  have HM := Lib.hid hm
  have hn1 : n ≤ 9223372036854775807 := by omega
  have hm1 : m ≤ 9223372036854775807 := by omega
  by_cases hnm : n = m
  case neg =>
    have hR : samB p la lb = false := by unfold samB; rw [decide_eq_false (by rw [← hn, ← hm]; exact hnm), Bool.false_and]
    rw [hR]
    have hq : ((n : Int) != (m : Int)) = true := by rw [bne_iff_ne]; omega
    clear hF he ha hb hn hm hnm hR hl1 hl2
    go_enter Tryz.func50, Tryz.ntmps50
    go_wp2
    go_ret
    exact ⟨rfl, Below.refl _ _⟩
  subst hnm
  have HR : Hid (samB p la lb = (la.zip lb).all fun q => p q.1 q.2) := Lib.hid (by unfold samB; rw [decide_eq_true (by rw [← hn, ← hm]), Bool.true_and])
  obtain ⟨r, hr⟩ : ∃ r, r = samB p la lb := ⟨_, rfl⟩
  rw [← hr] at HR ⊢
  clear hr
  have HC : Hid (∀ (k : Nat) (x : Fld), la[k]? = some x → ∃ b o v, so = some ⟨b, o, none⟩ ∧ FldR A1 w x v ∧ v.cells.size = 3 ∧ ∀ j u, v.cells[j]? = some u → w.cell? ⟨b, o + k * 3 + j, none⟩ = some u) := Lib.hid (fun k x hx => by
    rcases ha with ⟨ao, cp0, he, rfl⟩ | ⟨b, o, cap, he, _, hc⟩
    · simp at hx
    · simp at he
      obtain ⟨v, hv, hsz, hcl⟩ := hc k x hx
      exact ⟨b, o, v, he.1, hv, hsz, hcl⟩)
  have HD : Hid (∀ (k : Nat) (y : Fld), lb[k]? = some y → ∃ b o v, to_ = some ⟨b, o, none⟩ ∧ FldR A2 w y v ∧ v.cells.size = 3 ∧ ∀ j u, v.cells[j]? = some u → w.cell? ⟨b, o + k * 3 + j, none⟩ = some u) := Lib.hid (fun k x hx => by
    rcases hb with ⟨ao, cp0, he, rfl⟩ | ⟨b, o, cap, he, _, hc⟩
    · simp at hx
    · simp at he
      obtain ⟨v, hv, hsz, hcl⟩ := hc k x hx
      exact ⟨b, o, v, he.1, hv, hsz, hcl⟩)
  clear hF he ha hb hn hm hl1 hl2
  go_enter Tryz.func50, Tryz.ntmps50
  go_wp2
  go_loopw [16] (fun v16 wr => ∃ k : Nat, k ≤ n ∧ v16 = .int .i64 k ∧ pairT p la lb k = true ∧ Below w.heap.size w wr) (fun v16 _ => n - (intOf v16).toNat)
  case atStart => exact ⟨0, Nat.zero_le _, rfl, by simp [pairT], Below.refl _ _⟩
  case round =>
    obtain ⟨k, hk, rfl, hall, hbw⟩ := hrel
    have HA := Lib.hid hall
    have HB := Lib.hid hbw
    clear hall hbw
    by_cases hlt : k < n
    · have hkl : k < la.length := by have := HN.out; omega
      have hkm : k < lb.length := by have := HM.out; omega
      obtain ⟨x, hx⟩ : ∃ x, la[k]? = some x := ⟨_, List.getElem?_eq_getElem hkl⟩
      obtain ⟨y, hy⟩ : ∃ y, lb[k]? = some y := ⟨_, List.getElem?_eq_getElem hkm⟩
      have hoW := Only.ofBelow (S := fun _ => False) HB.out
      obtain ⟨b1, o1, ux, rfl, hux, _, hcx⟩ := HC.out k x hx
      obtain ⟨b2, o2, uy, rfl, huy, _, hcy⟩ := HD.out k y hy
      have HUX := Lib.hid (FldR.st.keep hux hoW (fun _ _ => id))
      have HUY := Lib.hid (FldR.st.keep huy hoW (fun _ _ => id))
      obtain rfl := hux
      obtain rfl := huy
      have d0 : wr.cell? ⟨b1, o1 + k * 3, none⟩ = some (.string (S x.name)) := hoW.cell (a := ⟨b1, o1 + k * 3, none⟩) (hcx 0 _ rfl) id
      have d1 : wr.cell? ⟨b1, o1 + k * 3 + 1, none⟩ = some (.string (S x.kind)) := hoW.cell (a := ⟨b1, o1 + k * 3 + 1, none⟩) (hcx 1 _ rfl) id
      have d2 : wr.cell? ⟨b1, o1 + k * 3 + 2, none⟩ = some (.bool x.tr) := hoW.cell (a := ⟨b1, o1 + k * 3 + 2, none⟩) (hcx 2 _ rfl) id
      have HY : Hid (∀ W, Below w.heap.size w W → W.cell? ⟨b2, o2 + k * 3, none⟩ = some (.string (S y.name)) ∧ W.cell? ⟨b2, o2 + k * 3 + 1, none⟩ = some (.string (S y.kind)) ∧ W.cell? ⟨b2, o2 + k * 3 + 2, none⟩ = some (.bool y.tr)) := Lib.hid (fun W hW => by
        have ho := Only.ofBelow (S := fun _ => False) hW
        exact ⟨ho.cell (a := ⟨b2, o2 + k * 3, none⟩) (hcy 0 _ rfl) id, ho.cell (a := ⟨b2, o2 + k * 3 + 1, none⟩) (hcy 1 _ rfl) id, ho.cell (a := ⟨b2, o2 + k * 3 + 2, none⟩) (hcy 2 _ rfl) id⟩)
      have HX := Lib.hid hx
      have HYY := Lib.hid hy
      have HPS := Lib.hid (pairT_succ p la lb k x y hx hy)
      rw [HA.out, Bool.true_and] at HPS
      clear hx hy hkl hkm hoW hcx hcy
      have hk0 : (0 : Int) ≤ k := by omega
      have hkn : (k : Int) < (n : Int) := by omega
      go_upto_region 6 with fail
      have HBR := Lib.hid (show Below wr.heap.size wr (wr.alloc (.cells #[.string (S x.name), .string (S x.kind), .bool x.tr] 62)) from (Below.refl _ wr).alloc (Nat.le_refl _) _)
      have HB1 := Lib.hid (below_step HB.out HBR.out)
      have HBX := Lib.hid (Box.new wr #[.string (S x.name), .string (S x.kind), .bool x.tr] 62)
      generalize wr.alloc (.cells #[.string (S x.name), .string (S x.kind), .bool x.tr] 62) = W1 at HBR HB1 HBX ⊢
      generalize wr.heap.size = H at HBX ⊢
      have HFX : Hid (∀ W, Below W1.heap.size W1 W → Calls Tryz.prog F #[.agg #[.string (S x.name), .string (S x.kind), .bool x.tr], .agg #[.string (S y.name), .string (S y.kind), .bool y.tr]] W (Said (p x y) W)) := Lib.hid (fun W hW => HF.out k x y _ _ W HX.out HYY.out (below_step HB1.out hW) (FldR.st.keep (FldR.st.keep HUX.out (Only.ofBelow (S := fun _ => False) HBR.out) (fun _ _ => id)) (Only.ofBelow (S := fun _ => False) hW) (fun _ _ => id)) (FldR.st.keep (FldR.st.keep HUY.out (Only.ofBelow (S := fun _ => False) HBR.out) (fun _ _ => id)) (Only.ofBelow (S := fun _ => False) hW) (fun _ _ => id)))
      have HS : Hid (∀ W, Below W1.heap.size W1 W → W.cell? ⟨H, 0, none⟩ = some (.string (S x.name)) ∧ W.cell? ⟨H, 1, none⟩ = some (.string (S x.kind)) ∧ W.cell? ⟨H, 2, none⟩ = some (.bool x.tr) ∧ W.cell? ⟨b2, o2 + k * 3, none⟩ = some (.string (S y.name)) ∧ W.cell? ⟨b2, o2 + k * 3 + 1, none⟩ = some (.string (S y.kind)) ∧ W.cell? ⟨b2, o2 + k * 3 + 2, none⟩ = some (.bool y.tr)) := Lib.hid (fun W hW => ⟨(HBX.out.below hW).cell 0 rfl, (HBX.out.below hW).cell 1 rfl, (HBX.out.below hW).cell 2 rfl, HY.out W (below_step HB1.out hW)⟩)
      obtain ⟨g0, g1, g2, g3, g4, g5⟩ := HS.out _ (Below.refl _ W1)
      have he := HE.out
      clear d0 d1 d2
      first
      | (go_region_held (fun W => W.cell? ⟨H, 0, none⟩ = some (.string (S x.name)) ∧ W.cell? ⟨H, 1, none⟩ = some (.string (S x.kind)) ∧ W.cell? ⟨H, 2, none⟩ = some (.bool x.tr) ∧ W.cell? ⟨b2, o2 + k * 3, none⟩ = some (.string (S y.name)) ∧ W.cell? ⟨b2, o2 + k * 3 + 1, none⟩ = some (.string (S y.kind)) ∧ W.cell? ⟨b2, o2 + k * 3 + 2, none⟩ = some (.bool y.tr)) ((refine HS.out _ ?_; (repeat (first | (with_reducible exact Below.refl _ _) | (with_reducible (apply below_step; rotate_left; assumption)) | (with_reducible refine below_alloc ?_ _) | (with_reducible refine below_drew ?_)))))
          (first | ((with_reducible refine (HFX.out _ ?_).mono ?_); (focus ((repeat (first | (with_reducible exact Below.refl _ _) | (with_reducible (apply below_step; rotate_left; assumption)) | (with_reducible refine below_alloc ?_ _) | (with_reducible refine below_drew ?_))); done)); rintro e w1 ⟨rfl, b9⟩)))
      | fail
      have hb9 : Below w.heap.size w w1 := by (repeat (first | (with_reducible exact HB1.out) | (with_reducible (apply below_step; rotate_left; assumption)) | (with_reducible refine below_drew ?_)))
      have HB9 := Lib.hid hb9
      clear b9 hb9 he HFX HS g0 g1 g2 g3 g4 g5
      cases hp : p x y with
      | true =>
        rw [hp] at HPS
        clear hp
        go_wp2
        go_roundw
        case rel => exact ⟨k + 1, by omega, by go_num, HPS.out, HB9.out⟩
        case measure => simp [intOf]; omega
      | false =>
        rw [hp] at HPS
        have hfin : r = false := by rw [HR.out]; exact pairT_le p la lb (k + 1) HPS.out
        subst hfin
        clear hp
        go_wp2
        go_ret
        exact ⟨rfl, HB9.out⟩
    · obtain rfl : k = n := by omega
      have hfin : r = true := by
        have h := HA.out
        unfold pairT at h
        rw [List.take_of_length_le (by rw [List.length_zip, ← HN.out, ← HM.out]; omega)] at h
        rw [HR.out]
        exact h
      subst hfin
      go_wp2
      go_ret
      exact ⟨rfl, HB.out⟩
set_option maxHeartbeats 4000000 in
set_option maxRecDepth 100000 in
theorem samel_ins {A1 A2 : Nat → Prop} (F : Nat) (p : Ins → Ins → Bool) (la lb : List (Ins)) (sa sb : Value) (w : World) (he : ∀ args w, (callFunc F args).run Tryz.prog w = .ok (.enter F args) w)
    (ha : Src 3 InsR A1 w sa la) (hb : Src 3 InsR A2 w sb lb) (hF : ∀ (k : Nat) (x y : Ins) (u v : Value) (w' : World), la[k]? = some x → lb[k]? = some y → Below w.heap.size w w' → InsR A1 w' x u → InsR A2 w' y v → Calls Tryz.prog F #[u, v] w' (Said (p x y) w')) (hl1 : la.length ≤ 9223372036854775807) (hl2 : lb.length ≤ 9223372036854775807) :
    Calls Tryz.prog 106 #[sa, sb, .func (.func F) #[] #[]] w (Said (samB p la lb) w) := by
  have HF := Lib.hid hF
  have HE := Lib.hid he
  obtain ⟨n, hn⟩ : ∃ n, n = la.length := ⟨_, rfl⟩
  obtain ⟨m, hm⟩ : ∃ m, m = lb.length := ⟨_, rfl⟩
  obtain ⟨so, sc, rfl⟩ : ∃ so sc, sa = .slice so n sc := by rw [hn]; exact ha.shape
  obtain ⟨to_, tc, rfl⟩ : ∃ so sc, sb = .slice so m sc := by rw [hm]; exact hb.shape
  have HN := Lib.hid hn
  have HM := Lib.hid hm
  have hn1 : n ≤ 9223372036854775807 := by omega
  have hm1 : m ≤ 9223372036854775807 := by omega
  by_cases hnm : n = m
  case neg =>
    have hR : samB p la lb = false := by unfold samB; rw [decide_eq_false (by rw [← hn, ← hm]; exact hnm), Bool.false_and]
    rw [hR]
    have hq : ((n : Int) != (m : Int)) = true := by rw [bne_iff_ne]; omega
    clear hF he ha hb hn hm hnm hR hl1 hl2
    go_enter Tryz.func106, Tryz.ntmps106
    go_wp2
    go_ret
    exact ⟨rfl, Below.refl _ _⟩
  subst hnm
  have HR : Hid (samB p la lb = (la.zip lb).all fun q => p q.1 q.2) := Lib.hid (by unfold samB; rw [decide_eq_true (by rw [← hn, ← hm]), Bool.true_and])
  obtain ⟨r, hr⟩ : ∃ r, r = samB p la lb := ⟨_, rfl⟩
  rw [← hr] at HR ⊢
  clear hr
  have HC : Hid (∀ (k : Nat) (x : Ins), la[k]? = some x → ∃ b o v, so = some ⟨b, o, none⟩ ∧ InsR A1 w x v ∧ v.cells.size = 3 ∧ ∀ j u, v.cells[j]? = some u → w.cell? ⟨b, o + k * 3 + j, none⟩ = some u) := Lib.hid (fun k x hx => by
    rcases ha with ⟨ao, cp0, he, rfl⟩ | ⟨b, o, cap, he, _, hc⟩
    · simp at hx
    · simp at he
      obtain ⟨v, hv, hsz, hcl⟩ := hc k x hx
      exact ⟨b, o, v, he.1, hv, hsz, hcl⟩)
  have HD : Hid (∀ (k : Nat) (y : Ins), lb[k]? = some y → ∃ b o v, to_ = some ⟨b, o, none⟩ ∧ InsR A2 w y v ∧ v.cells.size = 3 ∧ ∀ j u, v.cells[j]? = some u → w.cell? ⟨b, o + k * 3 + j, none⟩ = some u) := Lib.hid (fun k x hx => by
    rcases hb with ⟨ao, cp0, he, rfl⟩ | ⟨b, o, cap, he, _, hc⟩
    · simp at hx
    · simp at he
      obtain ⟨v, hv, hsz, hcl⟩ := hc k x hx
      exact ⟨b, o, v, he.1, hv, hsz, hcl⟩)
  clear hF he ha hb hn hm hl1 hl2
  go_enter Tryz.func106, Tryz.ntmps106
  go_wp2
  go_loopw [16] (fun v16 wr => ∃ k : Nat, k ≤ n ∧ v16 = .int .i64 k ∧ pairT p la lb k = true ∧ Below w.heap.size w wr) (fun v16 _ => n - (intOf v16).toNat)
  case atStart => exact ⟨0, Nat.zero_le _, rfl, by simp [pairT], Below.refl _ _⟩
  case round =>
    obtain ⟨k, hk, rfl, hall, hbw⟩ := hrel
    have HA := Lib.hid hall
    have HB := Lib.hid hbw
    clear hall hbw
    by_cases hlt : k < n
    · have hkl : k < la.length := by have := HN.out; omega
      have hkm : k < lb.length := by have := HM.out; omega
      obtain ⟨x, hx⟩ : ∃ x, la[k]? = some x := ⟨_, List.getElem?_eq_getElem hkl⟩
      obtain ⟨y, hy⟩ : ∃ y, lb[k]? = some y := ⟨_, List.getElem?_eq_getElem hkm⟩
      have hoW := Only.ofBelow (S := fun _ => False) HB.out
      obtain ⟨b1, o1, ux, rfl, hux, _, hcx⟩ := HC.out k x hx
      obtain ⟨b2, o2, uy, rfl, huy, _, hcy⟩ := HD.out k y hy
      have HUX := Lib.hid (InsR.st.keep hux hoW (fun _ _ => id))
      have HUY := Lib.hid (InsR.st.keep huy hoW (fun _ _ => id))
      obtain rfl := hux
      obtain rfl := huy
      have d0 : wr.cell? ⟨b1, o1 + k * 3, none⟩ = some (.string (S x.op)) := hoW.cell (a := ⟨b1, o1 + k * 3, none⟩) (hcx 0 _ rfl) id
      have d1 : wr.cell? ⟨b1, o1 + k * 3 + 1, none⟩ = some (.int .i64 x.n) := hoW.cell (a := ⟨b1, o1 + k * 3 + 1, none⟩) (hcx 1 _ rfl) id
      have d2 : wr.cell? ⟨b1, o1 + k * 3 + 2, none⟩ = some (.string (S x.s)) := hoW.cell (a := ⟨b1, o1 + k * 3 + 2, none⟩) (hcx 2 _ rfl) id
      have HY : Hid (∀ W, Below w.heap.size w W → W.cell? ⟨b2, o2 + k * 3, none⟩ = some (.string (S y.op)) ∧ W.cell? ⟨b2, o2 + k * 3 + 1, none⟩ = some (.int .i64 y.n) ∧ W.cell? ⟨b2, o2 + k * 3 + 2, none⟩ = some (.string (S y.s))) := Lib.hid (fun W hW => by
        have ho := Only.ofBelow (S := fun _ => False) hW
        exact ⟨ho.cell (a := ⟨b2, o2 + k * 3, none⟩) (hcy 0 _ rfl) id, ho.cell (a := ⟨b2, o2 + k * 3 + 1, none⟩) (hcy 1 _ rfl) id, ho.cell (a := ⟨b2, o2 + k * 3 + 2, none⟩) (hcy 2 _ rfl) id⟩)
      have HX := Lib.hid hx
      have HYY := Lib.hid hy
      have HPS := Lib.hid (pairT_succ p la lb k x y hx hy)
      rw [HA.out, Bool.true_and] at HPS
      clear hx hy hkl hkm hoW hcx hcy
      have hk0 : (0 : Int) ≤ k := by omega
      have hkn : (k : Int) < (n : Int) := by omega
      go_upto_region 6 with fail
      have HBR := Lib.hid (show Below wr.heap.size wr (wr.alloc (.cells #[.string (S x.op), .int .i64 x.n, .string (S x.s)] 70)) from (Below.refl _ wr).alloc (Nat.le_refl _) _)
      have HB1 := Lib.hid (below_step HB.out HBR.out)
      have HBX := Lib.hid (Box.new wr #[.string (S x.op), .int .i64 x.n, .string (S x.s)] 70)
      generalize wr.alloc (.cells #[.string (S x.op), .int .i64 x.n, .string (S x.s)] 70) = W1 at HBR HB1 HBX ⊢
      generalize wr.heap.size = H at HBX ⊢
      have HFX : Hid (∀ W, Below W1.heap.size W1 W → Calls Tryz.prog F #[.agg #[.string (S x.op), .int .i64 x.n, .string (S x.s)], .agg #[.string (S y.op), .int .i64 y.n, .string (S y.s)]] W (Said (p x y) W)) := Lib.hid (fun W hW => HF.out k x y _ _ W HX.out HYY.out (below_step HB1.out hW) (InsR.st.keep (InsR.st.keep HUX.out (Only.ofBelow (S := fun _ => False) HBR.out) (fun _ _ => id)) (Only.ofBelow (S := fun _ => False) hW) (fun _ _ => id)) (InsR.st.keep (InsR.st.keep HUY.out (Only.ofBelow (S := fun _ => False) HBR.out) (fun _ _ => id)) (Only.ofBelow (S := fun _ => False) hW) (fun _ _ => id)))
      have HS : Hid (∀ W, Below W1.heap.size W1 W → W.cell? ⟨H, 0, none⟩ = some (.string (S x.op)) ∧ W.cell? ⟨H, 1, none⟩ = some (.int .i64 x.n) ∧ W.cell? ⟨H, 2, none⟩ = some (.string (S x.s)) ∧ W.cell? ⟨b2, o2 + k * 3, none⟩ = some (.string (S y.op)) ∧ W.cell? ⟨b2, o2 + k * 3 + 1, none⟩ = some (.int .i64 y.n) ∧ W.cell? ⟨b2, o2 + k * 3 + 2, none⟩ = some (.string (S y.s))) := Lib.hid (fun W hW => ⟨(HBX.out.below hW).cell 0 rfl, (HBX.out.below hW).cell 1 rfl, (HBX.out.below hW).cell 2 rfl, HY.out W (below_step HB1.out hW)⟩)
      obtain ⟨g0, g1, g2, g3, g4, g5⟩ := HS.out _ (Below.refl _ W1)
      have he := HE.out
      clear d0 d1 d2
      first
      | (go_region_held (fun W => W.cell? ⟨H, 0, none⟩ = some (.string (S x.op)) ∧ W.cell? ⟨H, 1, none⟩ = some (.int .i64 x.n) ∧ W.cell? ⟨H, 2, none⟩ = some (.string (S x.s)) ∧ W.cell? ⟨b2, o2 + k * 3, none⟩ = some (.string (S y.op)) ∧ W.cell? ⟨b2, o2 + k * 3 + 1, none⟩ = some (.int .i64 y.n) ∧ W.cell? ⟨b2, o2 + k * 3 + 2, none⟩ = some (.string (S y.s))) ((refine HS.out _ ?_; (repeat (first | (with_reducible exact Below.refl _ _) | (with_reducible (apply below_step; rotate_left; assumption)) | (with_reducible refine below_alloc ?_ _) | (with_reducible refine below_drew ?_)))))
          (first | ((with_reducible refine (HFX.out _ ?_).mono ?_); (focus ((repeat (first | (with_reducible exact Below.refl _ _) | (with_reducible (apply below_step; rotate_left; assumption)) | (with_reducible refine below_alloc ?_ _) | (with_reducible refine below_drew ?_))); done)); rintro e w1 ⟨rfl, b9⟩)))
      | fail
      have hb9 : Below w.heap.size w w1 := by (repeat (first | (with_reducible exact HB1.out) | (with_reducible (apply below_step; rotate_left; assumption)) | (with_reducible refine below_drew ?_)))
      have HB9 := Lib.hid hb9
      clear b9 hb9 he HFX HS g0 g1 g2 g3 g4 g5
      cases hp : p x y with
      | true =>
        rw [hp] at HPS
        clear hp
        go_wp2
        go_roundw
        case rel => exact ⟨k + 1, by omega, by go_num, HPS.out, HB9.out⟩
        case measure => simp [intOf]; omega
      | false =>
        rw [hp] at HPS
        have hfin : r = false := by rw [HR.out]; exact pairT_le p la lb (k + 1) HPS.out
        subst hfin
        clear hp
        go_wp2
        go_ret
        exact ⟨rfl, HB9.out⟩
    · obtain rfl : k = n := by omega
      have hfin : r = true := by
        have h := HA.out
        unfold pairT at h
        rw [List.take_of_length_le (by rw [List.length_zip, ← HN.out, ← HM.out]; omega)] at h
        rw [HR.out]
        exact h
      subst hfin
      go_wp2
      go_ret
      exact ⟨rfl, HB.out⟩
set_option maxHeartbeats 4000000 in
set_option maxRecDepth 100000 in
theorem samel_cat {A1 A2 : Nat → Prop} (F : Nat) (p : Cat → Cat → Bool) (la lb : List (Cat)) (sa sb : Value) (w : World) (he : ∀ args w, (callFunc F args).run Tryz.prog w = .ok (.enter F args) w)
    (ha : Src 4 CatR A1 w sa la) (hb : Src 4 CatR A2 w sb lb) (hF : ∀ (k : Nat) (x y : Cat) (u v : Value) (w' : World), la[k]? = some x → lb[k]? = some y → Below w.heap.size w w' → CatR A1 w' x u → CatR A2 w' y v → Calls Tryz.prog F #[u, v] w' (Said (p x y) w')) (hl1 : la.length ≤ 9223372036854775807) (hl2 : lb.length ≤ 9223372036854775807) :
    Calls Tryz.prog 108 #[sa, sb, .func (.func F) #[] #[]] w (Said (samB p la lb) w) := by
  have HF := Lib.hid hF
  have HE := Lib.hid he
  obtain ⟨n, hn⟩ : ∃ n, n = la.length := ⟨_, rfl⟩
  obtain ⟨m, hm⟩ : ∃ m, m = lb.length := ⟨_, rfl⟩
  obtain ⟨so, sc, rfl⟩ : ∃ so sc, sa = .slice so n sc := by rw [hn]; exact ha.shape
  obtain ⟨to_, tc, rfl⟩ : ∃ so sc, sb = .slice so m sc := by rw [hm]; exact hb.shape
  have HN := Lib.hid hn
  have HM := Lib.hid hm
  have hn1 : n ≤ 9223372036854775807 := by omega
  have hm1 : m ≤ 9223372036854775807 := by omega
  by_cases hnm : n = m
  case neg =>
    have hR : samB p la lb = false := by unfold samB; rw [decide_eq_false (by rw [← hn, ← hm]; exact hnm), Bool.false_and]
    rw [hR]
    have hq : ((n : Int) != (m : Int)) = true := by rw [bne_iff_ne]; omega
    clear hF he ha hb hn hm hnm hR hl1 hl2
    go_enter Tryz.func108, Tryz.ntmps108
    go_wp2
    go_ret
    exact ⟨rfl, Below.refl _ _⟩
  subst hnm
  have HR : Hid (samB p la lb = (la.zip lb).all fun q => p q.1 q.2) := Lib.hid (by unfold samB; rw [decide_eq_true (by rw [← hn, ← hm]), Bool.true_and])
  obtain ⟨r, hr⟩ : ∃ r, r = samB p la lb := ⟨_, rfl⟩
  rw [← hr] at HR ⊢
  clear hr
  have HC : Hid (∀ (k : Nat) (x : Cat), la[k]? = some x → ∃ b o v, so = some ⟨b, o, none⟩ ∧ CatR A1 w x v ∧ v.cells.size = 4 ∧ ∀ j u, v.cells[j]? = some u → w.cell? ⟨b, o + k * 4 + j, none⟩ = some u) := Lib.hid (fun k x hx => by
    rcases ha with ⟨ao, cp0, he, rfl⟩ | ⟨b, o, cap, he, _, hc⟩
    · simp at hx
    · simp at he
      obtain ⟨v, hv, hsz, hcl⟩ := hc k x hx
      exact ⟨b, o, v, he.1, hv, hsz, hcl⟩)
  have HD : Hid (∀ (k : Nat) (y : Cat), lb[k]? = some y → ∃ b o v, to_ = some ⟨b, o, none⟩ ∧ CatR A2 w y v ∧ v.cells.size = 4 ∧ ∀ j u, v.cells[j]? = some u → w.cell? ⟨b, o + k * 4 + j, none⟩ = some u) := Lib.hid (fun k x hx => by
    rcases hb with ⟨ao, cp0, he, rfl⟩ | ⟨b, o, cap, he, _, hc⟩
    · simp at hx
    · simp at he
      obtain ⟨v, hv, hsz, hcl⟩ := hc k x hx
      exact ⟨b, o, v, he.1, hv, hsz, hcl⟩)
  clear hF he ha hb hn hm hl1 hl2
  go_enter Tryz.func108, Tryz.ntmps108
  go_wp2
  go_loopw [16] (fun v16 wr => ∃ k : Nat, k ≤ n ∧ v16 = .int .i64 k ∧ pairT p la lb k = true ∧ Below w.heap.size w wr) (fun v16 _ => n - (intOf v16).toNat)
  case atStart => exact ⟨0, Nat.zero_le _, rfl, by simp [pairT], Below.refl _ _⟩
  case round =>
    obtain ⟨k, hk, rfl, hall, hbw⟩ := hrel
    have HA := Lib.hid hall
    have HB := Lib.hid hbw
    clear hall hbw
    by_cases hlt : k < n
    · have hkl : k < la.length := by have := HN.out; omega
      have hkm : k < lb.length := by have := HM.out; omega
      obtain ⟨x, hx⟩ : ∃ x, la[k]? = some x := ⟨_, List.getElem?_eq_getElem hkl⟩
      obtain ⟨y, hy⟩ : ∃ y, lb[k]? = some y := ⟨_, List.getElem?_eq_getElem hkm⟩
      have hoW := Only.ofBelow (S := fun _ => False) HB.out
      obtain ⟨b1, o1, ux, rfl, hux, _, hcx⟩ := HC.out k x hx
      obtain ⟨b2, o2, uy, rfl, huy, _, hcy⟩ := HD.out k y hy
      have HUX := Lib.hid (CatR.st.keep hux hoW (fun _ _ => id))
      have HUY := Lib.hid (CatR.st.keep huy hoW (fun _ _ => id))
      obtain rfl := hux
      obtain rfl := huy
      have d0 : wr.cell? ⟨b1, o1 + k * 4, none⟩ = some (.int .i64 x.fr) := hoW.cell (a := ⟨b1, o1 + k * 4, none⟩) (hcx 0 _ rfl) id
      have d1 : wr.cell? ⟨b1, o1 + k * 4 + 1, none⟩ = some (.int .i64 x.till) := hoW.cell (a := ⟨b1, o1 + k * 4 + 1, none⟩) (hcx 1 _ rfl) id
      have d2 : wr.cell? ⟨b1, o1 + k * 4 + 2, none⟩ = some (.int .i64 x.at_) := hoW.cell (a := ⟨b1, o1 + k * 4 + 2, none⟩) (hcx 2 _ rfl) id
      have d3 : wr.cell? ⟨b1, o1 + k * 4 + 3, none⟩ = some (.string (S x.cls)) := hoW.cell (a := ⟨b1, o1 + k * 4 + 3, none⟩) (hcx 3 _ rfl) id
      have HY : Hid (∀ W, Below w.heap.size w W → W.cell? ⟨b2, o2 + k * 4, none⟩ = some (.int .i64 y.fr) ∧ W.cell? ⟨b2, o2 + k * 4 + 1, none⟩ = some (.int .i64 y.till) ∧ W.cell? ⟨b2, o2 + k * 4 + 2, none⟩ = some (.int .i64 y.at_) ∧ W.cell? ⟨b2, o2 + k * 4 + 3, none⟩ = some (.string (S y.cls))) := Lib.hid (fun W hW => by
        have ho := Only.ofBelow (S := fun _ => False) hW
        exact ⟨ho.cell (a := ⟨b2, o2 + k * 4, none⟩) (hcy 0 _ rfl) id, ho.cell (a := ⟨b2, o2 + k * 4 + 1, none⟩) (hcy 1 _ rfl) id, ho.cell (a := ⟨b2, o2 + k * 4 + 2, none⟩) (hcy 2 _ rfl) id, ho.cell (a := ⟨b2, o2 + k * 4 + 3, none⟩) (hcy 3 _ rfl) id⟩)
      have HX := Lib.hid hx
      have HYY := Lib.hid hy
      have HPS := Lib.hid (pairT_succ p la lb k x y hx hy)
      rw [HA.out, Bool.true_and] at HPS
      clear hx hy hkl hkm hoW hcx hcy
      have hk0 : (0 : Int) ≤ k := by omega
      have hkn : (k : Int) < (n : Int) := by omega
      go_upto_region 6 with fail
      have HBR := Lib.hid (show Below wr.heap.size wr (wr.alloc (.cells #[.int .i64 x.fr, .int .i64 x.till, .int .i64 x.at_, .string (S x.cls)] 141)) from (Below.refl _ wr).alloc (Nat.le_refl _) _)
      have HB1 := Lib.hid (below_step HB.out HBR.out)
      have HBX := Lib.hid (Box.new wr #[.int .i64 x.fr, .int .i64 x.till, .int .i64 x.at_, .string (S x.cls)] 141)
      generalize wr.alloc (.cells #[.int .i64 x.fr, .int .i64 x.till, .int .i64 x.at_, .string (S x.cls)] 141) = W1 at HBR HB1 HBX ⊢
      generalize wr.heap.size = H at HBX ⊢
      have HFX : Hid (∀ W, Below W1.heap.size W1 W → Calls Tryz.prog F #[.agg #[.int .i64 x.fr, .int .i64 x.till, .int .i64 x.at_, .string (S x.cls)], .agg #[.int .i64 y.fr, .int .i64 y.till, .int .i64 y.at_, .string (S y.cls)]] W (Said (p x y) W)) := Lib.hid (fun W hW => HF.out k x y _ _ W HX.out HYY.out (below_step HB1.out hW) (CatR.st.keep (CatR.st.keep HUX.out (Only.ofBelow (S := fun _ => False) HBR.out) (fun _ _ => id)) (Only.ofBelow (S := fun _ => False) hW) (fun _ _ => id)) (CatR.st.keep (CatR.st.keep HUY.out (Only.ofBelow (S := fun _ => False) HBR.out) (fun _ _ => id)) (Only.ofBelow (S := fun _ => False) hW) (fun _ _ => id)))
      have HS : Hid (∀ W, Below W1.heap.size W1 W → W.cell? ⟨H, 0, none⟩ = some (.int .i64 x.fr) ∧ W.cell? ⟨H, 1, none⟩ = some (.int .i64 x.till) ∧ W.cell? ⟨H, 2, none⟩ = some (.int .i64 x.at_) ∧ W.cell? ⟨H, 3, none⟩ = some (.string (S x.cls)) ∧ W.cell? ⟨b2, o2 + k * 4, none⟩ = some (.int .i64 y.fr) ∧ W.cell? ⟨b2, o2 + k * 4 + 1, none⟩ = some (.int .i64 y.till) ∧ W.cell? ⟨b2, o2 + k * 4 + 2, none⟩ = some (.int .i64 y.at_) ∧ W.cell? ⟨b2, o2 + k * 4 + 3, none⟩ = some (.string (S y.cls))) := Lib.hid (fun W hW => ⟨(HBX.out.below hW).cell 0 rfl, (HBX.out.below hW).cell 1 rfl, (HBX.out.below hW).cell 2 rfl, (HBX.out.below hW).cell 3 rfl, HY.out W (below_step HB1.out hW)⟩)
      obtain ⟨g0, g1, g2, g3, g4, g5, g6, g7⟩ := HS.out _ (Below.refl _ W1)
      have he := HE.out
      clear d0 d1 d2 d3
      first
      | (go_region_held (fun W => W.cell? ⟨H, 0, none⟩ = some (.int .i64 x.fr) ∧ W.cell? ⟨H, 1, none⟩ = some (.int .i64 x.till) ∧ W.cell? ⟨H, 2, none⟩ = some (.int .i64 x.at_) ∧ W.cell? ⟨H, 3, none⟩ = some (.string (S x.cls)) ∧ W.cell? ⟨b2, o2 + k * 4, none⟩ = some (.int .i64 y.fr) ∧ W.cell? ⟨b2, o2 + k * 4 + 1, none⟩ = some (.int .i64 y.till) ∧ W.cell? ⟨b2, o2 + k * 4 + 2, none⟩ = some (.int .i64 y.at_) ∧ W.cell? ⟨b2, o2 + k * 4 + 3, none⟩ = some (.string (S y.cls))) ((refine HS.out _ ?_; (repeat (first | (with_reducible exact Below.refl _ _) | (with_reducible (apply below_step; rotate_left; assumption)) | (with_reducible refine below_alloc ?_ _) | (with_reducible refine below_drew ?_)))))
          (first | ((with_reducible refine (HFX.out _ ?_).mono ?_); (focus ((repeat (first | (with_reducible exact Below.refl _ _) | (with_reducible (apply below_step; rotate_left; assumption)) | (with_reducible refine below_alloc ?_ _) | (with_reducible refine below_drew ?_))); done)); rintro e w1 ⟨rfl, b9⟩)))
      | fail
      have hb9 : Below w.heap.size w w1 := by (repeat (first | (with_reducible exact HB1.out) | (with_reducible (apply below_step; rotate_left; assumption)) | (with_reducible refine below_drew ?_)))
      have HB9 := Lib.hid hb9
      clear b9 hb9 he HFX HS g0 g1 g2 g3 g4 g5 g6 g7
      cases hp : p x y with
      | true =>
        rw [hp] at HPS
        clear hp
        go_wp2
        go_roundw
        case rel => exact ⟨k + 1, by omega, by go_num, HPS.out, HB9.out⟩
        case measure => simp [intOf]; omega
      | false =>
        rw [hp] at HPS
        have hfin : r = false := by rw [HR.out]; exact pairT_le p la lb (k + 1) HPS.out
        subst hfin
        clear hp
        go_wp2
        go_ret
        exact ⟨rfl, HB9.out⟩
    · obtain rfl : k = n := by omega
      have hfin : r = true := by
        have h := HA.out
        unfold pairT at h
        rw [List.take_of_length_le (by rw [List.length_zip, ← HN.out, ← HM.out]; omega)] at h
        rw [HR.out]
        exact h
      subst hfin
      go_wp2
      go_ret
      exact ⟨rfl, HB.out⟩
set_option maxHeartbeats 4000000 in
set_option maxRecDepth 100000 in
theorem samel_mth {A1 A2 : Nat → Prop} (F : Nat) (p : Mth → Mth → Bool) (la lb : List (Mth)) (sa sb : Value) (w : World) (he : ∀ args w, (callFunc F args).run Tryz.prog w = .ok (.enter F args) w)
    (ha : Src 7 MthR A1 w sa la) (hb : Src 7 MthR A2 w sb lb) (hF : ∀ (k : Nat) (x y : Mth) (u v : Value) (w' : World), la[k]? = some x → lb[k]? = some y → Below w.heap.size w w' → MthR A1 w' x u → MthR A2 w' y v → Calls Tryz.prog F #[u, v] w' (Said (p x y) w')) (hl1 : la.length ≤ 9223372036854775807) (hl2 : lb.length ≤ 9223372036854775807) :
    Calls Tryz.prog 52 #[sa, sb, .func (.func F) #[] #[]] w (Said (samB p la lb) w) := by
  have HF := Lib.hid hF
  have HE := Lib.hid he
  obtain ⟨n, hn⟩ : ∃ n, n = la.length := ⟨_, rfl⟩
  obtain ⟨m, hm⟩ : ∃ m, m = lb.length := ⟨_, rfl⟩
  obtain ⟨so, sc, rfl⟩ : ∃ so sc, sa = .slice so n sc := by rw [hn]; exact ha.shape
  obtain ⟨to_, tc, rfl⟩ : ∃ so sc, sb = .slice so m sc := by rw [hm]; exact hb.shape
  have HN := Lib.hid hn
  have HM := Lib.hid hm
  have hn1 : n ≤ 9223372036854775807 := by omega
  have hm1 : m ≤ 9223372036854775807 := by omega
  by_cases hnm : n = m
  case neg =>
    have hR : samB p la lb = false := by unfold samB; rw [decide_eq_false (by rw [← hn, ← hm]; exact hnm), Bool.false_and]
    rw [hR]
    have hq : ((n : Int) != (m : Int)) = true := by rw [bne_iff_ne]; omega
    clear hF he ha hb hn hm hnm hR hl1 hl2
    go_enter Tryz.func52, Tryz.ntmps52
    go_wp2
    go_ret
    exact ⟨rfl, Below.refl _ _⟩
  subst hnm
  have HR : Hid (samB p la lb = (la.zip lb).all fun q => p q.1 q.2) := Lib.hid (by unfold samB; rw [decide_eq_true (by rw [← hn, ← hm]), Bool.true_and])
  obtain ⟨r, hr⟩ : ∃ r, r = samB p la lb := ⟨_, rfl⟩
  rw [← hr] at HR ⊢
  clear hr
  have HC : Hid (∀ (k : Nat) (x : Mth), la[k]? = some x → ∃ b o v, so = some ⟨b, o, none⟩ ∧ MthR A1 w x v ∧ v.cells.size = 7 ∧ ∀ j u, v.cells[j]? = some u → w.cell? ⟨b, o + k * 7 + j, none⟩ = some u) := Lib.hid (fun k x hx => by
    rcases ha with ⟨ao, cp0, he, rfl⟩ | ⟨b, o, cap, he, _, hc⟩
    · simp at hx
    · simp at he
      obtain ⟨v, hv, hsz, hcl⟩ := hc k x hx
      exact ⟨b, o, v, he.1, hv, hsz, hcl⟩)
  have HD : Hid (∀ (k : Nat) (y : Mth), lb[k]? = some y → ∃ b o v, to_ = some ⟨b, o, none⟩ ∧ MthR A2 w y v ∧ v.cells.size = 7 ∧ ∀ j u, v.cells[j]? = some u → w.cell? ⟨b, o + k * 7 + j, none⟩ = some u) := Lib.hid (fun k x hx => by
    rcases hb with ⟨ao, cp0, he, rfl⟩ | ⟨b, o, cap, he, _, hc⟩
    · simp at hx
    · simp at he
      obtain ⟨v, hv, hsz, hcl⟩ := hc k x hx
      exact ⟨b, o, v, he.1, hv, hsz, hcl⟩)
  clear hF he ha hb hn hm hl1 hl2
  go_enter Tryz.func52, Tryz.ntmps52
  go_wp2
  go_loopw [16] (fun v16 wr => ∃ k : Nat, k ≤ n ∧ v16 = .int .i64 k ∧ pairT p la lb k = true ∧ Below w.heap.size w wr) (fun v16 _ => n - (intOf v16).toNat)
  case atStart => exact ⟨0, Nat.zero_le _, rfl, by simp [pairT], Below.refl _ _⟩
  case round =>
    obtain ⟨k, hk, rfl, hall, hbw⟩ := hrel
    have HA := Lib.hid hall
    have HB := Lib.hid hbw
    clear hall hbw
    by_cases hlt : k < n
    · have hkl : k < la.length := by have := HN.out; omega
      have hkm : k < lb.length := by have := HM.out; omega
      obtain ⟨x, hx⟩ : ∃ x, la[k]? = some x := ⟨_, List.getElem?_eq_getElem hkl⟩
      obtain ⟨y, hy⟩ : ∃ y, lb[k]? = some y := ⟨_, List.getElem?_eq_getElem hkm⟩
      have hoW := Only.ofBelow (S := fun _ => False) HB.out
      obtain ⟨b1, o1, ux, rfl, hux, _, hcx⟩ := HC.out k x hx
      obtain ⟨b2, o2, uy, rfl, huy, _, hcy⟩ := HD.out k y hy
      have HUX := Lib.hid (MthR.st.keep hux hoW (fun _ _ => id))
      have HUY := Lib.hid (MthR.st.keep huy hoW (fun _ _ => id))
      obtain ⟨_, _, _, rfl, ⟨po, pc, rfl⟩, ⟨co, cc, rfl⟩, ⟨ko, kc, rfl⟩⟩ := mth_shape hux
      obtain ⟨_, _, _, rfl, ⟨po1, pc1, rfl⟩, ⟨co1, cc1, rfl⟩, ⟨ko1, kc1, rfl⟩⟩ := mth_shape huy
      have d0 : wr.cell? ⟨b1, o1 + k * 7, none⟩ = some (.string (S x.name)) := hoW.cell (a := ⟨b1, o1 + k * 7, none⟩) (hcx 0 _ rfl) id
      have d1 : wr.cell? ⟨b1, o1 + k * 7 + 1, none⟩ = some (.slice po x.params.length pc) := hoW.cell (a := ⟨b1, o1 + k * 7 + 1, none⟩) (hcx 1 _ rfl) id
      have d2 : wr.cell? ⟨b1, o1 + k * 7 + 2, none⟩ = some (.string (S x.res)) := hoW.cell (a := ⟨b1, o1 + k * 7 + 2, none⟩) (hcx 2 _ rfl) id
      have d3 : wr.cell? ⟨b1, o1 + k * 7 + 3, none⟩ = some (.bool x.abs) := hoW.cell (a := ⟨b1, o1 + k * 7 + 3, none⟩) (hcx 3 _ rfl) id
      have d4 : wr.cell? ⟨b1, o1 + k * 7 + 4, none⟩ = some (.int .i64 x.loc) := hoW.cell (a := ⟨b1, o1 + k * 7 + 4, none⟩) (hcx 4 _ rfl) id
      have d5 : wr.cell? ⟨b1, o1 + k * 7 + 5, none⟩ = some (.slice co x.code.length cc) := hoW.cell (a := ⟨b1, o1 + k * 7 + 5, none⟩) (hcx 5 _ rfl) id
      have d6 : wr.cell? ⟨b1, o1 + k * 7 + 6, none⟩ = some (.slice ko x.cats.length kc) := hoW.cell (a := ⟨b1, o1 + k * 7 + 6, none⟩) (hcx 6 _ rfl) id
      have HY : Hid (∀ W, Below w.heap.size w W → W.cell? ⟨b2, o2 + k * 7, none⟩ = some (.string (S y.name)) ∧ W.cell? ⟨b2, o2 + k * 7 + 1, none⟩ = some (.slice po1 y.params.length pc1) ∧ W.cell? ⟨b2, o2 + k * 7 + 2, none⟩ = some (.string (S y.res)) ∧ W.cell? ⟨b2, o2 + k * 7 + 3, none⟩ = some (.bool y.abs) ∧ W.cell? ⟨b2, o2 + k * 7 + 4, none⟩ = some (.int .i64 y.loc) ∧ W.cell? ⟨b2, o2 + k * 7 + 5, none⟩ = some (.slice co1 y.code.length cc1) ∧ W.cell? ⟨b2, o2 + k * 7 + 6, none⟩ = some (.slice ko1 y.cats.length kc1)) := Lib.hid (fun W hW => by
        have ho := Only.ofBelow (S := fun _ => False) hW
        exact ⟨ho.cell (a := ⟨b2, o2 + k * 7, none⟩) (hcy 0 _ rfl) id, ho.cell (a := ⟨b2, o2 + k * 7 + 1, none⟩) (hcy 1 _ rfl) id, ho.cell (a := ⟨b2, o2 + k * 7 + 2, none⟩) (hcy 2 _ rfl) id, ho.cell (a := ⟨b2, o2 + k * 7 + 3, none⟩) (hcy 3 _ rfl) id, ho.cell (a := ⟨b2, o2 + k * 7 + 4, none⟩) (hcy 4 _ rfl) id, ho.cell (a := ⟨b2, o2 + k * 7 + 5, none⟩) (hcy 5 _ rfl) id, ho.cell (a := ⟨b2, o2 + k * 7 + 6, none⟩) (hcy 6 _ rfl) id⟩)
      have HX := Lib.hid hx
      have HYY := Lib.hid hy
      have HPS := Lib.hid (pairT_succ p la lb k x y hx hy)
      rw [HA.out, Bool.true_and] at HPS
      clear hx hy hkl hkm hoW hux huy hcx hcy
      have hk0 : (0 : Int) ≤ k := by omega
      have hkn : (k : Int) < (n : Int) := by omega
      go_upto_region 6 with fail
      have HBR := Lib.hid (show Below wr.heap.size wr (wr.alloc (.cells #[.string (S x.name), .slice po x.params.length pc, .string (S x.res), .bool x.abs, .int .i64 x.loc, .slice co x.code.length cc, .slice ko x.cats.length kc] 33)) from (Below.refl _ wr).alloc (Nat.le_refl _) _)
      have HB1 := Lib.hid (below_step HB.out HBR.out)
      have HBX := Lib.hid (Box.new wr #[.string (S x.name), .slice po x.params.length pc, .string (S x.res), .bool x.abs, .int .i64 x.loc, .slice co x.code.length cc, .slice ko x.cats.length kc] 33)
      generalize wr.alloc (.cells #[.string (S x.name), .slice po x.params.length pc, .string (S x.res), .bool x.abs, .int .i64 x.loc, .slice co x.code.length cc, .slice ko x.cats.length kc] 33) = W1 at HBR HB1 HBX ⊢
      generalize wr.heap.size = H at HBX ⊢
      have HFX : Hid (∀ W, Below W1.heap.size W1 W → Calls Tryz.prog F #[.agg #[.string (S x.name), .slice po x.params.length pc, .string (S x.res), .bool x.abs, .int .i64 x.loc, .slice co x.code.length cc, .slice ko x.cats.length kc], .agg #[.string (S y.name), .slice po1 y.params.length pc1, .string (S y.res), .bool y.abs, .int .i64 y.loc, .slice co1 y.code.length cc1, .slice ko1 y.cats.length kc1]] W (Said (p x y) W)) := Lib.hid (fun W hW => HF.out k x y _ _ W HX.out HYY.out (below_step HB1.out hW) (MthR.st.keep (MthR.st.keep HUX.out (Only.ofBelow (S := fun _ => False) HBR.out) (fun _ _ => id)) (Only.ofBelow (S := fun _ => False) hW) (fun _ _ => id)) (MthR.st.keep (MthR.st.keep HUY.out (Only.ofBelow (S := fun _ => False) HBR.out) (fun _ _ => id)) (Only.ofBelow (S := fun _ => False) hW) (fun _ _ => id)))
      have HS : Hid (∀ W, Below W1.heap.size W1 W → W.cell? ⟨H, 0, none⟩ = some (.string (S x.name)) ∧ W.cell? ⟨H, 1, none⟩ = some (.slice po x.params.length pc) ∧ W.cell? ⟨H, 2, none⟩ = some (.string (S x.res)) ∧ W.cell? ⟨H, 3, none⟩ = some (.bool x.abs) ∧ W.cell? ⟨H, 4, none⟩ = some (.int .i64 x.loc) ∧ W.cell? ⟨H, 5, none⟩ = some (.slice co x.code.length cc) ∧ W.cell? ⟨H, 6, none⟩ = some (.slice ko x.cats.length kc) ∧ W.cell? ⟨b2, o2 + k * 7, none⟩ = some (.string (S y.name)) ∧ W.cell? ⟨b2, o2 + k * 7 + 1, none⟩ = some (.slice po1 y.params.length pc1) ∧ W.cell? ⟨b2, o2 + k * 7 + 2, none⟩ = some (.string (S y.res)) ∧ W.cell? ⟨b2, o2 + k * 7 + 3, none⟩ = some (.bool y.abs) ∧ W.cell? ⟨b2, o2 + k * 7 + 4, none⟩ = some (.int .i64 y.loc) ∧ W.cell? ⟨b2, o2 + k * 7 + 5, none⟩ = some (.slice co1 y.code.length cc1) ∧ W.cell? ⟨b2, o2 + k * 7 + 6, none⟩ = some (.slice ko1 y.cats.length kc1)) := Lib.hid (fun W hW => ⟨(HBX.out.below hW).cell 0 rfl, (HBX.out.below hW).cell 1 rfl, (HBX.out.below hW).cell 2 rfl, (HBX.out.below hW).cell 3 rfl, (HBX.out.below hW).cell 4 rfl, (HBX.out.below hW).cell 5 rfl, (HBX.out.below hW).cell 6 rfl, HY.out W (below_step HB1.out hW)⟩)
      obtain ⟨g0, g1, g2, g3, g4, g5, g6, g7, g8, g9, g10, g11, g12, g13⟩ := HS.out _ (Below.refl _ W1)
      have he := HE.out
      clear d0 d1 d2 d3 d4 d5 d6
      first
      | (go_region_held (fun W => W.cell? ⟨H, 0, none⟩ = some (.string (S x.name)) ∧ W.cell? ⟨H, 1, none⟩ = some (.slice po x.params.length pc) ∧ W.cell? ⟨H, 2, none⟩ = some (.string (S x.res)) ∧ W.cell? ⟨H, 3, none⟩ = some (.bool x.abs) ∧ W.cell? ⟨H, 4, none⟩ = some (.int .i64 x.loc) ∧ W.cell? ⟨H, 5, none⟩ = some (.slice co x.code.length cc) ∧ W.cell? ⟨H, 6, none⟩ = some (.slice ko x.cats.length kc) ∧ W.cell? ⟨b2, o2 + k * 7, none⟩ = some (.string (S y.name)) ∧ W.cell? ⟨b2, o2 + k * 7 + 1, none⟩ = some (.slice po1 y.params.length pc1) ∧ W.cell? ⟨b2, o2 + k * 7 + 2, none⟩ = some (.string (S y.res)) ∧ W.cell? ⟨b2, o2 + k * 7 + 3, none⟩ = some (.bool y.abs) ∧ W.cell? ⟨b2, o2 + k * 7 + 4, none⟩ = some (.int .i64 y.loc) ∧ W.cell? ⟨b2, o2 + k * 7 + 5, none⟩ = some (.slice co1 y.code.length cc1) ∧ W.cell? ⟨b2, o2 + k * 7 + 6, none⟩ = some (.slice ko1 y.cats.length kc1)) ((refine HS.out _ ?_; (repeat (first | (with_reducible exact Below.refl _ _) | (with_reducible (apply below_step; rotate_left; assumption)) | (with_reducible refine below_alloc ?_ _) | (with_reducible refine below_drew ?_)))))
          (first | ((with_reducible refine (HFX.out _ ?_).mono ?_); (focus ((repeat (first | (with_reducible exact Below.refl _ _) | (with_reducible (apply below_step; rotate_left; assumption)) | (with_reducible refine below_alloc ?_ _) | (with_reducible refine below_drew ?_))); done)); rintro e w1 ⟨rfl, b9⟩)))
      | fail
      have hb9 : Below w.heap.size w w1 := by (repeat (first | (with_reducible exact HB1.out) | (with_reducible (apply below_step; rotate_left; assumption)) | (with_reducible refine below_drew ?_)))
      have HB9 := Lib.hid hb9
      clear b9 hb9 he HFX HS g0 g1 g2 g3 g4 g5 g6 g7 g8 g9 g10 g11 g12 g13
      cases hp : p x y with
      | true =>
        rw [hp] at HPS
        clear hp
        go_wp2
        go_roundw
        case rel => exact ⟨k + 1, by omega, by go_num, HPS.out, HB9.out⟩
        case measure => simp [intOf]; omega
      | false =>
        rw [hp] at HPS
        have hfin : r = false := by rw [HR.out]; exact pairT_le p la lb (k + 1) HPS.out
        subst hfin
        clear hp
        go_wp2
        go_ret
        exact ⟨rfl, HB9.out⟩
    · obtain rfl : k = n := by omega
      have hfin : r = true := by
        have h := HA.out
        unfold pairT at h
        rw [List.take_of_length_le (by rw [List.length_zip, ← HN.out, ← HM.out]; omega)] at h
        rw [HR.out]
        exact h
      subst hfin
      go_wp2
      go_ret
      exact ⟨rfl, HB.out⟩
end Go.Proofs.YtpincofjopmaaaaGreatDoor
