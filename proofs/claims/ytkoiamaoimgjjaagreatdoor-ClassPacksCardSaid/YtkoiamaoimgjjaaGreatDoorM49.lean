/-
  The contracts of the document's num and texts of layer 5.
  Conditions: numbers of 63 bits; at most 1000 texts of 4096 bytes, which lie in memory that was there before.
-/
import Derived.Test.YtkoiamaoimgjjaaGreatDoorM30
import Derived.Test.YtkoiamaoimgjjaaGreatDoorM32
import Derived.Test.YtkoiamaoimgjjaaGreatDoorM15
namespace Go.Proofs.YtkoiamaoimgjjaaGreatDoor
open Go.RowKit
def SaidU (u : ByteArray) (w : World) (e : Ending) (w' : World) : Prop := e = .returned (.string u) ∧ Below w.heap.size w w'
set_option maxHeartbeats 4000000 in
set_option maxRecDepth 100000 in
theorem refnum5_any (n : Nat) (hn : n ≤ 9223372036854775807) (w : World) :
    Calls Tryz.prog 41 #[.int .i64 n] w (SaidU (S (Lib.uvarint n)) w) := by
  have HV := Lib.hid (refvar_any n (by omega) w)
  have h0 : (0 : Int) ≤ (n : Int) := by omega
  have h1 : (n : Int) ≤ 9223372036854775807 := by omega
  generalize S (Lib.uvarint n) = u at HV ⊢
  go_enter Tryz.func41, Tryz.ntmps41
  go_wp2_with fail
  refine HV.out.mono ?_
  rintro e w1 ⟨rfl, hb⟩
  go_wp2
  go_ret
  exact ⟨rfl, hb⟩
theorem text_le4 {s : List UInt8} (h : s.length ≤ 4096) : (textBytes s).length ≤ 4106 := by have := text_le s 4096 h (by decide); omega
set_option maxHeartbeats 4000000 in
set_option maxRecDepth 100000 in
theorem reftexts5_any {A : Nat → Prop} (l : List (List UInt8)) (sv : Value) (w : World) (hs : Src 1 StrR A w sv l) (hl : l.length ≤ 1000) (hx : ∀ x ∈ l, x.length ≤ 4096) :
    Calls Tryz.prog 39 #[sv] w (SaidU (S (listB textBytes l)) w) := by
  obtain ⟨n, hn⟩ : ∃ n, n = l.length := ⟨_, rfl⟩
  obtain ⟨so, sc, rfl⟩ : ∃ so sc, sv = .slice so n sc := by rw [hn]; exact hs.shape
  have HN := Lib.hid hn
  have HC := Lib.hid (Src.elem hs)
  have HXL := Lib.hid hx
  have hn1 : n ≤ 1000 := by omega
  have HNM := Lib.hid (refnum5_any n (by omega) w)
  have hlen : ∀ k, (Lib.uvarint l.length ++ (l.take k).flatMap textBytes).length ≤ 5000000 := fun k => by
    have h1 := flat_le textBytes 4106 (l.take k) (fun x h => text_le4 (hx x (List.mem_of_mem_take h)))
    have h2 : (Lib.uvarint l.length).length ≤ 10 := Lib.uvarint_length64 (by omega)
    rw [List.length_take] at h1
    rw [List.length_append]
    have h3 : 4106 * min k l.length ≤ 4106 * 1000 := Nat.mul_le_mul_left _ (by omega)
    omega
  have HLE := Lib.hid hlen
  clear hn hs hx hl hlen
  go_enter Tryz.func39, Tryz.ntmps39
  go_wp2_with fail
  refine HNM.out.mono ?_
  rintro e w1 ⟨rfl, hb1⟩
  clear HNM
  go_wp2
  go_loopw [3, 4] (fun v3 v4 wr => ∃ k : Nat, k ≤ n ∧ v4 = .int .i64 k ∧ v3 = .string (S (Lib.uvarint l.length ++ (l.take k).flatMap textBytes)) ∧ Below w.heap.size w wr) (fun _ v4 _ => n - (intOf v4).toNat)
  case atStart => exact ⟨0, Nat.zero_le _, rfl, by rw [HN.out]; simp, hb1⟩
  case round =>
    obtain ⟨k, hk, rfl, rfl, hbl⟩ := hrel
    have HB := Lib.hid hbl
    clear hbl hb1
    by_cases hlt : k < n
    · have hkl : k < l.length := by have := HN.out; omega
      obtain ⟨x, hx⟩ : ∃ x, l[k]? = some x := ⟨_, List.getElem?_eq_getElem hkl⟩
      have hoW := Only.ofBelow (S := fun _ => False) HB.out
      obtain ⟨b, o, v, rfl, hv, hsz, hcl⟩ := HC.out k x hx
      have HV := Lib.hid (StrR.st.keep hv hoW (fun _ _ => id))
      obtain rfl := hv
      have d0 : wr.cell? ⟨b, o + k, none⟩ = some (.string (S x)) := hoW.cell (a := ⟨b, o + k, none⟩) (by have q := hcl 0 _ rfl; rw [Nat.mul_one] at q; exact q) id
      clear hcl hsz
      have hA : (S (Lib.uvarint l.length ++ (l.take k).flatMap textBytes)).size ≤ 5000000 := by rw [S_size]; exact HLE.out k
      have hsx : Lib.uvarint l.length ++ (l.take (k + 1)).flatMap textBytes = (Lib.uvarint l.length ++ (l.take k).flatMap textBytes) ++ textBytes x := by
        rw [List.take_add_one, hx, List.flatMap_append, List.append_assoc]; simp
      have hxb := HXL.out x (List.mem_of_getElem? hx)
      have hU : (S (textBytes x)).size ≤ 4106 := by rw [S_size]; exact text_le4 hxb
      have hsum : S (Lib.uvarint l.length ++ (l.take (k + 1)).flatMap textBytes) = S (Lib.uvarint l.length ++ (l.take k).flatMap textBytes) ++ S (textBytes x) := by rw [hsx, S_append]
      have HSM := Lib.hid hsum
      have HTX := Lib.hid (reftext_any x wr (by omega))
      clear hx hkl hoW hsx hsum hxb
      generalize S (Lib.uvarint l.length ++ (l.take k).flatMap textBytes) = uA at HSM hA ⊢
      generalize S (textBytes x) = uX at HSM hU HTX
      have hk0 : (0 : Int) ≤ k := by omega
      have hkn : (k : Int) < (n : Int) := by omega
      go_wp2_with fail
      refine HTX.out.mono ?_
      rintro e w2 ⟨rfl, hb2⟩
      have HB2 := Lib.hid (HB.out.trans (hb2.mono HB.out.size))
      clear hb2 d0 HTX
      go_wp2
      go_roundw
      case rel => exact ⟨k + 1, by omega, by go_num, by rw [HSM.out], HB2.out⟩
      case measure => simp [intOf]; omega
    · obtain rfl : n = k := by omega
      have hfa : S (listB textBytes l) = S (Lib.uvarint l.length ++ (l.take n).flatMap textBytes) := by rw [List.take_of_length_le (by rw [HN.out]; exact Nat.le_refl _)]; rfl
      have HFA := Lib.hid hfa
      clear hfa
      generalize S (Lib.uvarint l.length ++ (l.take n).flatMap textBytes) = uA at HFA ⊢
      go_wp2
      go_ret
      exact ⟨by rw [HFA.out]; rfl, HB.out⟩
end Go.Proofs.YtkoiamaoimgjjaaGreatDoor
