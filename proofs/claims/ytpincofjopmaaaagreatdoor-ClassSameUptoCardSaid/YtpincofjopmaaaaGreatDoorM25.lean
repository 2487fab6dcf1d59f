/-
  The contracts of package class's putList at slices of fields, catches, methods and classes, at whatever function it is handed.
  Conditions: the elements lie in memory that was there before; all together they are at most 2^47 bytes.
-/
import Derived.Test.YtpincofjopmaaaaGreatDoorM17
namespace Go.Proofs.YtpincofjopmaaaaGreatDoor
open Go.RowKit
set_option maxHeartbeats 4000000 in
set_option maxRecDepth 100000 in
theorem putl_fld {A : Nat → Prop} (F : Nat) (g : Fld → List UInt8) (l : List (Fld)) (sv : Value) (w : World) (he : ∀ args w, (callFunc F args).run Tryz.prog w = .ok (.enter F args) w)
    (hs : Src 3 FldR A w sv l) (hF : ∀ (k : Nat) (x : Fld) (v : Value) (w' : World), l[k]? = some x → Below w.heap.size w w' → FldR A w' x v → Calls Tryz.prog F #[v] w' (Bytes' w' (g x))) (hlen : l.length ≤ 1048576) (hlim : (l.flatMap g).length ≤ 1099511627776) :
    Calls Tryz.prog 145 #[sv, .func (.func F) #[] #[]] w (Bytes' w (listB g l)) := by
  obtain ⟨j0, hji, hz0, hz1, hz2⟩ := info_parts info_u8
  have HF := Lib.hid hF
  have HE := Lib.hid he
  have HLM := Lib.hid hlim
  obtain ⟨n, hnn⟩ : ∃ n, n = l.length := ⟨_, rfl⟩
  obtain ⟨so, sc, rfl⟩ : ∃ so sc, sv = .slice so n sc := by rw [hnn]; exact hs.shape
  have HN := Lib.hid hnn
  have hn1 : n ≤ 1048576 := by omega
  have HC : Hid (∀ (k : Nat) (x : Fld), l[k]? = some x → ∃ b o v, so = some ⟨b, o, none⟩ ∧ FldR A w x v ∧ v.cells.size = 3 ∧ ∀ j u, v.cells[j]? = some u → w.cell? ⟨b, o + k * 3 + j, none⟩ = some u) := Lib.hid (fun k x hx => by
    rcases hs with ⟨ao, cp0, he, rfl⟩ | ⟨b, o, cap, he, _, hc⟩
    · simp at hx
    · simp at he
      obtain ⟨v, hv, hsz, hcl⟩ := hc k x hx
      exact ⟨b, o, v, he.1, hv, hsz, hcl⟩)
  have HNB : Hid (Calls Tryz.prog 208 #[.slice (some ⟨w.heap.size, 0, none⟩) 1 1] (w.alloc (.cells #[.int .i64 (n : Nat)] 3)) (Bytes' (w.alloc (.cells #[.int .i64 (n : Nat)] 3)) (Lib.uvarint n))) := Lib.hid (by
    have q := cnums_any [n] w.heap.size 0 1 (w.alloc (.cells #[.int .i64 (n : Nat)] 3)) (fun j x hx => by
      match j, hx with
      | 0, hx => (obtain rfl : n = x := (by simpa using hx)); simp
      | j + 1, hx => simp at hx) (fun x hx => by simp at hx; omega) (by simp)
    rw [show nums [n] = Lib.uvarint n from by simp [nums]] at q
    exact q)
  have HB0 := Lib.hid ((Below.refl w.heap.size w).alloc (Nat.le_refl _) (.cells #[.int .i64 (n : Nat)] 3))
  have HUV := Lib.hid (show (Lib.uvarint n).length ≤ 10 from Lib.uvarint_length64 (by omega))
  obtain ⟨Z, hZ⟩ : ∃ Z : Nat → List UInt8, Z = fun k => Lib.uvarint n ++ (l.take k).flatMap g := ⟨_, rfl⟩
  have HZ := Lib.hid hZ
  obtain ⟨Y, hY⟩ : ∃ Y, Y = listB g l := ⟨_, rfl⟩
  rw [← hY]
  have HY := Lib.hid hY
  clear hF he hs hlim hnn hlen hZ hY
  go_enter Tryz.func145, Tryz.ntmps145
  go_wp2_with fail
  refine HNB.out.mono ?_
  rintro e w1 ⟨v1, rfl, s1⟩
  obtain ⟨ao1, m1, c1, rfl⟩ := row_shape s1.row
  have hz0' : BS w w1 (.slice ao1 m1 c1) (Z 0) := by
    have := s1.le HB0.out
    rw [HZ.out]
    simpa using this
  have HS1 := Lib.hid hz0'
  clear s1 hz0'
  go_wp2
  go_loopw [5, 14] (fun v5 v14 wr => ∃ (k : Nat), k ≤ n ∧ v14 = .int .i64 k ∧ BS w wr v5 (Z k)) (fun _ v14 _ => n - (intOf v14).toNat)
  case atStart => exact ⟨0, Nat.zero_le _, rfl, HS1.out⟩
  case round =>
    obtain ⟨k, hk, rfl, hbs⟩ := hrel
    obtain ⟨ao5, m5, c5, rfl⟩ := row_shape hbs.row
    have HBS := Lib.hid hbs
    clear hbs
    by_cases hlt : k < n
    · have hkl : k < l.length := by have := HN.out; omega
      obtain ⟨x, hx⟩ : ∃ x, l[k]? = some x := ⟨_, List.getElem?_eq_getElem hkl⟩
      have hoW := Only.ofBelow (S := fun _ => False) HBS.out.bel
      have HX := Lib.hid hx
      obtain ⟨b, o, v, rfl, hv, hsz, hcl⟩ := HC.out k x hx
      have HV := Lib.hid (FldR.st.keep hv hoW (fun _ _ => id))
      obtain rfl := hv
      have d0 : wr.cell? ⟨b, o + k * 3, none⟩ = some (.string (S x.name)) := hoW.cell (a := ⟨b, o + k * 3, none⟩) (hcl 0 _ rfl) id
      have d1 : wr.cell? ⟨b, o + k * 3 + 1, none⟩ = some (.string (S x.kind)) := hoW.cell (a := ⟨b, o + k * 3 + 1, none⟩) (hcl 1 _ rfl) id
      have d2 : wr.cell? ⟨b, o + k * 3 + 2, none⟩ = some (.bool x.tr) := hoW.cell (a := ⟨b, o + k * 3 + 2, none⟩) (hcl 2 _ rfl) id
      clear hcl hsz
      have hzs : Z (k + 1) = Z k ++ g x := by
        rw [HZ.out]
        dsimp only
        rw [List.take_add_one, HX.out, List.flatMap_append, List.append_assoc]
        simp
      have hzl : (Z (k + 1)).length ≤ 1099511627786 := by
        have h1 := HLM.out
        have h2 := HUV.out
        have h3 : ((l.take (k + 1)).flatMap g).length ≤ (l.flatMap g).length := by
          conv => rhs; rw [← List.take_append_drop (k + 1) l, List.flatMap_append, List.length_append]
          omega
        rw [HZ.out]
        dsimp only
        rw [List.length_append]
        omega
      have HZS := Lib.hid hzs
      have HZL := Lib.hid hzl
      have HFX := Lib.hid (HF.out k x _ (wr.alloc (.cells #[.string (S x.name), .string (S x.kind), .bool x.tr] 62)) HX.out (HBS.out.bel.alloc HBS.out.bel.size _) (FldR.st.keep HV.out ((Only.refl (fun _ => False) wr).alloc _) (fun _ _ => id)))
      clear hkl hx hoW hzs hzl
      have hk0 : (0 : Int) ≤ k := by omega
      have hkn : (k : Int) < (n : Int) := by omega
      have he := HE.out
      go_wp2_with fail
      refine HFX.out.mono ?_
      rintro e w2 ⟨v2, rfl, s2⟩
      have hb5 := (HBS.out.alloc _).keep s2.bel
      have HRUN : Hid (∀ ty, ∃ v' w', (Builtin.append_ #[71, 71] ty #[.slice ao5 m5 c5, v2]).run Tryz.prog w2 = .ok v' w' ∧ RowIs w' v' (Z (k + 1)) ∧ Grew w2 (.slice ao5 m5 c5) w' v') := Lib.hid (fun ty => by
        have hzl := HZL.out
        rw [HZS.out, List.length_append] at hzl
        rw [HZS.out]
        unfold RowIs
        rw [List.length_append, byteCells_append]
        rcases s2.row.2 with ⟨rfl, h0⟩ | ⟨g2, cap2, cur2, rfl, _⟩
        · have hg0 : g x = [] := List.eq_nil_of_length_eq_zero h0
          refine ⟨_, _, run_append_empty _ _ ty _ j0 1 Tryz.underlying71 hji _ _ _ hb5.row none 0, ?_, Grew.refl _ _⟩
          rw [hg0]
          have q := hb5.row
          unfold RowIs at q
          rw [List.length_nil, Nat.add_zero, show Lib.byteCells [] = [] from rfl, List.append_nil]
          exact q
        · exact run_append_fine (P := Tryz.prog) w2 71 ty 5 j0 (.int .u8 0) 1 1 Tryz.underlying71 hji hz0 hz1 hz2 rfl (by decide) _ _ _ hb5.row ⟨g2, 0, none⟩ (g x).length cap2 (Lib.byteCells (g x)) (by rw [byteCells_length, Nat.mul_one])
            (s2.row.cells (g := g2) rfl) (byteCells_one _) (by unfold maxLen; omega) (by omega))
      have HB5 := Lib.hid hb5
      obtain ⟨ao2, m2, c2, rfl⟩ := row_shape s2.row
      clear s2 hb5 he d0 d1 d2
      go_wp2_with (at_builtin; (obtain ⟨v', w', hrun, hrow', hgrow⟩ := HRUN.out _; refine wpList_append_eq rfl _ _ 71 rfl _ _ v' w' rfl rfl hrun ?_))
      have hbs' : BS w w' v' (Z (k + 1)) := ⟨hrow', fun g hg => by
        rcases hgrow.came with e | e
        · exact HB5.out.own g (e ▸ hg)
        · exact Nat.le_trans HB5.out.bel.size (e g hg), HB5.out.bel.trans (hgrow.only.below HB5.out.bel.size (fun q hq => HB5.out.own q hq))⟩
      have HBS' := Lib.hid hbs'
      clear hbs' hrow' hgrow hrun
      go_wp2
      go_roundw
      case rel => exact ⟨k + 1, by omega, by go_num, HBS'.out⟩
      case measure => simp [intOf]; omega
    · obtain rfl : k = n := by omega
      have hfin : BS w wr (.slice ao5 m5 c5) Y := by
        have h := HBS.out
        rw [HZ.out] at h
        dsimp only at h
        rw [HY.out, listB, ← HN.out]
        rw [List.take_of_length_le (by rw [HN.out]; exact Nat.le_refl _)] at h
        exact h
      have HF' := Lib.hid hfin
      clear hfin
      go_wp2
      go_ret
      exact ⟨_, rfl, HF'.out⟩
set_option maxHeartbeats 4000000 in
set_option maxRecDepth 100000 in
theorem putl_cat {A : Nat → Prop} (F : Nat) (g : Cat → List UInt8) (l : List (Cat)) (sv : Value) (w : World) (he : ∀ args w, (callFunc F args).run Tryz.prog w = .ok (.enter F args) w)
    (hs : Src 4 CatR A w sv l) (hF : ∀ (k : Nat) (x : Cat) (v : Value) (w' : World), l[k]? = some x → Below w.heap.size w w' → CatR A w' x v → Calls Tryz.prog F #[v] w' (Bytes' w' (g x))) (hlen : l.length ≤ 1048576) (hlim : (l.flatMap g).length ≤ 1099511627776) :
    Calls Tryz.prog 212 #[sv, .func (.func F) #[] #[]] w (Bytes' w (listB g l)) := by
  obtain ⟨j0, hji, hz0, hz1, hz2⟩ := info_parts info_u8
  have HF := Lib.hid hF
  have HE := Lib.hid he
  have HLM := Lib.hid hlim
  obtain ⟨n, hnn⟩ : ∃ n, n = l.length := ⟨_, rfl⟩
  obtain ⟨so, sc, rfl⟩ : ∃ so sc, sv = .slice so n sc := by rw [hnn]; exact hs.shape
  have HN := Lib.hid hnn
  have hn1 : n ≤ 1048576 := by omega
  have HC : Hid (∀ (k : Nat) (x : Cat), l[k]? = some x → ∃ b o v, so = some ⟨b, o, none⟩ ∧ CatR A w x v ∧ v.cells.size = 4 ∧ ∀ j u, v.cells[j]? = some u → w.cell? ⟨b, o + k * 4 + j, none⟩ = some u) := Lib.hid (fun k x hx => by
    rcases hs with ⟨ao, cp0, he, rfl⟩ | ⟨b, o, cap, he, _, hc⟩
    · simp at hx
    · simp at he
      obtain ⟨v, hv, hsz, hcl⟩ := hc k x hx
      exact ⟨b, o, v, he.1, hv, hsz, hcl⟩)
  have HNB : Hid (Calls Tryz.prog 208 #[.slice (some ⟨w.heap.size, 0, none⟩) 1 1] (w.alloc (.cells #[.int .i64 (n : Nat)] 3)) (Bytes' (w.alloc (.cells #[.int .i64 (n : Nat)] 3)) (Lib.uvarint n))) := Lib.hid (by
    have q := cnums_any [n] w.heap.size 0 1 (w.alloc (.cells #[.int .i64 (n : Nat)] 3)) (fun j x hx => by
      match j, hx with
      | 0, hx => (obtain rfl : n = x := (by simpa using hx)); simp
      | j + 1, hx => simp at hx) (fun x hx => by simp at hx; omega) (by simp)
    rw [show nums [n] = Lib.uvarint n from by simp [nums]] at q
    exact q)
  have HB0 := Lib.hid ((Below.refl w.heap.size w).alloc (Nat.le_refl _) (.cells #[.int .i64 (n : Nat)] 3))
  have HUV := Lib.hid (show (Lib.uvarint n).length ≤ 10 from Lib.uvarint_length64 (by omega))
  obtain ⟨Z, hZ⟩ : ∃ Z : Nat → List UInt8, Z = fun k => Lib.uvarint n ++ (l.take k).flatMap g := ⟨_, rfl⟩
  have HZ := Lib.hid hZ
  obtain ⟨Y, hY⟩ : ∃ Y, Y = listB g l := ⟨_, rfl⟩
  rw [← hY]
  have HY := Lib.hid hY
  clear hF he hs hlim hnn hlen hZ hY
  go_enter Tryz.func212, Tryz.ntmps212
  go_wp2_with fail
  refine HNB.out.mono ?_
  rintro e w1 ⟨v1, rfl, s1⟩
  obtain ⟨ao1, m1, c1, rfl⟩ := row_shape s1.row
  have hz0' : BS w w1 (.slice ao1 m1 c1) (Z 0) := by
    have := s1.le HB0.out
    rw [HZ.out]
    simpa using this
  have HS1 := Lib.hid hz0'
  clear s1 hz0'
  go_wp2
  go_loopw [5, 14] (fun v5 v14 wr => ∃ (k : Nat), k ≤ n ∧ v14 = .int .i64 k ∧ BS w wr v5 (Z k)) (fun _ v14 _ => n - (intOf v14).toNat)
  case atStart => exact ⟨0, Nat.zero_le _, rfl, HS1.out⟩
  case round =>
    obtain ⟨k, hk, rfl, hbs⟩ := hrel
    obtain ⟨ao5, m5, c5, rfl⟩ := row_shape hbs.row
    have HBS := Lib.hid hbs
    clear hbs
    by_cases hlt : k < n
    · have hkl : k < l.length := by have := HN.out; omega
      obtain ⟨x, hx⟩ : ∃ x, l[k]? = some x := ⟨_, List.getElem?_eq_getElem hkl⟩
      have hoW := Only.ofBelow (S := fun _ => False) HBS.out.bel
      have HX := Lib.hid hx
      obtain ⟨b, o, v, rfl, hv, hsz, hcl⟩ := HC.out k x hx
      have HV := Lib.hid (CatR.st.keep hv hoW (fun _ _ => id))
      obtain rfl := hv
      have d0 : wr.cell? ⟨b, o + k * 4, none⟩ = some (.int .i64 x.fr) := hoW.cell (a := ⟨b, o + k * 4, none⟩) (hcl 0 _ rfl) id
      have d1 : wr.cell? ⟨b, o + k * 4 + 1, none⟩ = some (.int .i64 x.till) := hoW.cell (a := ⟨b, o + k * 4 + 1, none⟩) (hcl 1 _ rfl) id
      have d2 : wr.cell? ⟨b, o + k * 4 + 2, none⟩ = some (.int .i64 x.at_) := hoW.cell (a := ⟨b, o + k * 4 + 2, none⟩) (hcl 2 _ rfl) id
      have d3 : wr.cell? ⟨b, o + k * 4 + 3, none⟩ = some (.string (S x.cls)) := hoW.cell (a := ⟨b, o + k * 4 + 3, none⟩) (hcl 3 _ rfl) id
      clear hcl hsz
      have hzs : Z (k + 1) = Z k ++ g x := by
        rw [HZ.out]
        dsimp only
        rw [List.take_add_one, HX.out, List.flatMap_append, List.append_assoc]
        simp
      have hzl : (Z (k + 1)).length ≤ 1099511627786 := by
        have h1 := HLM.out
        have h2 := HUV.out
        have h3 : ((l.take (k + 1)).flatMap g).length ≤ (l.flatMap g).length := by
          conv => rhs; rw [← List.take_append_drop (k + 1) l, List.flatMap_append, List.length_append]
          omega
        rw [HZ.out]
        dsimp only
        rw [List.length_append]
        omega
      have HZS := Lib.hid hzs
      have HZL := Lib.hid hzl
      have HFX := Lib.hid (HF.out k x _ (wr.alloc (.cells #[.int .i64 x.fr, .int .i64 x.till, .int .i64 x.at_, .string (S x.cls)] 141)) HX.out (HBS.out.bel.alloc HBS.out.bel.size _) (CatR.st.keep HV.out ((Only.refl (fun _ => False) wr).alloc _) (fun _ _ => id)))
      clear hkl hx hoW hzs hzl
      have hk0 : (0 : Int) ≤ k := by omega
      have hkn : (k : Int) < (n : Int) := by omega
      have he := HE.out
      go_wp2_with fail
      refine HFX.out.mono ?_
      rintro e w2 ⟨v2, rfl, s2⟩
      have hb5 := (HBS.out.alloc _).keep s2.bel
      have HRUN : Hid (∀ ty, ∃ v' w', (Builtin.append_ #[71, 71] ty #[.slice ao5 m5 c5, v2]).run Tryz.prog w2 = .ok v' w' ∧ RowIs w' v' (Z (k + 1)) ∧ Grew w2 (.slice ao5 m5 c5) w' v') := Lib.hid (fun ty => by
        have hzl := HZL.out
        rw [HZS.out, List.length_append] at hzl
        rw [HZS.out]
        unfold RowIs
        rw [List.length_append, byteCells_append]
        rcases s2.row.2 with ⟨rfl, h0⟩ | ⟨g2, cap2, cur2, rfl, _⟩
        · have hg0 : g x = [] := List.eq_nil_of_length_eq_zero h0
          refine ⟨_, _, run_append_empty _ _ ty _ j0 1 Tryz.underlying71 hji _ _ _ hb5.row none 0, ?_, Grew.refl _ _⟩
          rw [hg0]
          have q := hb5.row
          unfold RowIs at q
          rw [List.length_nil, Nat.add_zero, show Lib.byteCells [] = [] from rfl, List.append_nil]
          exact q
        · exact run_append_fine (P := Tryz.prog) w2 71 ty 5 j0 (.int .u8 0) 1 1 Tryz.underlying71 hji hz0 hz1 hz2 rfl (by decide) _ _ _ hb5.row ⟨g2, 0, none⟩ (g x).length cap2 (Lib.byteCells (g x)) (by rw [byteCells_length, Nat.mul_one])
            (s2.row.cells (g := g2) rfl) (byteCells_one _) (by unfold maxLen; omega) (by omega))
      have HB5 := Lib.hid hb5
      obtain ⟨ao2, m2, c2, rfl⟩ := row_shape s2.row
      clear s2 hb5 he d0 d1 d2 d3
      go_wp2_with (at_builtin; (obtain ⟨v', w', hrun, hrow', hgrow⟩ := HRUN.out _; refine wpList_append_eq rfl _ _ 71 rfl _ _ v' w' rfl rfl hrun ?_))
      have hbs' : BS w w' v' (Z (k + 1)) := ⟨hrow', fun g hg => by
        rcases hgrow.came with e | e
        · exact HB5.out.own g (e ▸ hg)
        · exact Nat.le_trans HB5.out.bel.size (e g hg), HB5.out.bel.trans (hgrow.only.below HB5.out.bel.size (fun q hq => HB5.out.own q hq))⟩
      have HBS' := Lib.hid hbs'
      clear hbs' hrow' hgrow hrun
      go_wp2
      go_roundw
      case rel => exact ⟨k + 1, by omega, by go_num, HBS'.out⟩
      case measure => simp [intOf]; omega
    · obtain rfl : k = n := by omega
      have hfin : BS w wr (.slice ao5 m5 c5) Y := by
        have h := HBS.out
        rw [HZ.out] at h
        dsimp only at h
        rw [HY.out, listB, ← HN.out]
        rw [List.take_of_length_le (by rw [HN.out]; exact Nat.le_refl _)] at h
        exact h
      have HF' := Lib.hid hfin
      clear hfin
      go_wp2
      go_ret
      exact ⟨_, rfl, HF'.out⟩
set_option maxHeartbeats 4000000 in
set_option maxRecDepth 100000 in
theorem putl_mth {A : Nat → Prop} (F : Nat) (g : Mth → List UInt8) (l : List (Mth)) (sv : Value) (w : World) (he : ∀ args w, (callFunc F args).run Tryz.prog w = .ok (.enter F args) w)
    (hs : Src 7 MthR A w sv l) (hF : ∀ (k : Nat) (x : Mth) (v : Value) (w' : World), l[k]? = some x → Below w.heap.size w w' → MthR A w' x v → Calls Tryz.prog F #[v] w' (Bytes' w' (g x))) (hlen : l.length ≤ 1048576) (hlim : (l.flatMap g).length ≤ 1099511627776) :
    Calls Tryz.prog 147 #[sv, .func (.func F) #[] #[]] w (Bytes' w (listB g l)) := by
  obtain ⟨j0, hji, hz0, hz1, hz2⟩ := info_parts info_u8
  have HF := Lib.hid hF
  have HE := Lib.hid he
  have HLM := Lib.hid hlim
  obtain ⟨n, hnn⟩ : ∃ n, n = l.length := ⟨_, rfl⟩
  obtain ⟨so, sc, rfl⟩ : ∃ so sc, sv = .slice so n sc := by rw [hnn]; exact hs.shape
  have HN := Lib.hid hnn
  have hn1 : n ≤ 1048576 := by omega
  have HC : Hid (∀ (k : Nat) (x : Mth), l[k]? = some x → ∃ b o v, so = some ⟨b, o, none⟩ ∧ MthR A w x v ∧ v.cells.size = 7 ∧ ∀ j u, v.cells[j]? = some u → w.cell? ⟨b, o + k * 7 + j, none⟩ = some u) := Lib.hid (fun k x hx => by
    rcases hs with ⟨ao, cp0, he, rfl⟩ | ⟨b, o, cap, he, _, hc⟩
    · simp at hx
    · simp at he
      obtain ⟨v, hv, hsz, hcl⟩ := hc k x hx
      exact ⟨b, o, v, he.1, hv, hsz, hcl⟩)
  have HNB : Hid (Calls Tryz.prog 208 #[.slice (some ⟨w.heap.size, 0, none⟩) 1 1] (w.alloc (.cells #[.int .i64 (n : Nat)] 3)) (Bytes' (w.alloc (.cells #[.int .i64 (n : Nat)] 3)) (Lib.uvarint n))) := Lib.hid (by
    have q := cnums_any [n] w.heap.size 0 1 (w.alloc (.cells #[.int .i64 (n : Nat)] 3)) (fun j x hx => by
      match j, hx with
      | 0, hx => (obtain rfl : n = x := (by simpa using hx)); simp
      | j + 1, hx => simp at hx) (fun x hx => by simp at hx; omega) (by simp)
    rw [show nums [n] = Lib.uvarint n from by simp [nums]] at q
    exact q)
  have HB0 := Lib.hid ((Below.refl w.heap.size w).alloc (Nat.le_refl _) (.cells #[.int .i64 (n : Nat)] 3))
  have HUV := Lib.hid (show (Lib.uvarint n).length ≤ 10 from Lib.uvarint_length64 (by omega))
  obtain ⟨Z, hZ⟩ : ∃ Z : Nat → List UInt8, Z = fun k => Lib.uvarint n ++ (l.take k).flatMap g := ⟨_, rfl⟩
  have HZ := Lib.hid hZ
  obtain ⟨Y, hY⟩ : ∃ Y, Y = listB g l := ⟨_, rfl⟩
  rw [← hY]
  have HY := Lib.hid hY
  clear hF he hs hlim hnn hlen hZ hY
  go_enter Tryz.func147, Tryz.ntmps147
  go_wp2_with fail
  refine HNB.out.mono ?_
  rintro e w1 ⟨v1, rfl, s1⟩
  obtain ⟨ao1, m1, c1, rfl⟩ := row_shape s1.row
  have hz0' : BS w w1 (.slice ao1 m1 c1) (Z 0) := by
    have := s1.le HB0.out
    rw [HZ.out]
    simpa using this
  have HS1 := Lib.hid hz0'
  clear s1 hz0'
  go_wp2
  go_loopw [5, 14] (fun v5 v14 wr => ∃ (k : Nat), k ≤ n ∧ v14 = .int .i64 k ∧ BS w wr v5 (Z k)) (fun _ v14 _ => n - (intOf v14).toNat)
  case atStart => exact ⟨0, Nat.zero_le _, rfl, HS1.out⟩
  case round =>
    obtain ⟨k, hk, rfl, hbs⟩ := hrel
    obtain ⟨ao5, m5, c5, rfl⟩ := row_shape hbs.row
    have HBS := Lib.hid hbs
    clear hbs
    by_cases hlt : k < n
    · have hkl : k < l.length := by have := HN.out; omega
      obtain ⟨x, hx⟩ : ∃ x, l[k]? = some x := ⟨_, List.getElem?_eq_getElem hkl⟩
      have hoW := Only.ofBelow (S := fun _ => False) HBS.out.bel
      have HX := Lib.hid hx
      obtain ⟨b, o, v, rfl, hv, hsz, hcl⟩ := HC.out k x hx
      have HV := Lib.hid (MthR.st.keep hv hoW (fun _ _ => id))
      obtain ⟨_, _, _, rfl, ⟨po, pc, rfl⟩, ⟨co, cc, rfl⟩, ⟨ko, kc, rfl⟩⟩ := mth_shape hv
      have d0 : wr.cell? ⟨b, o + k * 7, none⟩ = some (.string (S x.name)) := hoW.cell (a := ⟨b, o + k * 7, none⟩) (hcl 0 _ rfl) id
      have d1 : wr.cell? ⟨b, o + k * 7 + 1, none⟩ = some (.slice po x.params.length pc) := hoW.cell (a := ⟨b, o + k * 7 + 1, none⟩) (hcl 1 _ rfl) id
      have d2 : wr.cell? ⟨b, o + k * 7 + 2, none⟩ = some (.string (S x.res)) := hoW.cell (a := ⟨b, o + k * 7 + 2, none⟩) (hcl 2 _ rfl) id
      have d3 : wr.cell? ⟨b, o + k * 7 + 3, none⟩ = some (.bool x.abs) := hoW.cell (a := ⟨b, o + k * 7 + 3, none⟩) (hcl 3 _ rfl) id
      have d4 : wr.cell? ⟨b, o + k * 7 + 4, none⟩ = some (.int .i64 x.loc) := hoW.cell (a := ⟨b, o + k * 7 + 4, none⟩) (hcl 4 _ rfl) id
      have d5 : wr.cell? ⟨b, o + k * 7 + 5, none⟩ = some (.slice co x.code.length cc) := hoW.cell (a := ⟨b, o + k * 7 + 5, none⟩) (hcl 5 _ rfl) id
      have d6 : wr.cell? ⟨b, o + k * 7 + 6, none⟩ = some (.slice ko x.cats.length kc) := hoW.cell (a := ⟨b, o + k * 7 + 6, none⟩) (hcl 6 _ rfl) id
      clear hcl hsz
      have hzs : Z (k + 1) = Z k ++ g x := by
        rw [HZ.out]
        dsimp only
        rw [List.take_add_one, HX.out, List.flatMap_append, List.append_assoc]
        simp
      have hzl : (Z (k + 1)).length ≤ 1099511627786 := by
        have h1 := HLM.out
        have h2 := HUV.out
        have h3 : ((l.take (k + 1)).flatMap g).length ≤ (l.flatMap g).length := by
          conv => rhs; rw [← List.take_append_drop (k + 1) l, List.flatMap_append, List.length_append]
          omega
        rw [HZ.out]
        dsimp only
        rw [List.length_append]
        omega
      have HZS := Lib.hid hzs
      have HZL := Lib.hid hzl
      have HFX := Lib.hid (HF.out k x _ (wr.alloc (.cells #[.string (S x.name), .slice po x.params.length pc, .string (S x.res), .bool x.abs, .int .i64 x.loc, .slice co x.code.length cc, .slice ko x.cats.length kc] 33)) HX.out (HBS.out.bel.alloc HBS.out.bel.size _) (MthR.st.keep HV.out ((Only.refl (fun _ => False) wr).alloc _) (fun _ _ => id)))
      clear hkl hx hoW hzs hzl
      have hk0 : (0 : Int) ≤ k := by omega
      have hkn : (k : Int) < (n : Int) := by omega
      have he := HE.out
      go_wp2_with fail
      refine HFX.out.mono ?_
      rintro e w2 ⟨v2, rfl, s2⟩
      have hb5 := (HBS.out.alloc _).keep s2.bel
      have HRUN : Hid (∀ ty, ∃ v' w', (Builtin.append_ #[71, 71] ty #[.slice ao5 m5 c5, v2]).run Tryz.prog w2 = .ok v' w' ∧ RowIs w' v' (Z (k + 1)) ∧ Grew w2 (.slice ao5 m5 c5) w' v') := Lib.hid (fun ty => by
        have hzl := HZL.out
        rw [HZS.out, List.length_append] at hzl
        rw [HZS.out]
        unfold RowIs
        rw [List.length_append, byteCells_append]
        rcases s2.row.2 with ⟨rfl, h0⟩ | ⟨g2, cap2, cur2, rfl, _⟩
        · have hg0 : g x = [] := List.eq_nil_of_length_eq_zero h0
          refine ⟨_, _, run_append_empty _ _ ty _ j0 1 Tryz.underlying71 hji _ _ _ hb5.row none 0, ?_, Grew.refl _ _⟩
          rw [hg0]
          have q := hb5.row
          unfold RowIs at q
          rw [List.length_nil, Nat.add_zero, show Lib.byteCells [] = [] from rfl, List.append_nil]
          exact q
        · exact run_append_fine (P := Tryz.prog) w2 71 ty 5 j0 (.int .u8 0) 1 1 Tryz.underlying71 hji hz0 hz1 hz2 rfl (by decide) _ _ _ hb5.row ⟨g2, 0, none⟩ (g x).length cap2 (Lib.byteCells (g x)) (by rw [byteCells_length, Nat.mul_one])
            (s2.row.cells (g := g2) rfl) (byteCells_one _) (by unfold maxLen; omega) (by omega))
      have HB5 := Lib.hid hb5
      obtain ⟨ao2, m2, c2, rfl⟩ := row_shape s2.row
      clear s2 hb5 he d0 d1 d2 d3 d4 d5 d6
      go_wp2_with (at_builtin; (obtain ⟨v', w', hrun, hrow', hgrow⟩ := HRUN.out _; refine wpList_append_eq rfl _ _ 71 rfl _ _ v' w' rfl rfl hrun ?_))
      have hbs' : BS w w' v' (Z (k + 1)) := ⟨hrow', fun g hg => by
        rcases hgrow.came with e | e
        · exact HB5.out.own g (e ▸ hg)
        · exact Nat.le_trans HB5.out.bel.size (e g hg), HB5.out.bel.trans (hgrow.only.below HB5.out.bel.size (fun q hq => HB5.out.own q hq))⟩
      have HBS' := Lib.hid hbs'
      clear hbs' hrow' hgrow hrun
      go_wp2
      go_roundw
      case rel => exact ⟨k + 1, by omega, by go_num, HBS'.out⟩
      case measure => simp [intOf]; omega
    · obtain rfl : k = n := by omega
      have hfin : BS w wr (.slice ao5 m5 c5) Y := by
        have h := HBS.out
        rw [HZ.out] at h
        dsimp only at h
        rw [HY.out, listB, ← HN.out]
        rw [List.take_of_length_le (by rw [HN.out]; exact Nat.le_refl _)] at h
        exact h
      have HF' := Lib.hid hfin
      clear hfin
      go_wp2
      go_ret
      exact ⟨_, rfl, HF'.out⟩
end Go.Proofs.YtpincofjopmaaaaGreatDoor
