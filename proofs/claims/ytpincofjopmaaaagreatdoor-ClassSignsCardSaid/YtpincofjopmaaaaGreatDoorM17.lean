/-
  The contracts of package class's texts, flags and nums, and of putList at slices of texts, fields, catches, methods and classes, at whatever function it is handed.
  Conditions: the elements lie in memory that was there before; all together they are at most 2^47 bytes.
-/
import Derived.Test.YtpincofjopmaaaaGreatDoorM15
import Derived.Test.YtpincofjopmaaaaGreatDoorM16
import Derived.Test.YtpincofjopmaaaaGreatDoorM06
namespace Go.Proofs.YtpincofjopmaaaaGreatDoor
open Go.RowKit
theorem cls_shape {A : Nat → Prop} {w : World} {c : Cls} {v : Value} (h : ClsR A w c v) : ∃ lv fv mv, v = .agg #[.string (S c.name), .string (S c.sup), lv, .bool c.itf, .bool c.abs, .bool c.fin, fv, mv] ∧ (∃ lo lc, lv = .slice lo c.like.length lc) ∧ (∃ fo fc, fv = .slice fo c.flds.length fc) ∧ ∃ mo mc, mv = .slice mo c.mths.length mc := by
  obtain ⟨pv, cv, kv, rfl, h1, h2, h3⟩ := h
  exact ⟨pv, cv, kv, rfl, h1.shape, h2.shape, h3.shape⟩
theorem BS.le {w0 w w' : World} {v : Value} {l : List UInt8} (h : Below w0.heap.size w0 w) (s : BS w w' v l) : BS w0 w' v l := ⟨s.row, fun g hg => Nat.le_trans h.size (s.own g hg), h.trans (s.bel.mono h.size)⟩
theorem textsMost_le (ts : List (List UInt8)) (B : Nat) (h : ∀ s ∈ ts, s.length ≤ B) : textsMost ts ≤ (B + 10) * ts.length := by
  induction ts with
  | nil => simp [textsMost]
  | cons x r ih =>
    have h1 := h x (by simp)
    have h2 := ih (fun y hy => h y (by simp [hy]))
    unfold textsMost at h2 ⊢
    rw [List.map_cons, List.sum_cons, List.length_cons, Nat.mul_succ]
    omega
set_option maxHeartbeats 4000000 in
set_option maxRecDepth 100000 in
theorem ctexts_any (ts : List (List UInt8)) (X o c : Nat) (w : World) (hX : X < w.heap.size) (hc : ∀ j, j < ts.length → w.cell? ⟨X, o + j, none⟩ = some (.string (S (ts.getD j [])))) (hlim : textsMost ts ≤ 140737488355328) (hl2 : (texts ts).length ≤ 140737488355328) :
    Calls Tryz.prog 141 #[.slice (some ⟨X, o, none⟩) ts.length c] w (Bytes' w (texts ts)) := by
  have hb0 : Below w.heap.size w (w.alloc (.cells #[.slice none 0 0] 237)) := (Below.refl _ w).alloc (Nat.le_refl _) _
  have s0 := WS.new (Below.refl w.heap.size w)
  have HW := Lib.hid (wtext_any w.heap.size X o c (.slice none 0 0) [] ts _ s0.wr (by omega) (by simp [Value.ownBlock]) (fun j hj => (Only.ofBelow (S := fun _ => False) hb0).cell (hc j hj) id) (by simpa using hlim))
  have HS := Lib.hid s0
  have HL2 := Lib.hid hl2
  clear hc hlim hb0 s0 hl2 hX
  generalize texts ts = bs at HW HL2 ⊢
  generalize ts.length = n at HW ⊢
  go_enter Tryz.func141, Tryz.ntmps141
  go_wp2_with fail
  refine (write_any _).mono ?_
  rintro e w1 ⟨rfl, rfl⟩
  go_wp2_with fail
  refine HW.out.mono ?_
  intro e w2 hw
  obtain ⟨rfl, v2, s2⟩ := hw.ws HS.out
  rw [List.nil_append] at s2
  have HBY := Lib.hid (ws_bytes s2 HL2.out)
  clear s2 hw
  go_wp2_with fail
  refine HBY.out.mono ?_
  rintro e w3 ⟨v3, rfl, s3⟩
  obtain ⟨ao3, m3, c3, rfl⟩ := row_shape s3.row
  clear HBY
  go_wp2
  go_ret
  exact ⟨_, rfl, s3⟩
set_option maxHeartbeats 4000000 in
set_option maxRecDepth 100000 in
theorem cflags_any (ts : List (Bool)) (X o c : Nat) (w : World) (hX : X < w.heap.size) (hc : ∀ j, j < ts.length → w.cell? ⟨X, o + j, none⟩ = some (.bool (ts.getD j false))) (hlim : ts.length ≤ 140737488355328) (hl2 : (ts.map flagByte).length ≤ 140737488355328) :
    Calls Tryz.prog 144 #[.slice (some ⟨X, o, none⟩) ts.length c] w (Bytes' w (ts.map flagByte)) := by
  have hb0 : Below w.heap.size w (w.alloc (.cells #[.slice none 0 0] 237)) := (Below.refl _ w).alloc (Nat.le_refl _) _
  have s0 := WS.new (Below.refl w.heap.size w)
  have HW := Lib.hid (wflag_any w.heap.size X o c (.slice none 0 0) [] ts _ s0.wr (by omega) (by simp [Value.ownBlock]) (fun j hj => (Only.ofBelow (S := fun _ => False) hb0).cell (hc j hj) id) (by simpa using hlim))
  have HS := Lib.hid s0
  have HL2 := Lib.hid hl2
  clear hc hlim hb0 s0 hl2 hX
  generalize ts.map flagByte = bs at HW HL2 ⊢
  generalize ts.length = n at HW ⊢
  go_enter Tryz.func144, Tryz.ntmps144
  go_wp2_with fail
  refine (write_any _).mono ?_
  rintro e w1 ⟨rfl, rfl⟩
  go_wp2_with fail
  refine HW.out.mono ?_
  intro e w2 hw
  obtain ⟨rfl, v2, s2⟩ := hw.ws HS.out
  rw [List.nil_append] at s2
  have HBY := Lib.hid (ws_bytes s2 HL2.out)
  clear s2 hw
  go_wp2_with fail
  refine HBY.out.mono ?_
  rintro e w3 ⟨v3, rfl, s3⟩
  obtain ⟨ao3, m3, c3, rfl⟩ := row_shape s3.row
  clear HBY
  go_wp2
  go_ret
  exact ⟨_, rfl, s3⟩
set_option maxHeartbeats 4000000 in
set_option maxRecDepth 100000 in
theorem cnums_any (ns : List Nat) (X o c : Nat) (w : World) (hc : ∀ j x, ns[j]? = some x → w.cell? ⟨X, o + j, none⟩ = some (.int .i64 (x : Nat))) (hn : ∀ x ∈ ns, x ≤ 9223372036854775807) (hlen : ns.length ≤ 1048576) :
    Calls Tryz.prog 208 #[.slice (some ⟨X, o, none⟩) ns.length c] w (Bytes' w (nums ns)) := by
  have HC := Lib.hid hc
  have HNN := Lib.hid hn
  obtain ⟨n, hnn⟩ : ∃ n, n = ns.length := ⟨_, rfl⟩
  rw [← hnn] at hlen ⊢
  have HN := Lib.hid hnn
  clear hc hn hnn
  have s0 := WS.new (Below.refl w.heap.size w)
  have HS0 := Lib.hid s0
  clear s0
  have hlb : ∀ k, (nums (ns.take k)).length ≤ 10 * n := fun k => by
    have h1 := flat_le Lib.uvarint 10 (ns.take k) (fun x hx => Lib.uvarint_length64 (by have := HNN.out x (List.mem_of_mem_take hx); omega))
    rw [List.length_take] at h1
    have h2 := HN.out
    unfold nums
    have h3 : 10 * min k ns.length ≤ 10 * n := Nat.mul_le_mul_left 10 (by omega)
    omega
  have HLB := Lib.hid hlb
  clear hlb
  obtain ⟨b, hb⟩ : ∃ b, b = w.heap.size := ⟨_, rfl⟩
  have HBB := Lib.hid hb
  go_enter Tryz.func208, Tryz.ntmps208
  go_wp2_with fail
  refine (write_any _).mono ?_
  rintro e w1 ⟨rfl, rfl⟩
  rw [← hb] at HS0 ⊢
  generalize w.alloc (.cells #[.slice none 0 0] 237) = W1 at HS0 ⊢
  clear hb
  go_wp2
  go_loopw [9] (fun v9 wr => ∃ (k : Nat) (v : Value), k ≤ n ∧ v9 = .int .i64 k ∧ WS w wr b v (nums (ns.take k))) (fun v9 _ => n - (intOf v9).toNat)
  case atStart => exact ⟨0, .slice none 0 0, Nat.zero_le _, rfl, HS0.out⟩
  case round =>
    obtain ⟨k, v, hk, rfl, hws⟩ := hrel
    have HWS := Lib.hid hws
    clear hws
    by_cases hlt : k < n
    · have hkl : k < ns.length := by have := HN.out; omega
      obtain ⟨x, hx⟩ : ∃ x, ns[k]? = some x := ⟨_, List.getElem?_eq_getElem hkl⟩
      have hcell := (Only.ofBelow (S := fun _ => False) HWS.out.bel).cell (HC.out k x hx) id
      have hxb := HNN.out x (List.mem_of_getElem? hx)
      have hsn : nums (ns.take (k + 1)) = nums (ns.take k) ++ Lib.uvarint x := by unfold nums; rw [List.take_add_one, hx]; simp
      have HSN := Lib.hid hsn
      have hx0 : (0 : Int) ≤ (x : Int) := by omega
      have hx1 : (x : Int) ≤ 9223372036854775807 := by omega
      have hk0 : (0 : Int) ≤ k := by omega
      have hkn : (k : Int) < (n : Int) := by omega
      have HWN := Lib.hid (ws_num HWS.out x (by omega) (by have := HLB.out k; omega))
      clear hkl hx hsn
      go_wp2_with fail
      refine HWN.out.mono ?_
      rintro e w2 ⟨rfl, v2, s2⟩
      rw [← HSN.out] at s2
      have HS2 := Lib.hid s2
      clear s2 hcell HWN
      go_wp2
      go_roundw
      case rel => exact ⟨k + 1, v2, by omega, by go_num, HS2.out⟩
      case measure => simp [intOf]; omega
    · obtain rfl : k = n := by omega
      have hfa : nums (ns.take k) = nums ns := by rw [List.take_of_length_le (by rw [HN.out]; exact Nat.le_refl _)]
      have HFA := Lib.hid hfa
      have HBY := Lib.hid (ws_bytes HWS.out (by have := HLB.out k; omega))
      rw [hfa] at HBY
      clear hfa
      go_wp2_with fail
      refine HBY.out.mono ?_
      rintro e w3 ⟨v3, rfl, s3⟩
      obtain ⟨ao3, m3, c3, rfl⟩ := row_shape s3.row
      clear HBY
      go_wp2
      go_ret
      exact ⟨_, rfl, s3⟩
set_option maxHeartbeats 4000000 in
set_option maxRecDepth 100000 in
theorem pc1_any (s : List UInt8) (w : World) (hs : s.length ≤ 4096) :
    Calls Tryz.prog 143 #[.string (S s)] w (Bytes' w (textBytes s)) := by
  have hb0 : Below w.heap.size w (w.alloc (.cells #[.string (S s)] 9)) := (Below.refl _ w).alloc (Nat.le_refl _) _
  have ht := text_le s 4096 hs (by decide)
  have HT := Lib.hid (ctexts_any [s] w.heap.size 0 1 (w.alloc (.cells #[.string (S s)] 9)) (by simp) (fun j hj => by (obtain rfl : j = 0 := (by simpa using hj)); simp) (by simp [textsMost]; omega) (by simp [texts]; omega))
  rw [show texts [s] = textBytes s from by simp [texts]] at HT
  have HB0 := Lib.hid hb0
  clear hb0 ht hs
  go_enter Tryz.func143, Tryz.ntmps143
  go_wp2_with fail
  refine HT.out.mono ?_
  rintro e w1 ⟨v1, rfl, s1⟩
  obtain ⟨ao1, m1, c1, rfl⟩ := row_shape s1.row
  have HS := Lib.hid (s1.le HB0.out)
  clear s1
  go_wp2
  go_ret
  exact ⟨_, rfl, HS.out⟩
set_option maxHeartbeats 4000000 in
set_option maxRecDepth 100000 in
theorem pm1_any (s : List UInt8) (w : World) (hs : s.length ≤ 4096) :
    Calls Tryz.prog 210 #[.string (S s)] w (Bytes' w (textBytes s)) := by
  have hb0 : Below w.heap.size w (w.alloc (.cells #[.string (S s)] 9)) := (Below.refl _ w).alloc (Nat.le_refl _) _
  have ht := text_le s 4096 hs (by decide)
  have HT := Lib.hid (ctexts_any [s] w.heap.size 0 1 (w.alloc (.cells #[.string (S s)] 9)) (by simp) (fun j hj => by (obtain rfl : j = 0 := (by simpa using hj)); simp) (by simp [textsMost]; omega) (by simp [texts]; omega))
  rw [show texts [s] = textBytes s from by simp [texts]] at HT
  have HB0 := Lib.hid hb0
  clear hb0 ht hs
  go_enter Tryz.func210, Tryz.ntmps210
  go_wp2_with fail
  refine HT.out.mono ?_
  rintro e w1 ⟨v1, rfl, s1⟩
  obtain ⟨ao1, m1, c1, rfl⟩ := row_shape s1.row
  have HS := Lib.hid (s1.le HB0.out)
  clear s1
  go_wp2
  go_ret
  exact ⟨_, rfl, HS.out⟩
set_option maxHeartbeats 4000000 in
set_option maxRecDepth 100000 in
theorem putl_str {A : Nat → Prop} (F : Nat) (g : List UInt8 → List UInt8) (l : List (List UInt8)) (sv : Value) (w : World) (he : ∀ args w, (callFunc F args).run Tryz.prog w = .ok (.enter F args) w)
    (hs : Src 1 StrR A w sv l) (hF : ∀ (k : Nat) (x : List UInt8) (v : Value) (w' : World), l[k]? = some x → Below w.heap.size w w' → StrR A w' x v → Calls Tryz.prog F #[v] w' (Bytes' w' (g x))) (hlen : l.length ≤ 1048576) (hlim : (l.flatMap g).length ≤ 1099511627776) :
    Calls Tryz.prog 142 #[sv, .func (.func F) #[] #[]] w (Bytes' w (listB g l)) := by
  obtain ⟨j0, hji, hz0, hz1, hz2⟩ := info_parts info_u8
  have HF := Lib.hid hF
  have HE := Lib.hid he
  have HLM := Lib.hid hlim
  obtain ⟨n, hnn⟩ : ∃ n, n = l.length := ⟨_, rfl⟩
  obtain ⟨so, sc, rfl⟩ : ∃ so sc, sv = .slice so n sc := by rw [hnn]; exact hs.shape
  have HN := Lib.hid hnn
  have hn1 : n ≤ 1048576 := by omega
  have HC : Hid (∀ (k : Nat) (x : List UInt8), l[k]? = some x → ∃ b o v, so = some ⟨b, o, none⟩ ∧ StrR A w x v ∧ v.cells.size = 1 ∧ ∀ j u, v.cells[j]? = some u → w.cell? ⟨b, o + k * 1 + j, none⟩ = some u) := Lib.hid (fun k x hx => by
    rcases hs with ⟨ao, cp0, he, rfl⟩ | ⟨b, o, cap, he, _, hc⟩
    · simp at hx
    · simp at he
      obtain ⟨v, hv, hsz, hcl⟩ := hc k x hx
      exact ⟨b, o, v, he.1, hv, hsz, hcl⟩)
  have HNB : Hid (Calls Tryz.prog 208 #[.slice (some ⟨w.heap.size, 0, none⟩) 1 1] (w.alloc (.cells #[.int .i64 (n : Nat)] 3)) (Bytes' (w.alloc (.cells #[.int .i64 (n : Nat)] 3)) (Lib.uvarint n))) := Lib.hid (by
    have q := cnums_any [n] w.heap.size 0 1 (w.alloc (.cells #[.int .i64 (n : Nat)] 3)) (fun j x hx => by
      match j, hx with
      | 0, hx => (obtain rfl : n = x := (by simpa using hx)); simp
      | j + 1, hx => simp at hx) (fun x hx => by simp at hx; omega) (by simp)
    rw [show nums [n] = Lib.uvarint n from by simp [nums]] at q
    exact q)
  have HB0 := Lib.hid ((Below.refl w.heap.size w).alloc (Nat.le_refl _) (.cells #[.int .i64 (n : Nat)] 3))
  have HUV := Lib.hid (show (Lib.uvarint n).length ≤ 10 from Lib.uvarint_length64 (by omega))
  obtain ⟨Z, hZ⟩ : ∃ Z : Nat → List UInt8, Z = fun k => Lib.uvarint n ++ (l.take k).flatMap g := ⟨_, rfl⟩
  have HZ := Lib.hid hZ
  obtain ⟨Y, hY⟩ : ∃ Y, Y = listB g l := ⟨_, rfl⟩
  rw [← hY]
  have HY := Lib.hid hY
  clear hF he hs hlim hnn hlen hZ hY
  go_enter Tryz.func142, Tryz.ntmps142
  go_wp2_with fail
  refine HNB.out.mono ?_
  rintro e w1 ⟨v1, rfl, s1⟩
  obtain ⟨ao1, m1, c1, rfl⟩ := row_shape s1.row
  have hz0' : BS w w1 (.slice ao1 m1 c1) (Z 0) := by
    have := s1.le HB0.out
    rw [HZ.out]
    simpa using this
  have HS1 := Lib.hid hz0'
  clear s1 hz0'
  go_wp2
  go_loopw [5, 14] (fun v5 v14 wr => ∃ (k : Nat), k ≤ n ∧ v14 = .int .i64 k ∧ BS w wr v5 (Z k)) (fun _ v14 _ => n - (intOf v14).toNat)
  case atStart => exact ⟨0, Nat.zero_le _, rfl, HS1.out⟩
  case round =>
    obtain ⟨k, hk, rfl, hbs⟩ := hrel
    obtain ⟨ao5, m5, c5, rfl⟩ := row_shape hbs.row
    have HBS := Lib.hid hbs
    clear hbs
    by_cases hlt : k < n
    · have hkl : k < l.length := by have := HN.out; omega
      obtain ⟨x, hx⟩ : ∃ x, l[k]? = some x := ⟨_, List.getElem?_eq_getElem hkl⟩
      have hoW := Only.ofBelow (S := fun _ => False) HBS.out.bel
      have HX := Lib.hid hx
      obtain ⟨b, o, v, rfl, hv, hsz, hcl⟩ := HC.out k x hx
      have HV := Lib.hid (StrR.st.keep hv hoW (fun _ _ => id))
      obtain rfl := hv
      have d0 : wr.cell? ⟨b, o + k, none⟩ = some (.string (S x)) := hoW.cell (a := ⟨b, o + k, none⟩) (by have q := hcl 0 _ rfl; rw [Nat.mul_one] at q; exact q) id
      clear hcl hsz
      have hzs : Z (k + 1) = Z k ++ g x := by
        rw [HZ.out]
        dsimp only
        rw [List.take_add_one, HX.out, List.flatMap_append, List.append_assoc]
        simp
      have hzl : (Z (k + 1)).length ≤ 1099511627786 := by
        have h1 := HLM.out
        have h2 := HUV.out
        have h3 : ((l.take (k + 1)).flatMap g).length ≤ (l.flatMap g).length := by
          conv => rhs; rw [← List.take_append_drop (k + 1) l, List.flatMap_append, List.length_append]
          omega
        rw [HZ.out]
        dsimp only
        rw [List.length_append]
        omega
      have HZS := Lib.hid hzs
      have HZL := Lib.hid hzl
      have HFX := Lib.hid (HF.out k x _ wr HX.out HBS.out.bel HV.out)
      clear hkl hx hoW hzs hzl
      have hk0 : (0 : Int) ≤ k := by omega
      have hkn : (k : Int) < (n : Int) := by omega
      have he := HE.out
      go_wp2_with fail
      refine HFX.out.mono ?_
      rintro e w2 ⟨v2, rfl, s2⟩
      have hb5 := HBS.out.keep s2.bel
      have HRUN : Hid (∀ ty, ∃ v' w', (Builtin.append_ #[71, 71] ty #[.slice ao5 m5 c5, v2]).run Tryz.prog w2 = .ok v' w' ∧ RowIs w' v' (Z (k + 1)) ∧ Grew w2 (.slice ao5 m5 c5) w' v') := Lib.hid (fun ty => by
        have hzl := HZL.out
        rw [HZS.out, List.length_append] at hzl
        rw [HZS.out]
        unfold RowIs
        rw [List.length_append, byteCells_append]
        rcases s2.row.2 with ⟨rfl, h0⟩ | ⟨g2, cap2, cur2, rfl, _⟩
        · have hg0 : g x = [] := List.eq_nil_of_length_eq_zero h0
          refine ⟨_, _, run_append_empty _ _ ty _ j0 1 Tryz.underlying71 hji _ _ _ hb5.row none 0, ?_, Grew.refl _ _⟩
          rw [hg0]
          have q := hb5.row
          unfold RowIs at q
          rw [List.length_nil, Nat.add_zero, show Lib.byteCells [] = [] from rfl, List.append_nil]
          exact q
        · exact run_append_fine (P := Tryz.prog) w2 71 ty 5 j0 (.int .u8 0) 1 1 Tryz.underlying71 hji hz0 hz1 hz2 rfl (by decide) _ _ _ hb5.row ⟨g2, 0, none⟩ (g x).length cap2 (Lib.byteCells (g x)) (by rw [byteCells_length, Nat.mul_one])
            (s2.row.cells (g := g2) rfl) (byteCells_one _) (by unfold maxLen; omega) (by omega))
      have HB5 := Lib.hid hb5
      obtain ⟨ao2, m2, c2, rfl⟩ := row_shape s2.row
      clear s2 hb5 he d0
      go_wp2_with (at_builtin; (obtain ⟨v', w', hrun, hrow', hgrow⟩ := HRUN.out _; refine wpList_append_eq rfl _ _ 71 rfl _ _ v' w' rfl rfl hrun ?_))
      have hbs' : BS w w' v' (Z (k + 1)) := ⟨hrow', fun g hg => by
        rcases hgrow.came with e | e
        · exact HB5.out.own g (e ▸ hg)
        · exact Nat.le_trans HB5.out.bel.size (e g hg), HB5.out.bel.trans (hgrow.only.below HB5.out.bel.size (fun q hq => HB5.out.own q hq))⟩
      have HBS' := Lib.hid hbs'
      clear hbs' hrow' hgrow hrun
      go_wp2
      go_roundw
      case rel => exact ⟨k + 1, by omega, by go_num, HBS'.out⟩
      case measure => simp [intOf]; omega
    · obtain rfl : k = n := by omega
      have hfin : BS w wr (.slice ao5 m5 c5) Y := by
        have h := HBS.out
        rw [HZ.out] at h
        dsimp only at h
        rw [HY.out, listB, ← HN.out]
        rw [List.take_of_length_le (by rw [HN.out]; exact Nat.le_refl _)] at h
        exact h
      have HF' := Lib.hid hfin
      clear hfin
      go_wp2
      go_ret
      exact ⟨_, rfl, HF'.out⟩
end Go.Proofs.YtpincofjopmaaaaGreatDoor
