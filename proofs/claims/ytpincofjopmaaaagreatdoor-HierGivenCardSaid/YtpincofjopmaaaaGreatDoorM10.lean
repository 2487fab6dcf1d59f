/-
  The contract of package pack's reader, Text: a text of whole characters is read, else the error that the document names.
  Conditions: the reader holds its bytes (at most 2^47), stands within them; unicode/utf8's two tables hold what they hold at the start.
  The contracts of strings.Contains at a line feed, and of package code's allows, Check and Takes.
  Conditions: the tables of operators and of unicode/utf8 hold what they hold at the start; texts have at most 2^40 bytes.
  The contract of package code's each, at whatever closure it is handed.
  Conditions: the tables hold what they hold at the start; the instructions lie in memory that was there before; their texts have at most 2^40 bytes.
-/
import Derived.Test.YtpincofjopmaaaaGreatDoorM09
import Derived.Test.YtpincofjopmaaaaGreatDoorM06
namespace Go.Proofs.YtpincofjopmaaaaGreatDoor
open Go.RowKit Go.Shelf

def Tabs (w : World) : Prop := Lib.Utf8Tabs (laysRen.g 3) (laysRen.g 4) w
theorem Tabs.keep {S : Nat → Prop} {w w' : World} (h : Tabs w) (ho : Only S w w') (h0 : ¬ S 2) (h1 : ¬ S 3) : Tabs w' :=
  ⟨fun c hc => ho.cell (h.1 c hc) h0, fun i hi => ⟨ho.cell (h.2 i hi).1 h1, ho.cell (h.2 i hi).2 h1⟩⟩
theorem valid_any (s : List UInt8) (w : World) (hs : s.length ≤ 9223372036854775807) (hT : Tabs w) :
    Calls Tryz.prog 253 #[.string (S s)] w fun e w' => e = .returned (.bool (Lib.validD s)) ∧ Below w.heap.size w w' := by
  have h : Calls Tryz.prog 253 #[.string (S s)] w _ := Any.utf8_ValidString laysValid (S s) w (by rw [S_size]; exact hs) hT
  rw [S_list] at h
  exact h
theorem row_all {w : World} {v : Value} {l : List UInt8} (h : RowIs w v l) (hl : 0 < l.length) : ∃ g c, v = .slice (some ⟨g, 0, none⟩) l.length c ∧ l.length ≤ c ∧ c ≤ 9223372036854775807 ∧ ∀ j, j < l.length → w.cell? ⟨g, j, none⟩ = (Lib.byteCells l)[j]? := by
  rcases h.2 with ⟨rfl, h0⟩ | ⟨g, cap, cur, rfl, _, _, hn, hm, _⟩
  · omega
  · refine ⟨g, cap, rfl, hn, by simpa [maxLen] using hm, fun j hj => h.cellAt j (by omega)⟩
theorem conv_mid (w : World) (g o n cap : Nat) (l : List UInt8) (hl : o + n ≤ l.length) (hc : ∀ j, j < l.length → w.cell? ⟨g, j, none⟩ = (Lib.byteCells l)[j]?) :
    Sem.run Tryz.prog (convert 71 9 (.slice (some ⟨g, o, none⟩) n cap)) w = .ok (.string (S ((l.drop o).take n))) w := by
  have hlen : ((l.drop o).take n).length = n := by rw [List.length_take, List.length_drop]; omega
  have h := run_convert_bytes_arg (P := Tryz.prog) w 71 5 Tryz.underlying71 Tryz.underlying5 g o n cap (((l.drop o).take n).map fun c => (c.toNat : Int)) (by simpa using hlen) (fun i hi => by
    have h1 : o + i < l.length := by omega
    rw [hc (o + i) h1, byteCells_at]
    simp [List.getD, List.getElem?_eq_getElem h1, hi]) 9 Tryz.underlying9
  rw [h]
  clear h
  refine congrArg (fun s => Result.ok (Value.string s) w) ?_
  simp only [strOfNums, S, List.map_map]
  refine congrArg (fun m : List UInt8 => ByteArray.mk m.toArray) ?_
  conv => rhs; rw [← List.map_id ((l.drop o).take n)]
  apply List.map_congr_left
  intro c _
  simp
/-- 'string(b[p:r])', b a slice that holds l. -/
theorem slice_conv (w : World) (g c p r : Nat) (l : List UInt8) (hpr : p ≤ r) (hr : r ≤ l.length) (hlc : l.length ≤ c) (hc : ∀ j, j < l.length → w.cell? ⟨g, j, none⟩ = (Lib.byteCells l)[j]?) (q : Nat) :
    Sem.run Tryz.prog (convert 71 9 (.slice (if c = p then some ⟨g, 0, none⟩ else some ⟨g, p, none⟩) (r - p) (c - p))) (w.drewN q) = .ok (.string (S ((l.drop p).take (r - p)))) (w.drewN q) := by
  by_cases hcp : c = p
  · rw [if_pos hcp, show r - p = 0 from by omega]
    have h := conv_mid (w.drewN q) g 0 0 (c - p) l (by omega) hc
    simpa using h
  · rw [if_neg hcp]
    exact conv_mid (w.drewN q) g p (r - p) (c - p) l (by omega) hc
set_option maxHeartbeats 2000000 in
set_option maxRecDepth 100000 in
theorem rtext_ok (b : Nat) (v : Value) (l : List UInt8) (i V K : Nat) (w : World) (h : RdAt w b v l i 0) (hT : Tabs w) (hb0 : b ≠ 2) (hb1 : b ≠ 3)
    (hR : numFrom 0 0 (l.drop i) = (0, V, K)) (hV : V ≤ 4096) (hL : i + K + V ≤ l.length) (hU : Lib.validD ((l.drop (i + K)).take V) = true) :
    Calls Tryz.prog 149 #[.pointer (some ⟨b, 0, none⟩)] w (Got b v l (i + K + V) 0 (.string (S ((l.drop (i + K)).take V))) w) := by
  have c2 : w.cell? ⟨b, 2, none⟩ = some (.int .i64 0) := h.c2
  have c1 := h.c1
  have hsm := h.small
  have hn := number_any b v l i 0 w h
  rw [hR] at hn
  have HN := Lib.hid hn
  have HU := Lib.hid hU
  have HT := Lib.hid hT
  have hl0 : 0 < l.length := by
    rcases Nat.eq_zero_or_pos l.length with h0 | h0
    · have : l = [] := List.eq_nil_of_length_eq_zero h0
      subst this
      simp [numFrom] at hR
    · exact h0
  obtain ⟨p, hp⟩ : ∃ p, p = i + K := ⟨_, rfl⟩
  rw [← hp] at hL HU ⊢
  have HP := Lib.hid hp
  obtain ⟨r, hr⟩ : ∃ r, r = p + V := ⟨_, rfl⟩
  rw [← hr] at hL ⊢
  have hpr : p ≤ r := by omega
  have hprV : p + V ≤ l.length := by omega
  have HRR := Lib.hid hr
  clear h hn hR hU hT hp hr
  go_enter Tryz.func149, Tryz.ntmps149
  go_wp2_with (first | (go_at_call 251; refine HN.out.mono ?_; rintro e w1 ⟨rfl, hon, j, hrd, hj⟩; obtain rfl : p = j := HP.out.trans (hj rfl).symm; have d1 := hrd.c1; have d0 := hrd.c0; clear hj) | (go_at_call 252; refine (left_any b v l p 0 _ hrd).mono ?_; rintro e w2 ⟨rfl, q, rfl⟩) | go_in)
  have hrd2 := hrd.drewN q
  have hon2 := hon.drewN q
  generalize hw2 : w1.drewN q = w2 at hrd2 hon2 ⊢
  clear hw2 d1 d0 hrd hon
  have d0 := hrd2.c0
  have d1 := hrd2.c1
  obtain ⟨g, c, rfl, hlc, hcm, hcells⟩ := row_all hrd2.row hl0
  have hcv := slice_conv w2 g c p r l hpr hL hlc hcells
  rw [show (l.drop p).take (r - p) = (l.drop p).take V from by rw [show r - p = V from by have := HRR.out; omega]] at hcv
  rw [show ((p : Int) + (V : Int)) = (r : Int) from by have := HRR.out; omega]
  clear hcells
  have HTq : Hid (∀ q, Tabs (w2.drewN q)) := fun q => HT.out.keep (hon2.drewN q) (fun e => hb0 e.symm) (fun e => hb1 e.symm)
  have hslen : ((l.drop p).take V).length ≤ 9223372036854775807 := by rw [List.length_take]; omega
  have HSL := Lib.hid hslen
  clear hslen
  go_quiet (fail)
  go_wp2_with (first | (go_at_call 253; refine (valid_any _ _ HSL.out (HTq.out _)).mono ?_; rintro e w3 ⟨rfl, hbel⟩; rw [HU.out]; have hon3 : Only (fun k => k = b) w w3 := (hon2.drewN _).trans (Only.ofBelow hbel); have hk3 := (hrd2.drewN _).keep (S := fun _ => False) (w' := w3) (Only.ofBelow hbel) id (fun _ _ => id); have d13 := hk3.c1; have f13 := hk3.free 1) | go_in)
  all_goals
    go_ret
    try (have hcp : c = p := by assumption
         subst hcp)
    exact ⟨rfl, hon3.setCell (p := ⟨b, 1, none⟩) rfl _, hk3.setAt r hL⟩
set_option maxHeartbeats 2000000 in
set_option maxRecDepth 100000 in
theorem rtext_form (b : Nat) (v : Value) (l : List UInt8) (i V K : Nat) (w : World) (h : RdAt w b v l i 0) (hT : Tabs w) (hb0 : b ≠ 2) (hb1 : b ≠ 3)
    (hR : numFrom 0 0 (l.drop i) = (0, V, K)) (hV : V ≤ 4096) (hL : i + K + V ≤ l.length) (hU : Lib.validD ((l.drop (i + K)).take V) = false) :
    Calls Tryz.prog 149 #[.pointer (some ⟨b, 0, none⟩)] w (Got b v l i 11 (.string (S [])) w) := by
  have c2 : w.cell? ⟨b, 2, none⟩ = some (.int .i64 0) := h.c2
  have c1 := h.c1
  have hsm := h.small
  have hile := h.le
  have hn := number_any b v l i 0 w h
  rw [hR] at hn
  have HN := Lib.hid hn
  have HU := Lib.hid hU
  have HT := Lib.hid hT
  have hl0 : 0 < l.length := by
    rcases Nat.eq_zero_or_pos l.length with h0 | h0
    · have : l = [] := List.eq_nil_of_length_eq_zero h0
      subst this
      simp [numFrom] at hR
    · exact h0
  obtain ⟨p, hp⟩ : ∃ p, p = i + K := ⟨_, rfl⟩
  rw [← hp] at hL HU
  have HP := Lib.hid hp
  obtain ⟨r, hr⟩ : ∃ r, r = p + V := ⟨_, rfl⟩
  rw [← hr] at hL
  have hpr : p ≤ r := by omega
  have hprV : p + V ≤ l.length := by omega
  have HRR := Lib.hid hr
  clear h hn hR hU hT hp hr
  go_enter Tryz.func149, Tryz.ntmps149
  go_wp2_with (first | (go_at_call 251; refine HN.out.mono ?_; rintro e w1 ⟨rfl, hon, j, hrd, hj⟩; obtain rfl : p = j := HP.out.trans (hj rfl).symm; have d1 := hrd.c1; have d0 := hrd.c0; clear hj) | (go_at_call 252; refine (left_any b v l p 0 _ hrd).mono ?_; rintro e w2 ⟨rfl, q, rfl⟩) | go_in)
  have hrd2 := hrd.drewN q
  have hon2 := hon.drewN q
  generalize hw2 : w1.drewN q = w2 at hrd2 hon2 ⊢
  clear hw2 d1 d0 hrd hon
  have d0 := hrd2.c0
  have d1 := hrd2.c1
  obtain ⟨g, c, rfl, hlc, hcm, hcells⟩ := row_all hrd2.row hl0
  have hcv := slice_conv w2 g c p r l hpr hL hlc hcells
  rw [show (l.drop p).take (r - p) = (l.drop p).take V from by rw [show r - p = V from by have := HRR.out; omega]] at hcv
  rw [show ((p : Int) + (V : Int)) = (r : Int) from by have := HRR.out; omega]
  clear hcells
  have HTq : Hid (∀ q, Tabs (w2.drewN q)) := fun q => HT.out.keep (hon2.drewN q) (fun e => hb0 e.symm) (fun e => hb1 e.symm)
  have hslen : ((l.drop p).take V).length ≤ 9223372036854775807 := by rw [List.length_take]; omega
  have HSL := Lib.hid hslen
  clear hslen
  go_quiet (fail)
  go_wp2_with (first | (go_at_call 253; refine (valid_any _ _ HSL.out (HTq.out _)).mono ?_; rintro e w3 ⟨rfl, hbel⟩; rw [HU.out]; have hon3 : Only (fun k => k = b) w w3 := (hon2.drewN _).trans (Only.ofBelow hbel); have hk3 := (hrd2.drewN _).keep (S := fun _ => False) (w' := w3) (Only.ofBelow hbel) id (fun _ _ => id); have d13 := hk3.c1; have f13 := hk3.free 1; have d23 := hk3.c2; have f23 := hk3.free 2) | go_in)
  all_goals
    go_ret
    try (have hcp : c = p := by assumption
         subst hcp)
    obtain ⟨h1, h2⟩ := hk3.failed hon3 i 11 hile
    exact ⟨rfl, h1, h2⟩

set_option maxHeartbeats 2000000 in
set_option maxRecDepth 100000 in
theorem rtext_stop (b : Nat) (v : Value) (l : List UInt8) (i err : Nat) (w : World) (h : RdAt w b v l i err) (he : err ≠ 0) :
    Calls Tryz.prog 149 #[.pointer (some ⟨b, 0, none⟩)] w (Got b v l i err (.string (S [])) w) := by
  have c2 := h.c2
  have hb : ((err : Int) != 0) = true := by rw [bne_iff_ne]; omega
  have HH := Lib.hid h
  clear h
  go_enter Tryz.func149, Tryz.ntmps149
  go_wp2_with go_in
  go_ret
  exact ⟨rfl, Only.refl _ _, HH.out⟩
set_option maxHeartbeats 2000000 in
set_option maxRecDepth 100000 in
theorem rtext_num (b : Nat) (v : Value) (l : List UInt8) (i E V K : Nat) (w : World) (h : RdAt w b v l i 0) (hR : numFrom 0 0 (l.drop i) = (E, V, K)) (hE : E ≠ 0) :
    Calls Tryz.prog 149 #[.pointer (some ⟨b, 0, none⟩)] w (Got b v l i E (.string (S [])) w) := by
  have c2 : w.cell? ⟨b, 2, none⟩ = some (.int .i64 0) := h.c2
  have c1 := h.c1
  have hle := h.le
  have hn := number_any b v l i 0 w h
  rw [hR] at hn
  have HN := Lib.hid hn
  have hb : ((E : Int) != 0) = true := by rw [bne_iff_ne]; omega
  clear h hn hR
  go_enter Tryz.func149, Tryz.ntmps149
  go_wp2_with (first | (go_at_call 251; refine HN.out.mono ?_; rintro e w1 ⟨rfl, hon, j, hrd, _⟩; have d1 := hrd.c1; have d2 := hrd.c2; have f1 := hrd.free 1; have f2 := hrd.free 2) | go_in)
  go_ret
  obtain ⟨h1, h2⟩ := hrd.failed hon i E hle
  exact ⟨rfl, h1, h2⟩
set_option maxHeartbeats 2000000 in
set_option maxRecDepth 100000 in
theorem rtext_big (b : Nat) (v : Value) (l : List UInt8) (i V K : Nat) (w : World) (h : RdAt w b v l i 0) (hR : numFrom 0 0 (l.drop i) = (0, V, K)) (hV : 4096 < V) :
    Calls Tryz.prog 149 #[.pointer (some ⟨b, 0, none⟩)] w (Got b v l i 12 (.string (S [])) w) := by
  have c2 : w.cell? ⟨b, 2, none⟩ = some (.int .i64 0) := h.c2
  have c1 := h.c1
  have hle := h.le
  have hn := number_any b v l i 0 w h
  rw [hR] at hn
  have HN := Lib.hid hn
  have hVz : (4096 : Int) < (V : Int) := by omega
  clear h hn hR
  go_enter Tryz.func149, Tryz.ntmps149
  go_wp2_with (first | (go_at_call 251; refine HN.out.mono ?_; rintro e w1 ⟨rfl, hon, j, hrd, _⟩; have d1 := hrd.c1; have d2 := hrd.c2; have f1 := hrd.free 1; have f2 := hrd.free 2) | go_in)
  go_ret
  obtain ⟨h1, h2⟩ := hrd.failed hon i 12 hle
  exact ⟨rfl, h1, h2⟩
set_option maxHeartbeats 2000000 in
set_option maxRecDepth 100000 in
theorem rtext_short (b : Nat) (v : Value) (l : List UInt8) (i V K : Nat) (w : World) (h : RdAt w b v l i 0) (hR : numFrom 0 0 (l.drop i) = (0, V, K)) (hV : V ≤ 4096) (hL : l.length < i + K + V) :
    Calls Tryz.prog 149 #[.pointer (some ⟨b, 0, none⟩)] w (Got b v l i 10 (.string (S [])) w) := by
  have c2 : w.cell? ⟨b, 2, none⟩ = some (.int .i64 0) := h.c2
  have c1 := h.c1
  have hle := h.le
  have hsm := h.small
  have hn := number_any b v l i 0 w h
  rw [hR] at hn
  have HN := Lib.hid hn
  obtain ⟨p, hp⟩ : ∃ p, p = i + K := ⟨_, rfl⟩
  rw [← hp] at hL
  have HP := Lib.hid hp
  have hLz : (l.length : Int) - (p : Int) < (V : Int) := by omega
  clear h hn hR hp
  go_enter Tryz.func149, Tryz.ntmps149
  go_wp2_with (first | (go_at_call 251; refine HN.out.mono ?_; rintro e w1 ⟨rfl, hon, j, hrd, hj⟩; obtain rfl : p = j := HP.out.trans (hj rfl).symm; have d1 := hrd.c1; have d2 := hrd.c2; have f1 := hrd.free 1; have f2 := hrd.free 2; have hpl := hrd.le; clear hj) | (go_at_call 252; refine (left_any b v l p 0 _ hrd).mono ?_; rintro e w2 ⟨rfl, q, rfl⟩) | go_in)
  go_ret
  obtain ⟨h1, h2⟩ := (hrd.drewN q).failed (hon.drewN q) i 10 hle
  exact ⟨rfl, h1, h2⟩
end Go.Proofs.YtpincofjopmaaaaGreatDoor
namespace Go.Proofs.YtpincofjopmaaaaGreatDoor
open Go.RowKit
/-- Both tables of unicode/utf8 and the table of operators are as at the start. -/
structure CT (w : World) : Prop where
  tabs : Tabs w
  ops : OpTab w
theorem CT.keep {w w' : World} (h : CT w) (hb : Below w.heap.size w w') : CT w' := ⟨Utf8Tabs_below h.tabs hb, h.ops.keep hb⟩
set_option maxHeartbeats 2000000 in
set_option maxRecDepth 100000 in
theorem indexlf_any (s : ByteArray) (w : World) :
    Calls Tryz.prog 296 #[.string s, .string ⟨#[10]⟩] w fun e w' => e = .returned (.int .i64 (Lib.indexByte s.data.toList 10)) ∧ w = w' := by
  go_enter Tryz.func296, Tryz.ntmps296
  go_wp2_with (go_at_call 298; refine (indexbyte_any _ _ _).mono ?_; rintro e w' ⟨rfl, rfl⟩)
  · have h : ([10] == s.toList) = true := by assumption
    go_ret
    refine ⟨?_, rfl⟩
    have e : s.data.toList = [10] := by rw [← Lib.toList_data]; exact (beq_iff_eq.1 h).symm
    rw [e]
    simp [Lib.indexByte]
  · go_ret
    exact ⟨rfl, rfl⟩
theorem indexByte_has (l : List UInt8) (c : UInt8) : decide (0 ≤ Lib.indexByte l c) = l.contains c := by
  induction l with
  | nil => rfl
  | cons b l ih =>
    have h1 := Lib.indexByte_ge l c
    rw [Lib.indexByte, List.contains_cons, ← ih]
    cases hb : (b == c) with
    | true =>
      have : (c == b) = true := by rw [beq_iff_eq] at hb ⊢; exact hb.symm
      simp [this]
    | false =>
      have : (c == b) = false := by rw [beq_eq_false_iff_ne] at hb ⊢; exact fun h => hb h.symm
      rw [this, Bool.false_or]
      by_cases h : Lib.indexByte l c = -1
      · simp [h]
      · have h2 : (Lib.indexByte l c == -1) = false := by rw [beq_eq_false_iff_ne]; exact h
        simp only [h2, Bool.false_eq_true, if_false]
        exact decide_eq_decide.2 (by omega)
set_option maxHeartbeats 400000 in
set_option maxRecDepth 100000 in
theorem contains_any (l : List UInt8) (w : World) :
    Calls Tryz.prog 289 #[.string (S l), .string ⟨#[10]⟩] w fun e w' => e = .returned (.bool (l.contains 10)) ∧ w = w' := by
  have HIX := Lib.hid (indexlf_any (S l) w)
  rw [← indexByte_has]
  generalize hz : Lib.indexByte l 10 = z at HIX ⊢
  rw [S_list, hz] at HIX
  clear hz
  have hsi : Calls Tryz.prog 294 #[.string (S l), .string ⟨#[10]⟩] w fun e w' => e = .returned (.int .i64 z) ∧ w = w' := by
    go_enter Tryz.func294, Tryz.ntmps294
    go_wp2_with (go_at_call 296; refine HIX.out.mono ?_; rintro e w' ⟨rfl, rfl⟩)
    go_ret
    exact ⟨rfl, rfl⟩
  have HS := Lib.hid hsi
  clear hsi HIX
  go_enter Tryz.func289, Tryz.ntmps289
  go_wp2_with (go_at_call 294; refine HS.out.mono ?_; rintro e w' ⟨rfl, rfl⟩)
  go_ret
  exact ⟨rfl, rfl⟩
/-- May a text stand with an operator that has this? -/
def allowsB (h : Nat) (s : List UInt8) : Bool :=
  if h = 2 then decide (s.length ≤ 64) && Lib.validD s && !s.contains 10
  else if h = 3 then classB s
  else if h = 4 then classB s || decide (0 < depN s)
  else if h = 5 then rightB s && decide (deepN s ≤ 2)
  else if h = 6 then partsB s
  else s == []
set_option maxHeartbeats 2000000 in
set_option maxRecDepth 100000 in
theorem allows_any (h : Nat) (l : List UInt8) (w : World) (hT : CT w) (hlim : l.length ≤ 9223372036854775807) :
    Calls Tryz.prog 279 #[.int .i64 h, .string (S l)] w (Said (allowsB h l) w) := by
  have HT := Lib.hid hT
  clear hT
  unfold allowsB
  by_cases h2 : h = 2
  · subst h2
    rw [if_pos rfl]
    have hsz : ((S l).size : Int) = (l.length : Int) := by rw [S_size]
    have HV := Lib.hid (valid_any l w (by omega) HT.out.tabs)
    have HC : Hid (∀ w, Calls Tryz.prog 289 #[.string (S l), .string ⟨#[10]⟩] w fun e w' => e = .returned (.bool (l.contains 10)) ∧ w = w') := fun w => contains_any l w
    by_cases h64 : l.length ≤ 64
    · have h64' : (l.length : Int) ≤ 64 := by omega
      rw [decide_eq_true h64, Bool.true_and]
      generalize Lib.validD l = v at HV ⊢
      generalize l.contains 10 = c at HC ⊢
      go_enter Tryz.func279, Tryz.ntmps279
      cases v
      · go_wp2_with (first | (go_at_call 253; refine HV.out.mono ?_; rintro e w' ⟨rfl, hbv⟩) | (go_at_call 289; refine (HC.out _).mono ?_; rintro e w' ⟨rfl, rfl⟩))
        go_ret
        exact ⟨rfl, hbv⟩
      · go_wp2_with (first | (go_at_call 253; refine HV.out.mono ?_; rintro e w' ⟨rfl, hbv⟩) | (go_at_call 289; refine (HC.out _).mono ?_; rintro e w' ⟨rfl, rfl⟩))
        go_ret
        exact ⟨rfl, hbv⟩
    · have h64' : (64 : Int) < (l.length : Int) := by omega
      rw [decide_eq_false h64, Bool.false_and, Bool.false_and]
      go_enter Tryz.func279, Tryz.ntmps279
      go_wp2
      go_ret
      exact ⟨rfl, Below.refl _ _⟩
  rw [if_neg h2]
  have e2 : ((h : Int) == 2) = false := by rw [beq_eq_false_iff_ne]; omega
  by_cases h3 : h = 3
  · subst h3
    rw [if_pos rfl]
    have HC := Lib.hid (class_any l w hlim)
    generalize classB l = c at HC ⊢
    go_enter Tryz.func279, Tryz.ntmps279
    go_wp2_with (go_at_call 162; refine HC.out.mono ?_; rintro e w' ⟨rfl, hb⟩)
    go_ret
    exact ⟨rfl, hb⟩
  rw [if_neg h3]
  have e3 : ((h : Int) == 3) = false := by rw [beq_eq_false_iff_ne]; omega
  by_cases h4 : h = 4
  · subst h4
    rw [if_pos rfl]
    have HC := Lib.hid (class_any l w hlim)
    have HD : Hid (∀ w, Calls Tryz.prog 76 #[.string (S l)] w (SaidN (depN l) w)) := fun w => deep_any l w hlim
    generalize classB l = c at HC ⊢
    generalize depN l = d at HD ⊢
    go_enter Tryz.func279, Tryz.ntmps279
    cases c
    · go_wp2_with (first | (go_at_call 162; refine HC.out.mono ?_; rintro e w' ⟨rfl, hb⟩) | (go_at_call 76; refine (HD.out _).mono ?_; rintro e w'' ⟨rfl, hb2⟩))
      go_ret
      refine ⟨?_, hb.trans (hb2.mono hb.size)⟩
      rw [Bool.false_or]
      rfl
    · go_wp2_with (first | (go_at_call 162; refine HC.out.mono ?_; rintro e w' ⟨rfl, hb⟩) | (go_at_call 76; refine (HD.out _).mono ?_; rintro e w'' ⟨rfl, hb2⟩))
      go_ret
      exact ⟨rfl, hb⟩
  rw [if_neg h4]
  have e4 : ((h : Int) == 4) = false := by rw [beq_eq_false_iff_ne]; omega
  by_cases h5 : h = 5
  · subst h5
    rw [if_pos rfl]
    by_cases hr : rightB l = true ∧ deepN l ≤ 2
    · rw [hr.1, decide_eq_true hr.2]
      have HO := Lib.hid (of_yes l w hlim hr.1 hr.2)
      clear hr
      go_enter Tryz.func279, Tryz.ntmps279
      go_wp2_with (go_at_call 290; refine HO.out.mono ?_; rintro e w' ⟨rfl, hb⟩)
      go_ret
      exact ⟨rfl, hb⟩
    · have hf : (rightB l && decide (deepN l ≤ 2)) = false := by
        rw [Bool.eq_false_iff]
        intro hh
        rw [Bool.and_eq_true, decide_eq_true_eq] at hh
        exact hr hh
      rw [hf]
      have HO := Lib.hid (of_no l w hlim hr)
      clear hr hf
      go_enter Tryz.func279, Tryz.ntmps279
      go_wp2_with (go_at_call 290; refine HO.out.mono ?_; rintro e w' ⟨rfl, hb⟩)
      go_ret
      exact ⟨rfl, hb⟩
  rw [if_neg h5]
  have e5 : ((h : Int) == 5) = false := by rw [beq_eq_false_iff_ne]; omega
  by_cases h6 : h = 6
  · subst h6
    rw [if_pos rfl]
    cases hp : partsB l
    · have HO := Lib.hid (parts_no l w hlim hp)
      clear hp
      go_enter Tryz.func279, Tryz.ntmps279
      go_wp2_with (go_at_call 291; refine HO.out.mono ?_; rintro e w' ⟨rfl, hb⟩)
      go_ret
      exact ⟨rfl, hb⟩
    · have HO := Lib.hid (parts_yes l w hlim hp)
      clear hp
      go_enter Tryz.func279, Tryz.ntmps279
      go_wp2_with (go_at_call 291; refine HO.out.mono ?_; rintro e w' ⟨rfl, hb⟩)
      go_ret
      exact ⟨rfl, hb⟩
  rw [if_neg h6]
  have e6 : ((h : Int) == 6) = false := by rw [beq_eq_false_iff_ne]; omega
  have es := S_toList l
  go_enter Tryz.func279, Tryz.ntmps279
  go_wp2
  go_ret
  refine ⟨?_, Below.refl _ _⟩
  show Ending.returned (.bool l.isEmpty) = .returned (.bool (l == []))
  cases l <;> rfl
/-- What Check answers. -/
def checkE (op : List UInt8) (n : Int) (s : List UInt8) : Nat :=
  if idx op < 42 then (if hasAt (idx op) ≠ 1 ∧ n ≠ 0 then 41 else if allowsB (hasAt (idx op)) s then 0 else 41) else 40
/-- An instruction's value. -/
abbrev insV (op : List UInt8) (n : Int) (s : List UInt8) : Value := .agg #[.string (S op), .int .i64 n, .string (S s)]
theorem SaidN_below {n : Nat} {w : World} {e : Ending} {w' : World} (h : SaidN n w e w') : e = .returned (.int .i64 n) ∧ Below w.heap.size w w' := h
set_option maxHeartbeats 2000000 in
set_option maxRecDepth 100000 in
theorem check_any (op : List UInt8) (n : Int) (s : List UInt8) (w : World) (hT : CT w) (hlim : s.length ≤ 9223372036854775807) :
    Calls Tryz.prog 266 #[insV op n s] w fun e w' => e = .returned (.int .i64 (checkE op n s : Nat)) ∧ Below w.heap.size w w' := by
  have HT := Lib.hid hT
  clear hT
  go_enter Tryz.func266, Tryz.ntmps266
  go_wp2_with fail
  have hb0 : Below w.heap.size w (w.alloc (.cells #[.string (S op), .int .i64 n, .string (S s)] 70)) := (Below.refl _ w).alloc (Nat.le_refl _) _
  refine (cnamed_any op _ (HT.out.ops.keep hb0)).mono ?_
  rintro e w1 ⟨rfl, hb1⟩
  have hi1 : w1.heap[w.heap.size]? = some (.cells #[.string (S op), .int .i64 n, .string (S s)] 70 (0, 0)) := (Only.ofBelow (S := fun _ => False) hb1).heap (heap_alloc_new w _) id
  have hbw : Below w.heap.size w w1 := hb0.trans (hb1.mono hb0.size)
  clear hb1 hb0
  have hcN : w1.cell? ⟨w.heap.size, 1, none⟩ = some (.int .i64 n) := by simp [World.cell?, hi1]
  have hcS : w1.cell? ⟨w.heap.size, 2, none⟩ = some (.string (S s)) := by simp [World.cell?, hi1]
  have hsz : w.heap.size < w1.heap.size := lt_of_block hi1
  clear hi1
  have hbA : ∀ o : Obj, Below w.heap.size w (w1.alloc o) := fun o => hbw.alloc hbw.size o
  unfold lookV
  generalize nameAt (idx op) = nm
  by_cases hN : idx op < 42
  · rw [if_pos hN, decide_eq_true hN]
    have hE : checkE op n s = (if hasAt (idx op) ≠ 1 ∧ n ≠ 0 then 41 else if allowsB (hasAt (idx op)) s then 0 else 41) := if_pos hN
    generalize hasAt (idx op) = h at hE ⊢
    generalize idx op = q
    have HA : Hid (∀ o : Obj, Calls Tryz.prog 279 #[.int .i64 h, .string (S s)] (w1.alloc o) (Said (allowsB h s) (w1.alloc o))) := fun o => allows_any h s _ (HT.out.keep (hbA o)) hlim
    generalize allowsB h s = ok at HA hE
    have HB := Lib.hid hbA
    clear hbA hbw hN
    by_cases h1 : h = 1
    · subst h1
      rw [if_neg (by simp)] at hE
      cases ok
      · have HE := Lib.hid hE
        clear hE
        go_wp2_with (go_at_call 279; refine (HA.out _).mono ?_; rintro e w' ⟨rfl, hb⟩)
        go_ret
        exact ⟨by rw [HE.out]; rfl, (HB.out _).trans (hb.mono (HB.out _).size)⟩
      · have HE := Lib.hid hE
        clear hE
        go_wp2_with (go_at_call 279; refine (HA.out _).mono ?_; rintro e w' ⟨rfl, hb⟩)
        go_ret
        exact ⟨by rw [HE.out]; rfl, (HB.out _).trans (hb.mono (HB.out _).size)⟩
    · have e1 : ((h : Int) == 1) = false := by rw [beq_eq_false_iff_ne]; omega
      have e1' : ((h : Int) != 1) = true := by rw [bne_iff_ne]; omega
      by_cases hn : n = 0
      · subst hn
        rw [if_neg (by simp)] at hE
        cases ok
        · have HE := Lib.hid hE
          clear hE
          go_wp2_with (go_at_call 279; refine (HA.out _).mono ?_; rintro e w' ⟨rfl, hb⟩)
          go_ret
          exact ⟨by rw [HE.out]; rfl, (HB.out _).trans (hb.mono (HB.out _).size)⟩
        · have HE := Lib.hid hE
          clear hE
          go_wp2_with (go_at_call 279; refine (HA.out _).mono ?_; rintro e w' ⟨rfl, hb⟩)
          go_ret
          exact ⟨by rw [HE.out]; rfl, (HB.out _).trans (hb.mono (HB.out _).size)⟩
      · rw [if_pos ⟨h1, hn⟩] at hE
        have HE := Lib.hid hE
        clear hE
        have e2 : (n != 0) = true := by rw [bne_iff_ne]; exact hn
        go_wp2
        go_ret
        exact ⟨by rw [HE.out]; rfl, HB.out _⟩
  · have HE : Hid (checkE op n s = 40) := Lib.hid (if_neg hN)
    rw [if_neg hN, decide_eq_false hN]
    generalize hasAt (idx op) = h
    have HB := Lib.hid hbA
    clear hbA hbw hN
    go_wp2
    go_ret
    exact ⟨by rw [HE.out]; rfl, HB.out _⟩
end Go.Proofs.YtpincofjopmaaaaGreatDoor
namespace Go.Proofs.YtpincofjopmaaaaGreatDoor
open Go.RowKit
/-- An instruction: operator, number, text. -/
structure Ins where
  op : List UInt8
  n : Int
  s : List UInt8
abbrev Ins.v (x : Ins) : Value := insV x.op x.n x.s
def Ins.e (x : Ins) : Nat := checkE x.op x.n x.s
/-- The first error of instructions; 0: none. -/
def allE : List Ins → Nat
  | [] => 0
  | x :: l => if x.e = 0 then allE l else x.e
/-- Instructions that a slice holds. -/
def InsSrc (w : World) (sv : Value) (l : List Ins) : Prop :=
  (∃ ao cap, sv = .slice ao 0 cap ∧ l = []) ∨ ∃ b o cap, sv = .slice (some ⟨b, o, none⟩) l.length cap ∧
    ∀ k x, l[k]? = some x → w.cell? ⟨b, o + k * 3, none⟩ = some (.string (S x.op)) ∧ w.cell? ⟨b, o + k * 3 + 1, none⟩ = some (.int .i64 x.n) ∧ w.cell? ⟨b, o + k * 3 + 2, none⟩ = some (.string (S x.s))
theorem InsSrc.keep {w w' : World} {sv : Value} {l : List Ins} (h : InsSrc w sv l) (hb : Below w.heap.size w w') : InsSrc w' sv l := by
  rcases h with h | ⟨b, o, cap, he, hc⟩
  · exact .inl h
  · refine .inr ⟨b, o, cap, he, fun k x hx => ?_⟩
    obtain ⟨h0, h1, h2⟩ := hc k x hx
    have ho := Only.ofBelow (S := fun _ => False) hb
    exact ⟨ho.cell h0 id, ho.cell h1 id, ho.cell h2 id⟩
theorem allE_drop (l : List Ins) (k : Nat) (x : Ins) (h : l[k]? = some x) : allE (l.drop k) = if x.e = 0 then allE (l.drop (k + 1)) else x.e := by
  have hl : k < l.length := by
    rcases Nat.lt_or_ge k l.length with h1 | h1
    · exact h1
    · rw [List.getElem?_eq_none h1] at h; cases h
  rw [List.getElem?_eq_getElem hl] at h
  rw [List.drop_eq_getElem_cons hl, Option.some.inj h]
  rfl
set_option maxHeartbeats 2000000 in
set_option maxRecDepth 100000 in
theorem each_any (F : Nat) (cp : Value) (w0 w : World) (l : List Ins) (sv : Value) (Inv : Nat → World → Prop) (he : ∀ args w, (callFunc F args).run Tryz.prog w = .ok (.enter F args) w)
    (hT : CT w0) (hs : InsSrc w0 sv l) (hlim : ∀ x ∈ l, x.s.length ≤ 9223372036854775807) (hlen : l.length ≤ 9223372036854775807)
    (h0 : Inv 0 w) (hB : ∀ k w', Inv k w' → Below w0.heap.size w0 w') (hK : ∀ k w' w'', Inv k w' → Below w'.heap.size w' w'' → Inv k w'')
    (hF : ∀ (k : Nat) (x : Ins) (w' : World), l[k]? = some x → x.e = 0 → Inv k w' → Calls Tryz.prog F #[x.v, .int .i64 (idx x.op : Nat), .agg #[.string (S (nameAt (idx x.op))), .int .i64 (hasAt (idx x.op) : Nat)], cp] w' fun e w'' => e = .returned (.tuple #[]) ∧ Inv (k + 1) w'') :
    Calls Tryz.prog 247 #[sv, .func (.func F) #[] #[cp]] w fun e w' => e = .returned (.int .i64 (allE l : Nat)) ∧ (allE l = 0 → Inv l.length w') ∧ Below w0.heap.size w0 w' := by
  have HF := Lib.hid hF
  have HE := Lib.hid he
  have HT := Lib.hid hT
  have HB := Lib.hid hB
  have HK := Lib.hid hK
  have HL := Lib.hid hlim
  clear hF he hT hB hK hlim
  rcases hs with ⟨ao, cp0, rfl, rfl⟩ | ⟨b, o, cap, rfl, hc⟩
  · go_enter Tryz.func247, Tryz.ntmps247
    go_wp2
    go_loopw [13] (fun v13 wr => v13 = .int .i64 0 ∧ wr = w) (fun _ _ => 0)
    case atStart => exact ⟨rfl, rfl⟩
    case round =>
      obtain ⟨rfl, rfl⟩ := hrel
      go_wp2
      go_ret
      exact ⟨rfl, fun _ => h0, HB.out 0 _ h0⟩
  · have HC := Lib.hid hc
    obtain ⟨n, hn⟩ : ∃ n, n = l.length := ⟨_, rfl⟩
    rw [← hn] at hlen ⊢
    have HN := Lib.hid hn
    clear hc hn
    go_enter Tryz.func247, Tryz.ntmps247
    go_wp2
    go_loopw [13] (fun v13 wr => ∃ k : Nat, k ≤ n ∧ v13 = .int .i64 k ∧ Inv k wr ∧ allE l = allE (l.drop k)) (fun v13 _ => n - (intOf v13).toNat)
    case atStart => exact ⟨0, Nat.zero_le _, rfl, h0, rfl⟩
    case round =>
      obtain ⟨k, hk, rfl, hinv, hall⟩ := hrel
      have HA := Lib.hid hall
      have HI := Lib.hid hinv
      clear hall hinv
      by_cases hlt : k < n
      · have hkl : k < l.length := by have := HN.out; omega
        obtain ⟨x, hx⟩ : ∃ x, l[k]? = some x := ⟨_, List.getElem?_eq_getElem hkl⟩
        have hbw := HB.out k wr HI.out
        obtain ⟨c0, c1, c2⟩ := HC.out k x hx
        have d0 := (Only.ofBelow (S := fun _ => False) hbw).cell c0 id
        have d1 := (Only.ofBelow (S := fun _ => False) hbw).cell c1 id
        have d2 := (Only.ofBelow (S := fun _ => False) hbw).cell c2 id
        have HX := Lib.hid hx
        have HXL := Lib.hid (HL.out x (List.mem_of_getElem? hx))
        have HTW := Lib.hid (HT.out.keep hbw)
        clear c0 c1 c2 hx hkl hbw
        have hk0 : (0 : Int) ≤ k := by omega
        have hkn : (k : Int) < (n : Int) := by omega
        have he := HE.out
        go_wp2_with fail
        have hbA : Below wr.heap.size wr (wr.alloc (.cells #[.string (S x.op), .int .i64 x.n, .string (S x.s)] 70)) := (Below.refl _ wr).alloc (Nat.le_refl _) _
        refine (check_any x.op x.n x.s _ (HTW.out.keep hbA) HXL.out).mono ?_
        rintro e w1 ⟨rfl, hb1⟩
        have hi1 : w1.heap[wr.heap.size]? = some (.cells #[.string (S x.op), .int .i64 x.n, .string (S x.s)] 70 (0, 0)) := (Only.ofBelow (S := fun _ => False) hb1).heap (heap_alloc_new wr _) id
        have hbw1 : Below wr.heap.size wr w1 := hbA.trans (hb1.mono hbA.size)
        have hdr := allE_drop l k x HX.out
        unfold Ins.e at hdr
        have HDR := Lib.hid hdr
        clear hb1 hbA hdr d0 d1 d2
        by_cases hz : checkE x.op x.n x.s = 0
        · rw [hz]
          have hcO : w1.cell? ⟨wr.heap.size, 0, none⟩ = some (.string (S x.op)) := by simp [World.cell?, hi1]
          have hI1 := Lib.hid hi1
          have HW1 := Lib.hid hbw1
          clear hi1 hbw1
          go_wp2_with fail
          refine (cnamed_any x.op w1 (HTW.out.keep HW1.out).ops).mono ?_
          rintro e w2 ⟨rfl, hb2⟩
          have hN : idx x.op < 42 := by
            rcases Nat.lt_or_ge (idx x.op) 42 with h | h
            · exact h
            · have : checkE x.op x.n x.s = 40 := if_neg (by omega)
              omega
          have hi2 := (Only.ofBelow (S := fun _ => False) hb2).heap hI1.out id
          have e0 : w2.cell? ⟨wr.heap.size, 0, none⟩ = some (.string (S x.op)) := by simp [World.cell?, hi2]
          have e1 : w2.cell? ⟨wr.heap.size, 1, none⟩ = some (.int .i64 x.n) := by simp [World.cell?, hi2]
          have e2 : w2.cell? ⟨wr.heap.size, 2, none⟩ = some (.string (S x.s)) := by simp [World.cell?, hi2]
          have hlt2 : wr.heap.size < w2.heap.size := lt_of_block hi2
          have hbw2 : Below wr.heap.size wr w2 := HW1.out.trans (hb2.mono HW1.out.size)
          have HW2 := Lib.hid hbw2
          unfold lookV
          rw [if_pos hN, decide_eq_true hN]
          have HFX : Hid (∀ w', Inv k w' → Calls Tryz.prog F #[.agg #[.string (S x.op), .int .i64 x.n, .string (S x.s)], .int .i64 (idx x.op : Nat), .agg #[.string (S (nameAt (idx x.op))), .int .i64 (hasAt (idx x.op) : Nat)], cp] w' fun e w'' => e = .returned (.tuple #[]) ∧ Inv (k + 1) w'') := Lib.hid (fun w' hi => HF.out k x w' HX.out hz hi)
          rw [if_pos hz] at HDR
          clear hi2 hbw2 hb2 hcO hz hN
          generalize idx x.op = q at HFX ⊢
          generalize nameAt q = nm at HFX ⊢
          generalize hasAt q = h at HFX ⊢
          go_wp2_with fail
          refine (HFX.out _ (HK.out k wr _ HI.out (HW2.out.alloc HW2.out.size _))).mono ?_
          rintro e w3 ⟨rfl, hi3⟩
          have HI3 := Lib.hid hi3
          clear hi3 e0 e1 e2
          go_wp2
          go_roundw
          case rel => exact ⟨k + 1, by omega, by go_num, HI3.out, by rw [HA.out]; exact HDR.out⟩
          case measure => simp [intOf]; omega
        · rw [if_neg hz] at HDR
          have HI1 := HK.out k wr w1 HI.out hbw1
          have HZ := Lib.hid hz
          have hze : ((checkE x.op x.n x.s : Nat) : Int) ≠ 0 := by omega
          have hzb : (((checkE x.op x.n x.s : Nat) : Int) != 0) = true := by rw [bne_iff_ne]; exact hze
          clear hi1 hbw1 hz
          generalize checkE x.op x.n x.s = E at *
          go_wp2
          go_ret
          refine ⟨by rw [HA.out, HDR.out]; rfl, fun h => ?_, HB.out k _ HI1⟩
          rw [HA.out, HDR.out] at h
          exact absurd h HZ.out
      · obtain rfl : k = n := by omega
        have hz : allE l = 0 := by rw [HA.out, List.drop_of_length_le (by rw [HN.out]; exact Nat.le_refl _)]; rfl
        have HZ := Lib.hid hz
        clear hz
        go_wp2
        go_ret
        refine ⟨by rw [HZ.out]; rfl, fun _ => ?_, HB.out _ _ HI.out⟩
        exact HI.out
end Go.Proofs.YtpincofjopmaaaaGreatDoor
