/-
  Contracts and plain facts that the laws share; each piece is headed by what it holds and its conditions.
-/
import Derived.Test.YtoohahjmiljpgaaQS11
import Derived.Test.YtoohahjmiljpgaaQS15
import Derived.Test.YtoohahjmiljpgaaQRfe
import Derived.Test.YtoohahjmiljpgaaQS12
import Derived.Test.YtoohahjmiljpgaaQS13
import Derived.Test.YtoohahjmiljpgaaQS17
import Derived.Test.YtoohahjmiljpgaaQS7
import Derived.Laws.StructEq
import Derived.BigQuiet
import Derived.Deep.WholeRow
import Derived.Deep.Cut

/- Shapes and packets by value: == tells whether two are the same; how they lie. No conditions but those that each fact names. -/
namespace Go.Proofs.Ytoohahjmiljpgaa
open Go.RowKit
open M
theorem part_agg {e e2 : TypeId} {k : Nat} {i : TypeInfo} {xs : Array Value} {off : Nat} (hu : Try.prog.underlying e = some (.array k e2)) (hi : Try.prog.info? e = some i) (w : World) : (part e xs off).run Try.prog w = .ok (.agg (xs.extract off (off + Try.prog.cellsOf e))) w := by
  simp [part, isAgg, run_underlying hu, run_sizeOf w hi]
theorem part_rec {e : TypeId} {fs : Array Field} {i : TypeInfo} {xs : Array Value} {off : Nat} (hu : Try.prog.underlying e = some (.struct fs)) (hi : Try.prog.info? e = some i) (w : World) : (part e xs off).run Try.prog w = .ok (.agg (xs.extract off (off + Try.prog.cellsOf e))) w := by
  simp [part, isAgg, run_underlying hu, run_sizeOf w hi]
theorem ext_cells (l : List Int) (o n : Nat) : (iCells l).extract o (o + n) = iCells ((l.drop o).take n) := by
  unfold iCells
  apply Array.ext'
  rw [Array.toList_extract, List.extract_eq_take_drop, Nat.add_sub_cancel_left, List.map_take, List.map_drop]
/-- Whether == of such values tells whether their numbers are the same. -/
def EqI (d : Nat) (t : TypeId) (n : Nat) : Prop := ∀ (a b : List Int) (w : World), a.length = n → b.length = n → (Op.equalIn d t (.agg (iCells a)) (.agg (iCells b))).run Try.prog w = .ok (a == b) w
theorem some_of {t : TypeId} (h : (Try.prog.info? t).isSome = true) : ∃ i, Try.prog.info? t = some i := by
  cases hc : Try.prog.info? t with
  | some i => exact ⟨i, rfl⟩
  | none => rw [hc] at h; cases h
theorem eqI_ints (d n : Nat) {t : TypeId} (hu : Try.prog.underlying t = some (.array n 3)) : EqI (d + 1 + 1) t n := fun a b w ha hb => by
  obtain ⟨i, hi⟩ := int_infoS
  rw [run_equalIn_array w (d + 1) _ _ hu hi, ints_itemsS d a b w (by omega) _ (fun j hj => by have := List.mem_range.1 hj; omega), all_sameS a b (by omega) n ha.symm]
theorem eq_chunks (n : Nat) : ∀ (m : Nat) (a b : List Int), a.length = m * n → b.length = m * n → ((List.range m).all fun i => (a.drop (i * n)).take n == (b.drop (i * n)).take n) = (a == b) := by
  intro m a b ha hb
  rw [Bool.eq_iff_iff, List.all_eq_true, beq_iff_eq]
  constructor
  · intro k
    apply List.ext_getElem (by omega)
    intro j h1 h2
    have hn : 0 < n := by
      rcases Nat.eq_zero_or_pos n with h | h
      · rw [h, Nat.mul_zero] at ha; omega
      · exact h
    have hjm : j / n < m := Nat.div_lt_of_lt_mul (by rw [Nat.mul_comm]; omega)
    have h := beq_iff_eq.1 (k (j / n) (List.mem_range.2 hjm))
    have hd := Nat.div_add_mod j n
    have hr := Nat.mod_lt j hn
    have e := congrArg (fun l => l[j % n]?) h
    simp only [List.getElem?_take, if_pos hr, List.getElem?_drop] at e
    rw [show j / n * n + j % n = j by rw [Nat.mul_comm]; exact hd, List.getElem?_eq_getElem h1, List.getElem?_eq_getElem h2] at e
    exact Option.some.inj e
  · rintro rfl i _
    exact beq_self_eq_true _
theorem chunk_items (d : Nat) {e e2 : TypeId} {k n : Nat} {i : TypeInfo} (hu : Try.prog.underlying e = some (.array k e2)) (hi : Try.prog.info? e = some i) (hc : Try.prog.cellsOf e = n) (ih : EqI d e n) (a b : List Int) (w : World) (hl : a.length = b.length) : ∀ is : List Nat, (∀ i ∈ is, i * n + n ≤ a.length) →
    (Op.eqItems d e (Try.prog.cellsOf e) (iCells a) (iCells b) is).run Try.prog w = .ok (is.all fun i => (a.drop (i * n)).take n == (b.drop (i * n)).take n) w
  | [], _ => by simp [Op.eqItems]
  | j :: is, h => by
    have ih2 := chunk_items d hu hi hc ih a b w hl is fun p hp => h p (List.mem_cons_of_mem _ hp)
    have hj := h j (List.mem_cons_self ..)
    have p1 := part_agg (xs := iCells a) (off := j * n) hu hi w
    have p2 := part_agg (xs := iCells b) (off := j * n) hu hi w
    rw [hc, ext_cells] at p1 p2
    have p3 := ih ((a.drop (j * n)).take n) ((b.drop (j * n)).take n) w (by rw [List.length_take, List.length_drop]; omega) (by rw [List.length_take, List.length_drop]; omega)
    rw [hc] at ih2 ⊢
    simp only [Op.eqItems, Sem.run_bind, p1, p2, p3, Result.andThen_ok, List.all_cons]
    cases (a.drop (j * n)).take n == (b.drop (j * n)).take n
    · simp
    · simpa using ih2
theorem eqI_array (d m n : Nat) {t e e2 : TypeId} {k : Nat} {i : TypeInfo} (ht : Try.prog.underlying t = some (.array m e)) (hu : Try.prog.underlying e = some (.array k e2)) (hi : Try.prog.info? e = some i) (hc : Try.prog.cellsOf e = n) (ih : EqI d e n) : EqI (d + 1) t (m * n) := fun a b w ha hb => by
  rw [run_equalIn_array w d _ _ ht hi, chunk_items d hu hi hc ih a b w (by omega) _ (fun j hj => by
    have h1 := List.mem_range.1 hj
    have h2 := Nat.mul_le_mul_right n (show j + 1 ≤ m by omega)
    rw [Nat.add_mul, Nat.one_mul] at h2
    omega), eq_chunks n m a b ha hb]
theorem eq_split (o : Nat) (a b : List Int) (h : a.length = b.length) : (a.take o == b.take o && (a.drop o == b.drop o)) = (a == b) := by
  rw [Bool.eq_iff_iff, Bool.and_eq_true, beq_iff_eq, beq_iff_eq, beq_iff_eq]
  constructor
  · rintro ⟨h1, h2⟩
    rw [← List.take_append_drop o a, h1, h2, List.take_append_drop]
  · rintro rfl
    exact ⟨rfl, rfl⟩
theorem sh_fields : (Try.prog.fieldsOf 32).toList.map (fun f => (f.name != "_", f.type, f.offset)) = [(true, 27, 0), (true, 30, 8)] := by kernel_rfl
theorem sh_under : Try.prog.underlying 32 = some (.struct (Try.prog.fieldsOf 32)) := by kernel_rfl
theorem sh_stood : Try.prog.stoodInHeld 32 = false := by kernel_rfl
theorem sh_ar8 : Try.prog.cellsOf 27 = 8 ∧ Try.prog.cellsOf 30 = 32 ∧ Try.prog.cellsOf 29 = 4 := by
  refine ⟨by kernel_rfl, by kernel_rfl, by kernel_rfl⟩
theorem eqI_side (d : Nat) : EqI (d + 2) 27 8 := eqI_ints d 8 Try.underlying27
theorem eqI_puls (d : Nat) : EqI (d + 2) 29 4 := eqI_ints d 4 Try.underlying29
theorem eqI_ys (d : Nat) : EqI (d + 3) 30 32 := by
  obtain ⟨i, hi⟩ := some_of (t := 29) (by kernel_rfl)
  exact eqI_array (d + 2) 8 4 Try.underlying30 Try.underlying29 hi sh_ar8.2.2 (eqI_puls d)
theorem two_fields {fs : List Field} {a b : Bool × TypeId × Nat} (h : fs.map (fun f => (f.name != "_", f.type, f.offset)) = [a, b]) : ∃ f g : Field, fs = [f, g] ∧ (f.name != "_", f.type, f.offset) = a ∧ (g.name != "_", g.type, g.offset) = b := by
  match fs, h with
  | [f, g], h =>
    injection h with h1 h2
    injection h2 with h2 _
    exact ⟨f, g, rfl, h1, h2⟩
  | [], h => cases h
  | [_], h => cases h
  | _ :: _ :: _ :: _, h => cases h
set_option maxRecDepth 100000 in
theorem eqI_shape (d : Nat) : EqI (d + 4) 32 40 := fun a b w ha hb => by
  obtain ⟨i1, hi1⟩ := some_of (t := 27) (by kernel_rfl)
  obtain ⟨i2, hi2⟩ := some_of (t := 30) (by kernel_rfl)
  obtain ⟨f, g, hfs, hf, hg⟩ := two_fields sh_fields
  obtain ⟨f1, f2, f3⟩ : (f.name != "_") = true ∧ f.type = 27 ∧ f.offset = 0 := by
    injection hf with h1 h2; injection h2 with h2 h3; exact ⟨h1, h2, h3⟩
  obtain ⟨g1, g2, g3⟩ : (g.name != "_") = true ∧ g.type = 30 ∧ g.offset = 8 := by
    injection hg with h1 h2; injection h2 with h2 h3; exact ⟨h1, h2, h3⟩
  have n1 : f.name ≠ "_" := by simpa using f1
  have n2 : g.name ≠ "_" := by simpa using g1
  have p1 := part_agg (xs := iCells a) (off := 0) Try.underlying27 hi1 w
  have p2 := part_agg (xs := iCells b) (off := 0) Try.underlying27 hi1 w
  have p3 := part_agg (xs := iCells a) (off := 8) Try.underlying30 hi2 w
  have p4 := part_agg (xs := iCells b) (off := 8) Try.underlying30 hi2 w
  rw [sh_ar8.1, ext_cells, List.drop_zero] at p1 p2
  rw [sh_ar8.2.1, ext_cells, List.take_of_length_le (by rw [List.length_drop]; omega)] at p3 p4
  have q1 := eqI_side (d + 1) (a.take 8) (b.take 8) w (by rw [List.length_take]; omega) (by rw [List.length_take]; omega)
  have q2 := eqI_ys d (a.drop 8) (b.drop 8) w (by rw [List.length_drop]; omega) (by rw [List.length_drop]; omega)
  rw [run_equalIn_struct w (d + 3) _ _ _ sh_under sh_stood, hfs]
  simp only [Op.eqFields, n1, n2, ne_eq, not_false_eq_true, if_true, f2, f3, g2, g3, Sem.run_bind, p1, p2, Result.andThen_ok, q1]
  rw [← eq_split 8 a b (by omega)]
  cases a.take 8 == b.take 8
  · simp
  · cases hq : a.drop 8 == b.drop 8 <;> rw [hq] at q2 <;> simp [p3, p4, q2]
set_option maxRecDepth 100000 in
theorem shape_eq (a b : List Int) (ha : a.length = 40) (hb : b.length = 40) (w : World) :
    (Op.equalIn 10000 32 (.agg (iCells a)) (.agg (iCells b))).run Try.prog w = .ok (a == b) w := eqI_shape 9996 a b w ha hb
end Go.Proofs.Ytoohahjmiljpgaa

/- Packets by value (a number, a shape): == tells whether two are the same; how they lie, their zero value. No conditions but those that each fact names. -/
namespace Go.Proofs.Ytoohahjmiljpgaa
open Go.RowKit
open M
def zp41 : List Int := List.replicate 41 0
theorem zp41_length : zp41.length = 41 := by unfold zp41; rw [List.length_replicate]
set_option maxRecDepth 100000 in
theorem pkt_info : (Try.prog.info? 35).map (fun i => (i.zero, i.size)) = some (some (.agg (iCells zp41)), 41) := by kernel_rfl
theorem pkt_zero (w : World) : (zeroValue 35).run Try.prog w = .ok (.agg (iCells zp41)) w := (zero_of_info pkt_info).1 w
theorem pkt_size (l : List Int) (h : l.length = 41) : (Try.prog.info? 35).map (·.size) = some (iCells l).size := by
  rw [iCells_size, h]; exact (zero_of_info pkt_info).2
theorem pkt_same (l m : List Int) (h : l.length = 41) (k : m.length = 41) : (iCells l).size = (iCells m).size := by
  rw [iCells_size, iCells_size, h, k]
theorem pk_fields : (Try.prog.fieldsOf 35).toList.map (fun f => (f.name != "_", f.type, f.offset)) = [(true, 3, 0), (true, 32, 1)] := by kernel_rfl
theorem pk_under : Try.prog.underlying 35 = some (.struct (Try.prog.fieldsOf 35)) := by kernel_rfl
theorem pk_stood : Try.prog.stoodInHeld 35 = false := by kernel_rfl
theorem pk_c40 : Try.prog.cellsOf 32 = 40 := by kernel_rfl
set_option maxRecDepth 100000 in
theorem eqI_packet (d : Nat) : EqI (d + 5) 35 41 := fun a b w ha hb => by
  obtain ⟨i2, hi2⟩ := some_of (t := 32) (by kernel_rfl)
  obtain ⟨f, g, hfs, hf, hg⟩ := two_fields pk_fields
  obtain ⟨f1, f2, f3⟩ : (f.name != "_") = true ∧ f.type = 3 ∧ f.offset = 0 := by
    injection hf with h1 h2; injection h2 with h2 h3; exact ⟨h1, h2, h3⟩
  obtain ⟨g1, g2, g3⟩ : (g.name != "_") = true ∧ g.type = 32 ∧ g.offset = 1 := by
    injection hg with h1 h2; injection h2 with h2 h3; exact ⟨h1, h2, h3⟩
  have n1 : f.name ≠ "_" := by simpa using f1
  have n2 : g.name ≠ "_" := by simpa using g1
  match a, b, ha, hb with
  | x :: a, y :: b, ha, hb =>
    have p1 := run_part_plain w plain_intS (iCells_get (x :: a) 0 (by simp))
    have p2 := run_part_plain w plain_intS (iCells_get (y :: b) 0 (by simp))
    have p3 := part_rec (xs := iCells (x :: a)) (off := 1) sh_under hi2 w
    have p4 := part_rec (xs := iCells (y :: b)) (off := 1) sh_under hi2 w
    rw [List.getD_cons_zero] at p1 p2
    rw [pk_c40, ext_cells, List.drop_succ_cons, List.drop_zero, List.take_of_length_le (by simpa using Nat.le_of_eq (by simpa using ha))] at p3
    rw [pk_c40, ext_cells, List.drop_succ_cons, List.drop_zero, List.take_of_length_le (by simpa using Nat.le_of_eq (by simpa using hb))] at p4
    have q1 := run_equalIn_int w (d + 3) 3 .i64 .i64 x y Try.underlying3
    have q2 := eqI_shape d a b w (by simpa using ha) (by simpa using hb)
    rw [run_equalIn_struct w (d + 4) _ _ _ pk_under pk_stood, hfs]
    simp only [Op.eqFields, n1, n2, ne_eq, not_false_eq_true, if_true, f2, f3, g2, g3, Sem.run_bind, p1, p2, Result.andThen_ok, q1]
    rw [show ((x :: a) == (y :: b)) = ((x == y) && (a == b)) from rfl]
    cases x == y
    · simp
    · cases hq : a == b <;> rw [hq] at q2 <;> simp [p3, p4, q2]
set_option maxRecDepth 100000 in
theorem packet_eq (a b : List Int) (ha : a.length = 41) (hb : b.length = 41) (w : World) :
    (Op.equalIn 10000 35 (.agg (iCells a)) (.agg (iCells b))).run Try.prog w = .ok (a == b) w := eqI_packet 9995 a b w ha hb
end Go.Proofs.Ytoohahjmiljpgaa

/- pvq's Pulses. Conditions: lists of numbers as they lie. -/
namespace Go.Proofs.Ytoohahjmiljpgaa
open Go.RowKit
open M
set_option maxRecDepth 100000 in
theorem pulses_any (l : List Int) (v : Value) (w : World) (hv : IntsAt w v l) (hl : l.length ≤ maxLen) :
    Calls Try.prog 48 #[v] w fun e w' => e = .returned (.int .i64 (pu13 l : Nat)) ∧ w' = w := by
  obtain ⟨a, cap, rfl, hcell⟩ := hv
  have HLO := Lib.hid (pu_long l)
  have HIN := Lib.hid (pu_in l)
  have HFAR := Lib.hid (pu_far l)
  have HTK := Lib.hid (pl_take l)
  have HFU : Hid (pl13 (l.take l.length) = pl13 l) := Lib.hid (by rw [List.take_length])
  have hLB : (l.length : Int) ≤ 9223372036854775807 := by unfold maxLen at hl; omega
  obtain ⟨L, hL⟩ : ∃ L, l.length = L := ⟨_, rfl⟩
  rw [hL] at hcell HLO HIN HFAR HTK HFU hLB ⊢
  clear hL hl
  obtain ⟨p, hp⟩ : ∃ p, pu13 l = p := ⟨_, rfl⟩
  rw [hp] at HLO HIN HFAR ⊢
  clear hp
  by_cases h8 : 8 < L
  · obtain rfl := HLO.out h8
    clear hcell HLO HIN HFAR HTK HFU
    go_enter Try.func48, Try.ntmps48
    go_wp2
    go_ret
    exact ⟨rfl, rfl⟩
  · have HP := Lib.hid (HIN.out (by omega))
    clear HLO HIN
    have h8I : ¬ (8 : Int) < (L : Int) := by omega
    go_enter Try.func48, Try.ntmps48
    go_wp2
    go_loop [3, 11] (fun s i => ∃ k q : Nat, k ≤ L ∧ i = .int .i64 k ∧ s = .int .i64 q ∧ q = pl13 (l.take k) ∧ q ≤ 12 * k) (fun _ i => L - (intOf i).toNat)
    case atStart => exact ⟨0, 0, by omega, rfl, rfl, rfl, by omega⟩
    case round =>
      obtain ⟨k, q, hk, rfl, rfl, hq, hqb⟩ := hrel
      rcases Nat.lt_or_ge k L with hlt | hge
      · obtain ⟨b, off, rfl, hbs, hcs⟩ := hcell (by omega)
        have c0 := hcs k hlt
        have HF := Lib.hid (HFAR.out k hlt)
        have HT := Lib.hid (HTK.out k hlt)
        have HQ := Lib.hid hq
        have hL8 : L ≤ 8 := by omega
        clear hcs hcell hbs hq
        obtain ⟨x, hx⟩ : ∃ x, l.getD k 0 = x := ⟨_, rfl⟩
        rw [hx] at c0 HF HT
        clear hx
        by_cases h1 : x < -12
        · obtain rfl := HF.out (Or.inl h1)
          clear HF HT HFAR HTK HFU HP HQ
          go_wp2
          go_ret
          exact ⟨rfl, rfl⟩
        · by_cases h2 : x > 12
          · obtain rfl := HF.out (Or.inr h2)
            clear HF HT HFAR HTK HFU HP HQ
            go_wp2
            go_ret
            exact ⟨rfl, rfl⟩
          · have hwa : wrap64 ((q : Int) + (x.natAbs : Int)) = ((q + x.natAbs : Nat) : Int) := by rw [wrap64]; omega
            have hna : x.natAbs ≤ 12 := by omega
            clear HF HFAR
            go_wp2_with fail
            refine (size_any x w (by omega) (by omega)).mono ?_
            rintro e w1 ⟨rfl, rfl⟩
            go_wp2_with fail
            have hkk : wrap64 ((k : Int) + 1) = ((k + 1 : Nat) : Int) := by rw [wrap64]; omega
            go_round
            case rel => exact ⟨k + 1, q + x.natAbs, hlt, by go_num, by go_num, by rw [HT.out, ← HQ.out], by omega⟩
            case measure => simp [intOf] <;> omega
      · obtain rfl : k = L := by omega
        have HQ := Lib.hid (hq.trans HFU.out)
        clear hcell hq HFU HTK HFAR
        by_cases h3 : 13 < q
        · go_wp2
          go_ret
          exact ⟨by rw [HP.out, ← HQ.out]; exact ret_eq (by omega), rfl⟩
        · go_wp2
          go_ret
          exact ⟨by rw [HP.out, ← HQ.out]; exact ret_eq (by omega), rfl⟩
end Go.Proofs.Ytoohahjmiljpgaa

/- Layer 19: pack's isSize, isFrame and has. Conditions: eight bands' pulses, eight counts. -/
namespace Go.Proofs.Ytoohahjmiljpgaa
open Go.RowKit
open M
theorem isize_any (n : Int) (w : World) : Calls Try.prog 20 #[.int .i64 n] w fun e w' => e = .returned (.bool (decide (12 ≤ n ∧ n ≤ 24))) ∧ w' = w := by
  by_cases h1 : n < 12
  · have e : decide (12 ≤ n ∧ n ≤ 24) = false := decide_eq_false (by omega)
    have h2 : ¬ n ≥ 12 := by omega
    rw [e]
    clear e
    go_enter Try.func20, Try.ntmps20
    go_wp2
    go_ret
    exact ⟨rfl, rfl⟩
  · have h3 : n ≥ 12 := by omega
    by_cases h2 : n ≤ 24
    · have e : decide (12 ≤ n ∧ n ≤ 24) = true := decide_eq_true (by omega)
      rw [e]
      clear e
      go_enter Try.func20, Try.ntmps20
      go_wp2
      go_ret
      exact ⟨rfl, rfl⟩
    · have e : decide (12 ≤ n ∧ n ≤ 24) = false := decide_eq_false (by omega)
      rw [e]
      clear e
      go_enter Try.func20, Try.ntmps20
      go_wp2
      go_ret
      exact ⟨rfl, rfl⟩
theorem iframe_any (n : Int) (w : World) : Calls Try.prog 21 #[.int .i64 n] w fun e w' => e = .returned (.bool (decide (0 ≤ n ∧ n ≤ 65535))) ∧ w' = w := by
  by_cases h1 : n < 0
  · have e : decide (0 ≤ n ∧ n ≤ 65535) = false := decide_eq_false (by omega)
    have h2 : ¬ n ≥ 0 := by omega
    rw [e]
    clear e
    go_enter Try.func21, Try.ntmps21
    go_wp2
    go_ret
    exact ⟨rfl, rfl⟩
  · have h3 : n ≥ 0 := by omega
    by_cases h2 : n < 65536
    · have e : decide (0 ≤ n ∧ n ≤ 65535) = true := decide_eq_true (by omega)
      rw [e]
      clear e
      go_enter Try.func21, Try.ntmps21
      go_wp2
      go_ret
      exact ⟨rfl, rfl⟩
    · have e : decide (0 ≤ n ∧ n ≤ 65535) = false := decide_eq_false (by omega)
      rw [e]
      clear e
      go_enter Try.func21, Try.ntmps21
      go_wp2
      go_ret
      exact ⟨rfl, rfl⟩
/-- Pulses by value: four numbers. -/
theorem pls_info : (Try.prog.info? 29).map (fun i => (i.zero, i.size)) = some (some (.agg (iCells [0, 0, 0, 0])), 4) := by kernel_rfl
theorem pls_zero (w : World) : (zeroValue 29).run Try.prog w = .ok (.agg (iCells [0, 0, 0, 0])) w := (zero_of_info pls_info).1 w
theorem pls_size (l : List Int) (h : l.length = 4) : (Try.prog.info? 29).map (·.size) = some (iCells l).size := by
  rw [iCells_size, h]; kernel_rfl
theorem bds_size (l : List Int) (h : l.length = 32) : (Try.prog.info? 30).map (·.size) = some (iCells l).size := by
  rw [iCells_size, h]; kernel_rfl
theorem ext_pto (y : List Int) (o n : Nat) (h : o + n ≤ y.length) : (iCells y).extract o (o + n) = iCells (pto y o n) := by
  apply Array.ext
  · rw [Array.size_extract, iCells_size, iCells_size, pto_len]; omega
  · intro i h1 h2
    rw [iCells_size, pto_len] at h2
    have hoi : o + i < y.length := by omega
    have a := iCells_get y (o + i) hoi
    have b := iCells_get (pto y o n) i (by rw [pto_len]; exact h2)
    rw [pto_getD _ _ _ _ h2] at b
    rw [Array.getElem_extract]
    rw [Array.getElem?_eq_getElem (by rw [iCells_size]; exact hoi)] at a
    rw [Array.getElem?_eq_getElem (by rw [iCells_size, pto_len]; exact h2)] at b
    exact Option.some.inj (a.trans b.symm)
theorem index_bds (y : List Int) (hy : y.length = 32) (k : Nat) (hk : k < 8) (w : World) :
    (Instr.index 30 (.agg (iCells y)) (.int .i64 k)).run Try.prog w = .ok (.agg (iCells (pto y (k * 4) 4))) w := by
  have c := ext_pto y (k * 4) 4 (by omega)
  have h1 := Try.isAgg29
  have h2 := Try.sizeOf29
  simp [Instr.index, run_underlying Try.underlying30, asIntOf, hk, part, h1, h2, c, go_sem]
/-- Has each band so many pulses? -/
def hs19 (y k : List Int) : Bool := (List.range 8).all fun b => decide ((pu13 (pto y (b * 4) 4) : Int) = k.getD b 0)
theorem pls_ints {w : World} {g : Nat} {t : TypeId} {p : List Int} (hr : Row w g t (iCells p)) (hp : p.length = 4) : IntsAt w (.slice (some ⟨g, 0, none⟩) 4 4) p :=
  ⟨_, 4, by rw [hp], fun _ => ⟨g, 0, rfl, Row.lt hr, fun i hi => by rw [i_at hr (0 + i) (by omega), Nat.zero_add]⟩⟩
set_option maxRecDepth 100000 in
set_option maxHeartbeats 1000000 in
theorem has_any (y k : List Int) (w : World) (hy : y.length = 32) (hk : k.length = 8) :
    Calls Try.prog 35 #[.agg (iCells y), .agg (iCells k)] w fun e w' => e = .returned (.bool (hs19 y k)) ∧ Below w.heap.size w w' := by
  have hz := pls_zero
  have HY := Lib.hid hy
  have HSZ := Lib.hid (bds_size y hy)
  have HR : Hid (Row ((w.alloc (.cells (iCells y) 30)).alloc (.cells (iCells k) 23)) w.heap.size 30 (iCells y)) := Lib.hid (Row.alloc (heap_alloc_new _ _) _)
  have HK : Hid (Row ((w.alloc (.cells (iCells y) 30)).alloc (.cells (iCells k) 23)) (w.heap.size + 1) 23 (iCells k)) := Lib.hid (row_new _ _ (by simp) _ _)
  have HB : Hid (Below w.heap.size w ((w.alloc (.cells (iCells y) 30)).alloc (.cells (iCells k) 23))) := Lib.hid (((Below.refl _ _).alloc (Nat.le_refl _) _).alloc (by simp) _)
  have HNO : Hid (∀ b, b < 8 → ¬ (pu13 (pto y (b * 4) 4) : Int) = k.getD b 0 → hs19 y k = false) := Lib.hid fun b hb h => by
    unfold hs19
    rw [List.all_eq_false]
    exact ⟨b, List.mem_range.2 hb, by simpa using h⟩
  have HYES : Hid ((∀ b, b < 8 → (pu13 (pto y (b * 4) 4) : Int) = k.getD b 0) → hs19 y k = true) := Lib.hid fun h => by
    unfold hs19
    rw [List.all_eq_true]
    exact fun b hb => by simpa using h b (List.mem_range.1 hb)
  have HKL := Lib.hid hk
  generalize hs19 y k = R at *
  clear hy hk
  go_enter Try.func35, Try.ntmps35
  go_upto_region 1 with fail
  generalize (w.alloc (.cells (iCells y) 30)).alloc (.cells (iCells k) 23) = w1 at *
  obtain ⟨n0, hn0⟩ : ∃ n0, w.heap.size = n0 := ⟨_, rfl⟩
  have HN0 := Lib.hid fun _ : Unit => hn0
  rw [hn0] at HR HK HB ⊢
  clear hn0
  go_wp2_with (refine wpList_load_row rfl 30 (.tmp 2) rfl n0 rfl 30 (iCells y) (0, 0) _ HR.out Try.underlying30 rfl HSZ.out ?_)
  clear HR
  go_loopw [8] (fun ii wr => ∃ n : Nat, n ≤ 8 ∧ ii = .int .i64 n ∧ (∀ j, j < n → (pu13 (pto y (j * 4) 4) : Int) = k.getD j 0) ∧ Below n0 w wr ∧ Row wr (n0 + 1) 23 (iCells k)) (fun ii _ => 8 - (intOf ii).toNat)
  case atStart => exact ⟨0, by omega, rfl, fun j hj => by omega, HB.out, HK.out⟩
  case round =>
    clear HB HK
    obtain ⟨n, hn, rfl, hall, hb, hk⟩ := hrel
    have HA := Lib.hid hall
    have HB := Lib.hid hb
    have HK := Lib.hid hk
    clear hall hb hk
    rcases Nat.lt_or_ge n 8 with hlt | hge
    · have hix := index_bds y HY.out n hlt
      have HN := Lib.hid (HNO.out n hlt)
      have c1 := i_at HK.out n (by rw [HKL.out]; exact hlt)
      have HST : Hid ((pu13 (pto y (n * 4) 4) : Int) = k.getD n 0 → ∀ j, j < n + 1 → (pu13 (pto y (j * 4) 4) : Int) = k.getD j 0) := Lib.hid fun h j hj => by
        rcases Nat.lt_or_ge j n with hl | hg
        · exact HA.out j hl
        · obtain rfl : j = n := by omega
          exact h
      have HP4 := Lib.hid (pto_len y (n * 4) 4)
      obtain ⟨p, hp⟩ : ∃ p, pto y (n * 4) 4 = p := ⟨_, rfl⟩
      rw [hp] at hix HN HST HP4
      obtain ⟨x, hx⟩ : ∃ x, k.getD n 0 = x := ⟨_, rfl⟩
      rw [hx] at c1 HN HST
      have HXX := Lib.hid hx
      clear hp hx hn
      obtain ⟨g, hg⟩ : ∃ g, wr.heap.size = g := ⟨_, rfl⟩
      have HPZ := Lib.hid (pls_size p HP4.out)
      have HR : Hid (Row (wr.alloc (.cells (iCells [0, 0, 0, 0]) 29)) g 29 (iCells [0, 0, 0, 0])) := Lib.hid (row_new _ _ hg _ _)
      have HSX : Hid ((iCells [0, 0, 0, 0]).size = (iCells p).size) := Lib.hid (by rw [iCells_size, iCells_size, HP4.out]; rfl)
      have hnI : (n : Int) < 8 := by omega
      go_upto_region 4 with (refine wpList_store_row rfl 29 (.tmp 6) (.tmp 11) rfl g (iCells p) rfl rfl 29 (iCells [0, 0, 0, 0]) HR.out HPZ.out HSX.out (iCells_one _) ?_)
      have HKR := Lib.hid (row_laid HK.out (.cells (iCells [0, 0, 0, 0]) 29) (iCells p))
      have hgs : n0 ≤ wr.heap.size := by have := HB.out.size; rw [HN0.out ()] at this; exact this
      have HBR := Lib.hid (below_setRow (HB.out.alloc hgs (.cells (iCells [0, 0, 0, 0]) 29)) hgs (iCells p))
      have HPR := Lib.hid (Row.setRow HR.out (iCells p))
      rw [hg] at HKR HBR
      clear HK HB HR hg c1 hix hgs
      generalize (wr.alloc (.cells (iCells [0, 0, 0, 0]) 29)).setRow g (iCells p) = w2 at *
      have c1 := i_at HKR.out n (by rw [HKL.out]; exact hlt)
      rw [HXX.out] at c1
      clear HXX
      have hq : ∃ q : Nat, pu13 p = q := ⟨_, rfl⟩
      obtain ⟨q, hq⟩ := hq
      have HPU : Hid (∀ m, Calls Try.prog 48 #[.slice (some ⟨g, 0, none⟩) 4 4] (w2.drewN m) fun e w' => e = .returned (.int .i64 (q : Int)) ∧ w' = w2.drewN m) := Lib.hid fun m => by
        rw [← hq]
        exact pulses_any p _ _ (pls_ints (Row.drewN HPR.out m) HP4.out) (by rw [HP4.out]; unfold maxLen; omega)
      rw [hq] at HN HST
      clear hq HPR
      simp only [Act.put]
      go_big_quiet ((go_at_call 48; exact Calls.quiet_of_same (HPU.out _)))
      by_cases hqx : (q : Int) = x
      · have HST2 := Lib.hid (HST.out hqx)
        subst hqx
        clear HN HST HA
        go_wp2_with fail
        go_roundw
        case rel => exact ⟨n + 1, hlt, by go_num, HST2.out, Below.drewN HBR.out _, Row.drewN HKR.out _⟩
        case measure => simp [intOf] <;> omega
      · have hqb : ((q : Int) != x) = true := by rw [bne_iff_ne]; exact hqx
        have HR2 := Lib.hid (HN.out hqx)
        clear HN HST HA
        go_wp2_with fail
        go_ret
        exact ⟨by rw [HR2.out]; rfl, by rw [HN0.out ()]; exact Below.drewN HBR.out _⟩
    · obtain rfl : n = 8 := by omega
      have HT := Lib.hid (HYES.out HA.out)
      clear hn hge HA
      go_wp2_with fail
      go_ret
      exact ⟨by rw [HT.out]; rfl, by rw [HN0.out ()]; exact HB.out⟩
end Go.Proofs.Ytoohahjmiljpgaa
