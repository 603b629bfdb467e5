/- The walk of hopperlaw03.CodecRow. -/
import Derived.Test.YtedhkfkiopgmbaaCodecLive
import Derived.Test.YtedhkfkiopgmbaaRow0
import Derived.ChangeSlices
import Derived.SliceStrings
import Derived.OpenShut
namespace Go.Proofs.Ytedhkfkiopgmbaa.codecRow
open Go.RowKit Go.ChangeShapes Go.WideShapes codec Sx
set_option linter.unusedVariables false
set_option linter.unusedSimpArgs false

theorem eql_str (x y : Operand) (a b : ByteArray) (w : World) : (do eqGuard .eql 9 x y (.string a) (.string b); pure (Next.value (← binOp .eql 9 (.string a) (.string b))) : Sem Next).run Try.prog w = .ok (.value (.bool (a.toList == b.toList))) w := by
  by_cases q : a.toList = b.toList <;> simp [eqGuard, go_sem, q]
theorem neq_str (x y : Operand) (a b : ByteArray) (w : World) : (do eqGuard .neq 9 x y (.string a) (.string b); pure (Next.value (← binOp .neq 9 (.string a) (.string b))) : Sem Next).run Try.prog w = .ok (.value (.bool (a.toList != b.toList))) w := by
  have e := eql_str x y a b w
  have h : (a.toList != b.toList) = !(a.toList == b.toList) := rfl
  rw [h]
  by_cases q : a.toList = b.toList
  · simp [eqGuard, go_sem, q]
  · simp [eqGuard, go_sem, q, bne]
theorem no_bytes : ({ data := #[] } : ByteArray).toList = [] := by rw [ByteArray.toList_eq]
theorem cat (x y : List UInt8) : (⟨x.toArray⟩ : ByteArray) ++ ⟨y.toArray⟩ = ⟨(x ++ y).toArray⟩ := by
  apply ByteArray.ext
  simp
theorem add_str (x y : List UInt8) (o p : Operand) (h : x.length + y.length ≤ 100000) (w : World) : (do eqGuard .add 9 o p (.string ⟨x.toArray⟩) (.string ⟨y.toArray⟩); pure (Next.value (← binOp .add 9 (.string ⟨x.toArray⟩) (.string ⟨y.toArray⟩))) : Sem Next).run Try.prog w = .ok (.value (.string ⟨(x ++ y).toArray⟩)) w := by
  rw [← cat]
  simp [eqGuard, go_sem]
  omega
def pt (a : Option Addr) (n : Nat) : Option Addr := if n = 0 then none else a
def numsL (l : List Int) : List UInt8 := l.flatMap fun z => numV z
def textsL (l : List ByteArray) : List UInt8 := l.flatMap fun s => textV s.data.toList
theorem numsL_take (l : List Int) (k : Nat) (z : Int) (h : l[k]? = some z) : numsL (l.take (k + 1)) = numsL (l.take k) ++ numV z := by
  rw [List.take_add_one, h]
  simp [numsL]
theorem textsL_take (l : List ByteArray) (k : Nat) (s : ByteArray) (h : l[k]? = some s) : textsL (l.take (k + 1)) = textsL (l.take k) ++ textV s.data.toList := by
  rw [List.take_add_one, h]
  simp [textsL]
theorem drop_at {α : Type} {l : List α} {k : Nat} {z : α} (h : l[k]? = some z) : l.drop k = z :: l.drop (k + 1) := by
  obtain ⟨h1, h2⟩ := List.getElem?_eq_some_iff.1 h
  rw [List.drop_eq_getElem_cons h1, h2]
theorem numV_len (z : Int) (h : z < 9223372036854775808) : (numV z).length ≤ 9 := by
  unfold numV
  split
  · simp
  · rw [num_len]
    have := size_max z.toNat (by omega)
    omega
theorem textV_len (s : List UInt8) (h : s.length ≤ 2000) : (textV s).length ≤ 2002 := by
  unfold textV
  split
  · simp
  · rw [text_len]; omega
theorem numsL_len : ∀ (l : List Int), (∀ z ∈ l, z < 9223372036854775808) → (numsL l).length ≤ 9 * l.length
  | [], _ => by simp [numsL]
  | z :: l, h => by
    have h1 := numsL_len l fun y hy => h y (List.mem_cons_of_mem _ hy)
    have h2 := numV_len z (h z List.mem_cons_self)
    simp only [numsL, List.flatMap_cons, List.length_append, List.length_cons] at h1 ⊢
    omega
theorem textsL_len : ∀ (l : List ByteArray), (∀ s ∈ l, s.size ≤ 2000) → (textsL l).length ≤ 2002 * l.length
  | [], _ => by simp [textsL]
  | s :: l, h => by
    have h1 := textsL_len l fun y hy => h y (List.mem_cons_of_mem _ hy)
    have h2 := textV_len s.data.toList (by have := h s List.mem_cons_self; simpa using this)
    simp only [textsL, List.flatMap_cons, List.length_append, List.length_cons] at h1 ⊢
    omega

set_option maxHeartbeats 2000000 in
set_option maxRecDepth 100000 in
theorem run (ns : List Int) (ts : List ByteArray) (a : Option Addr) (n c : Nat) (b : Option Addr) (m d : Nat) (w : World) (hs1 : Sl a n c) (hn : n = ns.length) (hA : At w (pt a n) (ns.map (Value.int .i64))) (wn : ∀ z ∈ ns, z < 9223372036854775808)
    (hs2 : Sl b m d) (hm : m = ts.length) (hB : At w (pt b m) (ts.map Value.string)) (wt : ∀ s ∈ ts, s.size ≤ maxLen) :
    Calls Try.prog 3 #[.slice a n c, .slice b m d] w fun e w' => e = .returned (.bool true) ∧ Below w.heap.size w w' := by
  have at2 : ∀ φ ∈ [rowF (pt a n) (ns.map (Value.int .i64)), rowF (pt b m) (ts.map Value.string)], ∀ g, φ.g = some g → ∃ o, w.heap[g]? = some o ∧ φ.holds o := by
    intro φ hφ
    simp only [List.mem_cons, List.not_mem_nil, or_false] at hφ
    rcases hφ with rfl | rfl
    · exact hA
    · exact hB
  have ln := numsL_len ns wn
  refine calls_of_exec env_ok Try.func3 rfl [] (by kernel_rfl) [rowF (pt a n) (ns.map (Value.int .i64)), rowF (pt b m) (ts.map Value.string)] at2 ?_
  refine wp_g0 (fun g1 => ?_) (fun g1 => ?_)
  · refine wp_br (fun g2 => ?_) (fun g2 => ?_)
    · refine meet (.bool true) (by kernel_rfl) (fun β ρ w' vs hM' hR => ?_) ?_
      · obtain rfl := Rels.vals_eq (l := []) hR
        exact live_true w'
      exact wp_back fun β ρ w' hM' => ⟨rfl, hM'.below⟩
    · have b1 : ns.length ≤ 20 := by simp at g1; omega
      have b2 : ts.length ≤ 20 := by simp at g2; omega
      refine loop_rule env_ok [] (by kernel_rfl) (fun k : Nat => k ≤ n ∧ ∀ z ∈ ns.take k, 0 ≤ z) (fun k => (⟨[], [], [rowF (pt a n) (ns.map (Value.int .i64)), rowF (pt b m) (ts.map Value.string)]⟩, [.v (.slice a n c), .v (.slice b m d), .any, .any, .v (.bool false), .v (.string ⟨(numsL (ns.take k)).toArray⟩), .v (.int .i64 k), .any, .any, .any, .any, .any, .any, .any, .any, .any, .any, .any, .any, .any, .any, .any, .any, .any, .any, .any, .any, .any, .any, .any, .any, .any, .any, .any, .any, .any, .any, .any, .any, .any, .any, .any, .any, .any, .any, .any, .any, .any, .any, .any, .any, .any, .any, .any, .any, .any, .any, .any, .any, .any, .any, .any, .any, .any, .any, .any, .any, .any, .any, .any, .any, .any, .any, .any, .any, .any, .any, .any, .any, .any, .any, .any, .any, .any, .any, .any, .any, .any, .any, .any, .any, .any, .any, .any, .any, .any, .any, .any, .any, .any, .any, .any, .any, .any, .any, .any, .any, .any, .any, .any, .any, .any, .any, .any, .any, .any, .any, .any, .any])) (fun k => n - k) 0 (by simp) ⟨by repeat' first | exact trivial | refine ⟨.inl rfl, ?_⟩ | refine ⟨.inr rfl, ?_⟩, ⟨by repeat' first | exact trivial | refine ⟨.inl rfl, ?_⟩ | refine ⟨.inr rfl, ?_⟩, by repeat' first | exact trivial | refine ⟨.inl rfl, ?_⟩ | refine ⟨.inr rfl, ?_⟩, fun _ h => h⟩, rfl⟩ ?_
      rintro k ⟨hk, hpos⟩
      refine wp_br (fun h1 => ?_) (fun h1 => ?_)
      · have hlt : k < n := by simp at h1; omega
        have hx : ns[k]? = some ns[k] := List.getElem?_eq_getElem (by omega)
        have hz := wn ns[k] (List.mem_of_getElem? hx)
        generalize ns[k] = z at hx hz
        obtain ⟨ad, rfl⟩ := Option.isSome_iff_exists.1 (hs1.some hlt)
        have hp : pt (some ad) n = some ad := if_neg (by omega)
        have hmem : rowF (some ad) (ns.map (Value.int .i64)) ∈ [rowF (pt (some ad) n) (ns.map (Value.int .i64)), rowF (pt b m) (ts.map Value.string)] := by rw [hp]; exact List.mem_cons_self
        refine wp_must ⟨by omega, by omega, rfl⟩ ?_
        refine readC (xs := ns.map (Value.int .i64)) (j := k) (.int .i64 z) rfl hmem (by rw [List.getElem?_map, hx]; rfl) (by show ad.add (k * 1) = ad.add k; rw [Nat.mul_one]) ?_
        refine wp_br (fun h2 => ?_) (fun h2 => ?_)
        · refine meet (.bool true) (by kernel_rfl) (fun β ρ w' vs hM' hR => ?_) ?_
          · obtain rfl := Rels.vals_eq (l := []) hR
            exact live_true w'
          exact wp_back fun β ρ w' hM' => ⟨rfl, hM'.below⟩
        · have hz0 : 0 ≤ z := by simp at h2; omega
          refine wp_must ⟨by omega, by omega, rfl⟩ ?_
          refine readC (xs := ns.map (Value.int .i64)) (j := k) (.int .i64 z) rfl hmem (by rw [List.getElem?_map, hx]; rfl) (by show ad.add (k * 1) = ad.add k; rw [Nat.mul_one]) ?_
          refine meet (.string ⟨(numV z).toArray⟩) (by kernel_rfl) (fun β ρ w' vs hM' hR => ?_) ?_
          · obtain rfl := Rels.vals_eq (l := [.int .i64 z]) hR
            exact cnumber_any z w' hz
          have lk := numsL_len (ns.take k) fun y hy => wn y (List.mem_of_mem_take hy)
          have lz := numV_len z hz
          have l0 : (ns.take k).length = k := by rw [List.length_take]; omega
          refine wp_prim (.string ⟨(numsL (ns.take k) ++ numV z).toArray⟩) (fun w => by exact add_str _ _ _ _ (by omega) w) ?_
          refine wp_must ⟨by omega, by omega⟩ ?_
          refine wp_end ⟨k + 1, ⟨hlt, fun y hy => by rw [List.take_add_one, hx] at hy; simp at hy; rcases hy with hy | rfl; exact hpos y hy; exact hz0⟩, ⟨by rw [numsL_take ns k z hx]; repeat' first | exact trivial | refine ⟨.inl rfl, ?_⟩ | refine ⟨.inr rfl, ?_⟩, ⟨by repeat' first | exact trivial | refine ⟨.inl rfl, ?_⟩ | refine ⟨.inr rfl, ?_⟩, by repeat' first | exact trivial | refine ⟨.inl rfl, ?_⟩ | refine ⟨.inr rfl, ?_⟩, fun _ h => h⟩, rfl⟩, by show n - (k + 1) < n - k; omega⟩
      · have hkn : k = n := by simp at h1; omega
        rw [hkn, List.take_of_length_le (by omega)] at hpos
        have e1 : ns.take k = ns := List.take_of_length_le (by omega)
        refine loop_rule env_ok [] (by kernel_rfl) (fun k : Nat => k ≤ m ∧ ∀ s ∈ ts.take k, s.size ≤ 2000) (fun k => (⟨[], [], [rowF (pt a n) (ns.map (Value.int .i64)), rowF (pt b m) (ts.map Value.string)]⟩, [.v (.slice a n c), .v (.slice b m d), .any, .any, .v (.bool false), .v (.string ⟨(numsL ns ++ textsL (ts.take k)).toArray⟩), .any, .v (.int .i64 k), .any, .any, .any, .any, .any, .any, .any, .any, .any, .any, .any, .any, .any, .any, .any, .any, .any, .any, .any, .any, .any, .any, .any, .any, .any, .any, .any, .any, .any, .any, .any, .any, .any, .any, .any, .any, .any, .any, .any, .any, .any, .any, .any, .any, .any, .any, .any, .any, .any, .any, .any, .any, .any, .any, .any, .any, .any, .any, .any, .any, .any, .any, .any, .any, .any, .any, .any, .any, .any, .any, .any, .any, .any, .any, .any, .any, .any, .any, .any, .any, .any, .any, .any, .any, .any, .any, .any, .any, .any, .any, .any, .any, .any, .any, .any, .any, .any, .any, .any, .any, .any, .any, .any, .any, .any, .any, .any, .any, .any, .any, .any])) (fun k => m - k) 0 (by simp) ⟨by rw [e1]; rw [show numsL ns ++ textsL (ts.take 0) = numsL ns from by simp [textsL]]; repeat' first | exact trivial | refine ⟨.inl rfl, ?_⟩ | refine ⟨.inr rfl, ?_⟩, ⟨by repeat' first | exact trivial | refine ⟨.inl rfl, ?_⟩ | refine ⟨.inr rfl, ?_⟩, by repeat' first | exact trivial | refine ⟨.inl rfl, ?_⟩ | refine ⟨.inr rfl, ?_⟩, fun _ h => h⟩, rfl⟩ ?_
        clear e1 hkn h1 hk k
        rintro k ⟨hk, hsm⟩
        refine wp_br (fun h1 => ?_) (fun h1 => ?_)
        · have hlt : k < m := by simp at h1; omega
          have hx : ts[k]? = some ts[k] := List.getElem?_eq_getElem (by omega)
          have hz := wt ts[k] (List.mem_of_getElem? hx)
          generalize ts[k] = z at hx hz
          obtain ⟨ad, rfl⟩ := Option.isSome_iff_exists.1 (hs2.some hlt)
          have hp : pt (some ad) m = some ad := if_neg (by omega)
          have hmem : rowF (some ad) (ts.map Value.string) ∈ [rowF (pt a n) (ns.map (Value.int .i64)), rowF (pt (some ad) m) (ts.map Value.string)] := by rw [hp]; exact List.mem_cons_of_mem _ List.mem_cons_self
          refine wp_must ⟨by omega, by omega, rfl⟩ ?_
          refine readC (xs := ts.map Value.string) (j := k) (.string z) rfl hmem (by rw [List.getElem?_map, hx]; rfl) (by show ad.add (k * 1) = ad.add k; rw [Nat.mul_one]) ?_
          refine wp_br (fun h2 => ?_) (fun h2 => ?_)
          · refine meet (.bool true) (by kernel_rfl) (fun β ρ w' vs hM' hR => ?_) ?_
            · obtain rfl := Rels.vals_eq (l := []) hR
              exact live_true w'
            exact wp_back fun β ρ w' hM' => ⟨rfl, hM'.below⟩
          · have hz0 : z.size ≤ 2000 := by simp at h2; omega
            refine wp_must ⟨by omega, by omega, rfl⟩ ?_
            refine readC (xs := ts.map Value.string) (j := k) (.string z) rfl hmem (by rw [List.getElem?_map, hx]; rfl) (by show ad.add (k * 1) = ad.add k; rw [Nat.mul_one]) ?_
            refine meet (.string ⟨(textV z.data.toList).toArray⟩) (by kernel_rfl) (fun β ρ w' vs hM' hR => ?_) ?_
            · obtain rfl := Rels.vals_eq (l := [.string z]) hR
              exact ctext_any z w' hz
            have lk := textsL_len (ts.take k) hsm
            have lz := textV_len z.data.toList (by simpa using hz0)
            have l0 : (ts.take k).length = k := by rw [List.length_take]; omega
            refine wp_prim (.string ⟨(numsL ns ++ textsL (ts.take k) ++ textV z.data.toList).toArray⟩) (fun w => by exact add_str _ _ _ _ (by rw [List.length_append]; omega) w) ?_
            refine wp_must ⟨by omega, by omega⟩ ?_
            refine wp_end ⟨k + 1, ⟨hlt, fun y hy => by rw [List.take_add_one, hx] at hy; simp at hy; rcases hy with hy | rfl; exact hsm y hy; exact hz0⟩, ⟨by rw [textsL_take ts k z hx, ← List.append_assoc]; repeat' first | exact trivial | refine ⟨.inl rfl, ?_⟩ | refine ⟨.inr rfl, ?_⟩, ⟨by repeat' first | exact trivial | refine ⟨.inl rfl, ?_⟩ | refine ⟨.inr rfl, ?_⟩, by repeat' first | exact trivial | refine ⟨.inl rfl, ?_⟩ | refine ⟨.inr rfl, ?_⟩, fun _ h => h⟩, rfl⟩, by show m - (k + 1) < m - k; omega⟩
        · have hkm : k = m := by simp at h1; omega
          rw [hkm, List.take_of_length_le (by omega)] at hsm
          have e2 : ts.take k = ts := List.take_of_length_le (by omega)
          have lt2 := textsL_len ts hsm
          refine loop_rule env_ok [] (by kernel_rfl) (fun k : Nat => k ≤ n) (fun k => (⟨[], [], [rowF (pt a n) (ns.map (Value.int .i64)), rowF (pt b m) (ts.map Value.string)]⟩, [.v (.slice a n c), .v (.slice b m d), .any, .any, .v (.bool false), .v (.string ⟨(numsL (ns.drop k) ++ textsL ts).toArray⟩), .any, .any, .v (.int .i64 k), .any, .any, .any, .any, .any, .any, .any, .any, .any, .any, .any, .any, .any, .any, .any, .any, .any, .any, .any, .any, .any, .any, .any, .any, .any, .any, .any, .any, .any, .any, .any, .any, .any, .any, .any, .any, .any, .any, .any, .any, .any, .any, .any, .any, .any, .any, .any, .any, .any, .any, .any, .any, .any, .any, .any, .any, .any, .any, .any, .any, .any, .any, .any, .any, .any, .any, .any, .any, .any, .any, .any, .any, .any, .any, .any, .any, .any, .any, .any, .any, .any, .any, .any, .any, .any, .any, .any, .any, .any, .any, .any, .any, .any, .any, .any, .any, .any, .any, .any, .any, .any, .any, .any, .any, .any, .any, .any, .any, .any, .any])) (fun k => n - k) 0 (by simp) ⟨by rw [e2]; repeat' first | exact trivial | refine ⟨.inl rfl, ?_⟩ | refine ⟨.inr rfl, ?_⟩, ⟨by repeat' first | exact trivial | refine ⟨.inl rfl, ?_⟩ | refine ⟨.inr rfl, ?_⟩, by repeat' first | exact trivial | refine ⟨.inl rfl, ?_⟩ | refine ⟨.inr rfl, ?_⟩, fun _ h => h⟩, rfl⟩ ?_
          clear e2 hkm h1 hk k
          intro k hk
          refine wp_br (fun h1 => ?_) (fun h1 => ?_)
          · have hlt : k < n := by simp at h1; omega
            have hx : ns[k]? = some ns[k] := List.getElem?_eq_getElem (by omega)
            have hz := wn ns[k] (List.mem_of_getElem? hx)
            generalize ns[k] = z at hx hz
            obtain ⟨ad, rfl⟩ := Option.isSome_iff_exists.1 (hs1.some hlt)
            have hp : pt (some ad) n = some ad := if_neg (by omega)
            have hmem : rowF (some ad) (ns.map (Value.int .i64)) ∈ [rowF (pt (some ad) n) (ns.map (Value.int .i64)), rowF (pt b m) (ts.map Value.string)] := by rw [hp]; exact List.mem_cons_self
            have hz0 : 0 ≤ z := hpos z (List.mem_of_getElem? hx)
            have hd := drop_at hx
            have e3 : numsL (ns.drop k) ++ textsL ts = num z.toNat ++ (numsL (ns.drop (k + 1)) ++ textsL ts) := by rw [hd, ← List.append_assoc]; simp [numsL, numV, show ¬ z < 0 from by omega]
            have l3 := numsL_len (ns.drop k) fun y hy => wn y (List.mem_of_mem_drop hy)
            have l4 : (ns.drop k).length ≤ 20 := by rw [List.length_drop]; omega
            refine wp_must ⟨by omega, by omega, rfl⟩ ?_
            refine readC (xs := ns.map (Value.int .i64)) (j := k) (.int .i64 z) rfl hmem (by rw [List.getElem?_map, hx]; rfl) (by show ad.add (k * 1) = ad.add k; rw [Nat.mul_one]) ?_
            refine meet (.tuple #[.int .i64 z, .string ⟨(numsL (ns.drop (k + 1)) ++ textsL ts).toArray⟩, .bool true]) (by kernel_rfl) (fun β ρ w' vs hM' hR => ?_) ?_
            · obtain rfl := Rels.vals_eq (l := [.string ⟨(numsL (ns.drop k) ++ textsL ts).toArray⟩, .int .i64 z]) hR
              have := ctakenum_any ⟨(numsL (ns.drop k) ++ textsL ts).toArray⟩ z w' (by show (numsL (ns.drop k) ++ textsL ts).length ≤ maxLen; rw [List.length_append]; unfold maxLen; omega)
              simp only [] at this
              rw [e3, takeNum_num _ _ _ (by omega), if_pos (by omega)] at this
              rw [e3]
              simpa [retNum, Int.toNat_of_nonneg hz0] using this
            refine wp_must ⟨by omega, by omega, rfl⟩ ?_
            refine readC (xs := ns.map (Value.int .i64)) (j := k) (.int .i64 z) rfl hmem (by rw [List.getElem?_map, hx]; rfl) (by show ad.add (k * 1) = ad.add k; rw [Nat.mul_one]) ?_
            refine wp_no (by simp) ?_
            refine wp_must ⟨by omega, by omega⟩ ?_
            refine wp_end ⟨k + 1, hlt, ⟨by repeat' first | exact trivial | refine ⟨.inl rfl, ?_⟩ | refine ⟨.inr rfl, ?_⟩, ⟨by repeat' first | exact trivial | refine ⟨.inl rfl, ?_⟩ | refine ⟨.inr rfl, ?_⟩, by repeat' first | exact trivial | refine ⟨.inl rfl, ?_⟩ | refine ⟨.inr rfl, ?_⟩, fun _ h => h⟩, rfl⟩, by show n - (k + 1) < n - k; omega⟩
          · have hkn : k = n := by simp at h1; omega
            have e4 : ns.drop k = [] := List.drop_eq_nil_of_le (by omega)
            refine loop_rule env_ok [] (by kernel_rfl) (fun k : Nat => k ≤ m) (fun k => (⟨[], [], [rowF (pt a n) (ns.map (Value.int .i64)), rowF (pt b m) (ts.map Value.string)]⟩, [.v (.slice a n c), .v (.slice b m d), .any, .any, .v (.bool false), .v (.string ⟨(textsL (ts.drop k)).toArray⟩), .any, .any, .any, .any, .any, .any, .v (.int .i64 k), .any, .any, .any, .any, .any, .any, .any, .any, .any, .any, .any, .any, .any, .any, .any, .any, .any, .any, .any, .any, .any, .any, .any, .any, .any, .any, .any, .any, .any, .any, .any, .any, .any, .any, .any, .any, .any, .any, .any, .any, .any, .any, .any, .any, .any, .any, .any, .any, .any, .any, .any, .any, .any, .any, .any, .any, .any, .any, .any, .any, .any, .any, .any, .any, .any, .any, .any, .any, .any, .any, .any, .any, .any, .any, .any, .any, .any, .any, .any, .any, .any, .any, .any, .any, .any, .any, .any, .any, .any, .any, .any, .any, .any, .any, .any, .any, .any, .any, .any, .any, .any, .any, .any, .any, .any, .any])) (fun k => m - k) 0 (by simp) ⟨by rw [e4]; repeat' first | exact trivial | refine ⟨.inl rfl, ?_⟩ | refine ⟨.inr rfl, ?_⟩, ⟨by repeat' first | exact trivial | refine ⟨.inl rfl, ?_⟩ | refine ⟨.inr rfl, ?_⟩, by repeat' first | exact trivial | refine ⟨.inl rfl, ?_⟩ | refine ⟨.inr rfl, ?_⟩, fun _ h => h⟩, rfl⟩ ?_
            clear e4 hkn h1 hk k
            intro k hk
            refine wp_br (fun h1 => ?_) (fun h1 => ?_)
            · have hlt : k < m := by simp at h1; omega
              have hx : ts[k]? = some ts[k] := List.getElem?_eq_getElem (by omega)
              have hz := wt ts[k] (List.mem_of_getElem? hx)
              generalize ts[k] = z at hx hz
              obtain ⟨ad, rfl⟩ := Option.isSome_iff_exists.1 (hs2.some hlt)
              have hp : pt (some ad) m = some ad := if_neg (by omega)
              have hmem : rowF (some ad) (ts.map Value.string) ∈ [rowF (pt a n) (ns.map (Value.int .i64)), rowF (pt (some ad) m) (ts.map Value.string)] := by rw [hp]; exact List.mem_cons_of_mem _ List.mem_cons_self
              have hz0 : z.size ≤ 2000 := hsm z (List.mem_of_getElem? hx)
              have hzl : z.data.toList.length = z.size := by simp
              have hd := drop_at hx
              have e5 : textsL (ts.drop k) = text z.data.toList ++ textsL (ts.drop (k + 1)) := by rw [hd]; simp only [textsL, List.flatMap_cons, textV]; rw [if_neg (by omega)]
              have l3 := textsL_len (ts.drop k) fun y hy => hsm y (List.mem_of_mem_drop hy)
              have l4 : (ts.drop k).length ≤ 20 := by rw [List.length_drop]; omega
              refine meet (.tuple #[.string z, .string ⟨(textsL (ts.drop (k + 1))).toArray⟩, .bool true]) (by kernel_rfl) (fun β ρ w' vs hM' hR => ?_) ?_
              · obtain rfl := Rels.vals_eq (l := [.string ⟨(textsL (ts.drop k)).toArray⟩, .int .i64 2000]) hR
                have := ctaketext_any ⟨(textsL (ts.drop k)).toArray⟩ 2000 w' (by show (textsL (ts.drop k)).length ≤ maxLen; unfold maxLen; omega)
                simp only [] at this
                rw [e5, takeText_text _ _ _ (by omega), if_pos (by omega)] at this
                rw [e5]
                simpa [retText] using this
              refine wp_must ⟨by omega, by omega, rfl⟩ ?_
              refine readC (xs := ts.map Value.string) (j := k) (.string z) rfl hmem (by rw [List.getElem?_map, hx]; rfl) (by show ad.add (k * 1) = ad.add k; rw [Nat.mul_one]) ?_
              refine wp_prim (.bool false) (fun w => by rw [neq_str]; simp) ?_
              refine wp_must ⟨by omega, by omega⟩ ?_
              refine wp_end ⟨k + 1, hlt, ⟨by repeat' first | exact trivial | refine ⟨.inl rfl, ?_⟩ | refine ⟨.inr rfl, ?_⟩, ⟨by repeat' first | exact trivial | refine ⟨.inl rfl, ?_⟩ | refine ⟨.inr rfl, ?_⟩, by repeat' first | exact trivial | refine ⟨.inl rfl, ?_⟩ | refine ⟨.inr rfl, ?_⟩, fun _ h => h⟩, rfl⟩, by show m - (k + 1) < m - k; omega⟩
            · have hkm : k = m := by simp at h1; omega
              have e6 : ts.drop k = [] := List.drop_eq_nil_of_le (by omega)
              refine wp_prim (.bool true) (fun w => by rw [eql_str, e6, show textsL ([] : List ByteArray) = [] from rfl]; simp) ?_
              refine meet (.bool true) (by kernel_rfl) (fun β ρ w' vs hM' hR => ?_) ?_
              · obtain rfl := Rels.vals_eq (l := []) hR
                exact live_true w'
              exact wp_back fun β ρ w' hM' => ⟨rfl, hM'.below⟩
  · refine meet (.bool true) (by kernel_rfl) (fun β ρ w' vs hM' hR => ?_) ?_
    · obtain rfl := Rels.vals_eq (l := []) hR
      exact live_true w'
    exact wp_back fun β ρ w' hM' => ⟨rfl, hM'.below⟩
abbrev Ints := List Int
abbrev Strs := List ByteArray
def IsInts (w : World) (a : Option Addr) (n c : Nat) (ns : List Int) : Prop := Sl a n c ∧ n = ns.length ∧ At w (pt a n) (ns.map (Value.int .i64)) ∧ ∀ z ∈ ns, z < 9223372036854775808
def IsStrs (w : World) (a : Option Addr) (n c : Nat) (ts : List ByteArray) : Prop := Sl a n c ∧ n = ts.length ∧ At w (pt a n) (ts.map Value.string) ∧ ∀ s ∈ ts, s.size ≤ maxLen
theorem walk (a : Option Addr) (n c : Nat) (ns : List Int) (b : Option Addr) (m d : Nat) (ts : List ByteArray) (w : World) (h1 : IsInts w a n c ns) (h2 : IsStrs w b m d ts) :
    Calls Try.prog 3 #[.slice a n c, .slice b m d] w fun e w' => e = .returned (.bool true) ∧ Below w.heap.size w w' :=
  run ns ts a n c b m d w h1.1 h1.2.1 h1.2.2.1 h1.2.2.2 h2.1 h2.2.1 h2.2.2.1 h2.2.2.2
theorem at_of_cells {W : World} {b off : Nat} {xs : List Value} (h0 : 0 < xs.length) (h : ∀ (i : Nat) (u : Value), xs[i]? = some u → W.cell? ⟨b, off + i, none⟩ = some u) : At W (some ⟨b, off, none⟩) xs := by
  have h1 := h 0 xs[0] (List.getElem?_eq_getElem h0)
  intro g hg
  cases hg
  show ∃ o, W.heap[b]? = some o ∧ _
  cases ho : W.heap[b]? with
  | none => simp [World.cell?, ho] at h1
  | some o =>
    cases o with
    | cells cur e fr =>
      refine ⟨_, rfl, fun ad had => ?_⟩
      cases had
      refine ⟨rfl, cur, e, fr, rfl, fun j u hu => ?_⟩
      have := h j u hu
      simpa [World.cell?, ho] using this
    | _ => simp [World.cell?, ho] at h1
theorem at_pt {W : World} {a : Addr} {n : Nat} {xs : List Value} (hl : xs.length = n) (h : ∀ (i : Nat) (u : Value), xs[i]? = some u → W.cell? (a.add i) = some u) : At W (pt (some a) n) xs := by
  by_cases h0 : n = 0
  · rw [show pt (some a) n = none from if_pos h0]
    intro g hg
    cases hg
  · rw [show pt (some a) n = some a from if_neg h0]
    have hz := h 0 xs[0] (List.getElem?_eq_getElem (by omega))
    obtain ⟨b, off, sp⟩ := a
    have hsp : sp = none := by simpa [Addr.add] using World.cell?_spot hz
    subst hsp
    exact at_of_cells (by omega) fun i u hu => by have := h i u hu; rwa [Sx.add_mk] at this
theorem open_rowi {H : Type} {enc : TypeId × Value → H} {W : World} {r : Reach} {b0 base : Nat} {held : Bool} {v : Value} {d : DataW H} {p : List MemPlace}
    (hv : Value.okWide Try.prog W r b0 22 v) (h : DataW.Trod enc Try.prog W base (fun _ => true) held 22 v d p) : ∃ a n c ns, v = .slice a n c ∧ IsInts W a n c ns := by
  obtain ⟨a, len, cap, rfl⟩ := okWide_slice Try.underlying22 hv
  obtain ⟨fuel, hf⟩ := h
  rcases open_ints Try.underlying22 Try.underlying3 (by kernel_rfl) hf with ⟨hcs, _⟩ | ⟨a', len', cap', zs, hcs, _, hl, hm, hzl, _, hc, hw⟩
  · simp [Value.cells] at hcs
    obtain ⟨rfl, rfl, rfl⟩ := hcs
    exact ⟨_, _, _, [], rfl, ⟨Nat.le_refl _, by simp [maxLen], fun _ => ⟨rfl, rfl⟩⟩, rfl, fun g hg => by (simp [pt, rowF] at hg), by simp⟩
  · simp [Value.cells] at hcs
    obtain ⟨rfl, rfl, rfl⟩ := hcs
    simp only [if_true] at hzl
    have hk : (zs.take len).length = len := by rw [List.length_take]; omega
    refine ⟨_, _, _, zs.take len, rfl, ⟨hl, hm, fun hn => by cases hn⟩, hk.symm, at_pt (by rw [List.length_map, hk]) fun i u hu => ?_, fun z hz => ?_⟩
    · rw [List.getElem?_map] at hu
      cases hi : (zs.take len)[i]? with
      | none => rw [hi] at hu; cases hu
      | some z =>
        rw [hi] at hu
        cases hu
        rw [List.getElem?_take] at hi
        split at hi
        · have hlt : i < zs.length := by omega
          have := hc i hlt
          rw [List.getD_eq_getElem?_getD, hi] at this
          exact this
        · cases hi
    · have := hw z (List.mem_of_mem_take hz)
      simp [Lit.wf] at this
      omega
theorem open_rows {H : Type} {enc : TypeId × Value → H} {W : World} {r : Reach} {b0 base : Nat} {held : Bool} {v : Value} {d : DataW H} {p : List MemPlace}
    (hv : Value.okWide Try.prog W r b0 23 v) (h : DataW.Trod enc Try.prog W base (fun _ => true) held 23 v d p) : ∃ a n c ts, v = .slice a n c ∧ IsStrs W a n c ts := by
  obtain ⟨a, len, cap, rfl⟩ := okWide_slice Try.underlying23 hv
  obtain ⟨fuel, hf⟩ := h
  rcases open_strings Try.underlying23 Try.underlying9 (by kernel_rfl) hf with ⟨hcs, _⟩ | ⟨a', len', cap', zs, hcs, _, hl, hm, hzl, _, hc, hw⟩
  · simp [Value.cells] at hcs
    obtain ⟨rfl, rfl, rfl⟩ := hcs
    exact ⟨_, _, _, [], rfl, ⟨Nat.le_refl _, by simp [maxLen], fun _ => ⟨rfl, rfl⟩⟩, rfl, fun g hg => by (simp [pt, rowF] at hg), by simp⟩
  · simp [Value.cells] at hcs
    obtain ⟨rfl, rfl, rfl⟩ := hcs
    simp only [if_true] at hzl
    have hk : (zs.take len).length = len := by rw [List.length_take]; omega
    refine ⟨_, _, _, zs.take len, rfl, ⟨hl, hm, fun hn => by cases hn⟩, hk.symm, at_pt (by rw [List.length_map, hk]) fun i u hu => ?_, fun z hz => hw z (List.mem_of_mem_take hz)⟩
    rw [List.getElem?_map] at hu
    cases hi : (zs.take len)[i]? with
    | none => rw [hi] at hu; cases hu
    | some z =>
      rw [hi] at hu
      cases hu
      rw [List.getElem?_take] at hi
      split at hi
      · have hlt : i < zs.length := by omega
        have := hc i hlt
        rw [List.getD_eq_getElem?_getD, hi] at this
        exact this
      · cases hi
end Go.Proofs.Ytedhkfkiopgmbaa.codecRow
