/- Layer 15 (look): the document's. -/
import Derived.Test.YtofpmnkkimgkfaaDoorKLkTop
set_option linter.all false
set_option maxHeartbeats 4000000
set_option maxRecDepth 100000
namespace Go.Proofs.YtofpmnkkimgkfaaDoor.look
open Go.RowKit Sx txn queue greedy shard pool
theorem rwrong (er : Int) (w : World) : Calls Tryd.prog 33 (List.toArray [.int .i64 er]) w fun e w' => PAns w w' [] e (failL er) := by
 refine calls_of_exec Sxk.env_ok.keeps.soon_ Tryd.func33 rfl [] (schedQ_ok _ _ (by kernel_rfl)) [] (by simp) ?_
 conv=>arg 5;whnf
 exact wp_back fun β ρ w' hM' => plan_mk ⟨none, 0, none, 0, none, 0⟩ ⟨sl0, sl0, sl0⟩ rfl hM'.below (fun φ hφ g hg => by simp only [Pn.fs, List.mem_cons, List.not_mem_nil, or_false] at hφ; rcases hφ with rfl | rfl | rfl <;> cases hg)
def toR (p q : PA) : Pl := ⟨true, slotsL q.2.2 - slotsL p.2.2, q.1, q.2.1, q.2.2, [], ⟨0, tx0, [], 0⟩⟩
theorem rto (p q : PA) (a0 : Option Addr) (c0 : Nat) (a1 : Option Addr) (c1 : Nat) (w : World) (h0 : Sl a0 p.2.2.length c0) (r0 : At w (pt a0 p.2.2.length) (cellsL p.2.2)) (h1 : Sl a1 q.2.2.length c1) (r1 : At w (pt a1 q.2.2.length) (cellsL q.2.2))
  (hp : p.2.2.length ≤ 1000000) (hq : q.2.2.length ≤ 1000000) (hpd : ∀ t ∈ p.2.2, t.d.size ≤ maxLen) (hqd : ∀ t ∈ q.2.2, t.d.size ≤ maxLen) :
  Calls Tryd.prog 42 (List.toArray [acc p.1 p.2.1 a0 p.2.2.length c0, acc q.1 q.2.1 a1 q.2.2.length c1]) w fun e w' => e = .returned (planV (toR p q) ⟨a1, c1, none, 0, none, 0⟩) ∧ Below w.heap.size w w' := by
 have S0 := fun w hr => rslots_ p.1 p.2.1 p.2.2 a0 p.2.2.length c0 w h0 rfl hr hpd (by omega)
 have S1 := fun w hr => rslots_ q.1 q.2.1 q.2.2 a1 q.2.2.length c1 w h1 rfl hr hqd (by omega)
 have b0 := slotsL_bd p.2.2
 have b1 := slotsL_bd q.2.2
 have e : toR p q = ⟨true, slotsL q.2.2 - slotsL p.2.2, q.1, q.2.1, q.2.2, [], ⟨0, tx0, [], 0⟩⟩ := rfl
 rw [e]
 clear e
 generalize slotsL p.2.2 = s0 at *
 generalize slotsL q.2.2 = s1 at *
 refine calls_of_exec Sxk.env_ok.keeps.soon_ Tryd.func42 rfl [(1, (line [0, 2, 5, 1, 3, 4, 6, 7], [2]))] (schedQ_ok _ _ (by kernel_rfl)) [rowF (pt a0 p.2.2.length) (cellsL p.2.2), rowF (pt a1 q.2.2.length) (cellsL q.2.2)] (fun φ hφ g hg => by simp only [List.mem_cons, List.not_mem_nil, or_false] at hφ; rcases hφ with rfl | rfl; exact r0 g hg; exact r1 g hg) ?_
 conv=>arg 5;whnf
 refine meetc (f := 22) (v := .int .i64 s1) rfl (by kernel_rfl) (fun β ρ w' hM' => S1 w' (hM'.at_ (.tail _ (.head _)))) ?_
 conv=>arg 5;whnf
 refine meetc (f := 22) (v := .int .i64 s0) rfl (by kernel_rfl) (fun β ρ w' hM' => S0 w' (hM'.at_ (.head _))) ?_
 conv=>arg 5;whnf
 refine wp_must ⟨by omega, by omega⟩ ?_
 conv=>arg 5;whnf
 exact wp_back fun β ρ w' hM' => ⟨rfl, hM'.below⟩
theorem rdropL (p : PA) (a : Option Addr) (c : Nat) (v : Int) (w : World) (hs : Sl a p.2.2.length c) (hrow : At w (pt a p.2.2.length) (cellsL p.2.2)) (hl : p.2.2.length ≤ 1000000) (hd : ∀ t ∈ p.2.2, t.d.size ≤ maxLen) :
  Calls Tryd.prog 16 (List.toArray [acc p.1 p.2.1 a p.2.2.length c, .int .i64 v]) w fun e w' => PAns w w' [] e (dropL p v) := by
 have FI := fun w hr => rfind p.1 p.2.1 p.2.2 a p.2.2.length c v w hs rfl hr
 have hdl : (dropV v p.2.2).length ≤ 1000000 := Nat.le_trans (List.length_filter_le ..) hl
 have hdd : ∀ t ∈ dropV v p.2.2, t.d.size ≤ maxLen := fun t ht => hd t (List.mem_filter.1 ht).1
 have DR := fun w hr => queue.rdrop p.1 p.2.1 p.2.2 a p.2.2.length c v w hs rfl hr hl
 have e : dropL p v = if (findV p.2.2 v).2 = true then tellL (toL p (p.1, p.2.1, dropV v p.2.2) ⟨0, (findV p.2.2 v).1, [], 0⟩) 3 [(findV p.2.2 v).1] else failL 7 := rfl
 rw [e]
 clear e
 generalize dropV v p.2.2 = dl at *
 generalize findV p.2.2 v = q at *
 obtain ⟨t, fd⟩ := q
 refine calls_of_exec Sxk.env_ok.keeps.soon_ Tryd.func16 rfl [(4, (.one 0 (.one 1 (.one 2 (.fork 3 (.fork 4 (.one 5 (.one 6 (.done))) 5 (.one 4 (.one 6 (.done)))) 5 (.one 3 (.one 4 (.one 6 (.done))))))), []))] (schedQ_ok _ _ (by kernel_rfl)) [rowF (pt a p.2.2.length) (cellsL p.2.2)] (at1 hrow) ?_
 conv=>arg 5;whnf
 refine meetc (f := 25) (v := .tuple #[t.val, .bool fd]) rfl (by kernel_rfl) (fun β ρ w' hM' => FI w' (hM'.at_ (show rowF (pt a p.2.2.length) (cellsL p.2.2) ∈ _ from (by repeat (first | exact List.Mem.head _ | apply List.Mem.tail))))) ?_
 cases fd with
 | false =>
  rw [if_neg (by simp)]
  conv=>arg 5;whnf
  refine meetPl (f := 33) (failL (7)) [] (by simp) rfl (by kernel_rfl) (fun β ρ w' hM' => rwrong (7) w') (fun x hx hnew => ?_)
  conv=>arg 5;whnf
  exact wp_back fun β ρ w' hM' => ⟨x, hx, rfl, hM'.below, fun φ hφ g hg => ⟨hnew φ hφ g hg, (hM'.fact φ (List.mem_append_left _ hφ) g hg).2⟩⟩
 | true =>
  rw [if_pos rfl]
  conv=>arg 5;whnf
  refine wp_both ?_ ?_
  all_goals
   conv=>arg 5;whnf
   refine meet1F (f := 43) (n := dl.length) (v := fun a1 c1 => acc p.1 p.2.1 a1 dl.length c1) (xs := cellsL dl) rfl (by kernel_rfl) (fun β ρ w' hM' => DR w' (hM'.at_ (show rowF (pt a p.2.2.length) (cellsL p.2.2) ∈ _ from (by repeat (first | exact List.Mem.head _ | apply List.Mem.tail))))) (fun y c_y h_y f_y => ?_)
   conv=>arg 5;whnf
   try refine wp_both ?_ ?_
   all_goals
    conv=>arg 5;whnf
    refine meetc (f := 42) (v := planV (toR p (p.1, p.2.1, dl)) ⟨y, c_y, none, 0, none, 0⟩) rfl (by kernel_rfl) (fun β ρ w' hM' => rto p (p.1, p.2.1, dl) a c y c_y w' hs (hM'.at_ (show rowF (pt a p.2.2.length) (cellsL p.2.2) ∈ _ from (by repeat (first | exact List.Mem.head _ | apply List.Mem.tail)))) h_y (hM'.at_ (show rowF (pt y dl.length) (cellsL dl) ∈ _ from (by repeat (first | exact List.Mem.head _ | apply List.Mem.tail)))) hl hdl hd hdd) ?_
    conv=>arg 5;whnf
    refine wp_share fun z c_z h_z f_z => ?_
    conv=>arg 5;whnf
    exact wp_back fun β ρ w' hM' => plan_mk (p := tellL (toL p (p.1, p.2.1, dl) ⟨0, t, [], 0⟩) 3 [t]) ⟨y, c_y, z, c_z, none, 0⟩ ⟨h_y, h_z, sl0⟩ rfl hM'.below (fun φ hφ g hg => by simp only [Pn.fs, List.mem_cons, List.not_mem_nil, or_false] at hφ; rcases hφ with rfl | rfl | rfl; exact ⟨.inl (f_y g hg), (hM'.fact (_) (by repeat (first | exact List.Mem.head _ | apply List.Mem.tail)) g hg).2⟩; exact ⟨.inl (newO f_z g hg), (hM'.fact (_) (by repeat (first | exact List.Mem.head _ | apply List.Mem.tail)) g hg).2⟩; cases hg)
theorem raddL (C : Cf) (p : PA) (a : Option Addr) (c : Nat) (d : ByteArray) (w : World) (hM : Most w) (hs : Sl a p.2.2.length c) (hrow : At w (pt a p.2.2.length) (cellsL p.2.2)) (hl : p.2.2.length ≤ 1000000) (hd : ∀ t ∈ p.2.2, t.d.size ≤ maxLen) (hdd : d.size ≤ 1000000) :
  Calls Tryd.prog 31 (List.toArray [C.val, acc p.1 p.2.1 a p.2.2.length c, .string d]) w fun e w' => PAns w w' [] e (addL C.per C.bp p d) := by
 have DE := fun w => rdecode_any d w (show d.size ≤ maxLen by unfold maxLen; omega)
 have hdt : ∀ t, dec d.data.toList = some t → t.d.size ≤ maxLen := fun t ht => by have := (dec_some _ _ ht).1; unfold Tx.ok at this; have := of_decide_eq_true this; unfold maxLen; omega
 refine calls_of_exec Sxk.env_ok.keeps.soon_ Tryd.func31 rfl [(8, (.one 0 (.one 1 (.one 2 (.fork 3 (.fork 4 (.one 5 (.one 6 (.done))) 5 (.one 4 (.one 6 (.done)))) 5 (.one 3 (.one 4 (.one 6 (.done))))))), []))] (schedQ_ok _ _ (by kernel_rfl)) [rowF (pt a p.2.2.length) (cellsL p.2.2)] (at1 hrow) ?_
 cases hD : dec d.data.toList with
 | none =>
  have e : addL C.per C.bp p d = failL 2 := by unfold addL; rw [hD]
  rw [e]
  rw [hD] at DE
  conv=>arg 5;whnf
  refine meetc (f := 36) (v := retDec none) rfl (by kernel_rfl) (fun β ρ w' hM' => DE w') ?_
  conv=>arg 5;whnf
  refine meetPl (f := 33) (failL (2)) [] (by simp) rfl (by kernel_rfl) (fun β ρ w' hM' => rwrong (2) w') (fun x hx hnew => ?_)
  conv=>arg 5;whnf
  exact wp_back fun β ρ w' hM' => ⟨x, hx, rfl, hM'.below, fun φ hφ g hg => ⟨hnew φ hφ g hg, (hM'.fact φ (List.mem_append_left _ hφ) g hg).2⟩⟩
 | some t =>
  have e : addL C.per C.bp p d = if (placeV p.1 p.2.1 C.per p.2.2 t C.bp).2 = 0 then tellL (toL p (p.1, p.2.1, putV t p.2.2) ⟨0, tx0, [], 0⟩) (if (findV p.2.2 t.n).2 = true then 2 else 1) [t] else failL (placeV p.1 p.2.1 C.per p.2.2 t C.bp).2 := by unfold addL; rw [hD]
  rw [e]
  clear e
  rw [hD] at DE
  have htd := hdt t hD
  have PL := fun w hM hr => rplace p.1 p.2.1 C.per p.2.2 a p.2.2.length c t C.bp w hM hs rfl hr hd htd
  have hpo := @pool.placeV_ok p.1 p.2.1 C.per p.2.2 t C.bp
  have FI := fun w hr => rfind p.1 p.2.1 p.2.2 a p.2.2.length c t.n w hs rfl hr
  have hpb := putV_bd t p.2.2
  have PU := fun w hr h => queue.rput p.1 p.2.1 p.2.2 a p.2.2.length c t w hs rfl hr h
  generalize placeV p.1 p.2.1 C.per p.2.2 t C.bp = q at *
  obtain ⟨q1, q2⟩ := q
  generalize findV p.2.2 t.n = fq at *
  obtain ⟨ft, fd⟩ := fq
  generalize putV t p.2.2 = pl at *
  conv=>arg 5;whnf
  refine meetc (f := 36) (v := retDec (some t)) rfl (by kernel_rfl) (fun β ρ w' hM' => DE w') ?_
  conv=>arg 5;whnf
  refine meetc (f := 53) (v := .tuple #[.int .i64 q1, .int .i64 q2]) rfl (by kernel_rfl) (fun β ρ w' hM' => PL w' (hM.later hM'.below) (hM'.at_ (show rowF (pt a p.2.2.length) (cellsL p.2.2) ∈ _ from (by repeat (first | exact List.Mem.head _ | apply List.Mem.tail))))) ?_
  conv=>arg 5;whnf
  refine wp_br (fun h1 => ?_) (fun h1 => ?_)
  ·have h2 : ¬ q2 = 0 := fun h => by rw [h] at h1; cases h1
   rw [if_neg h2]
   conv=>arg 5;whnf
   refine meetPl (f := 33) (failL (q2)) [] (by simp) rfl (by kernel_rfl) (fun β ρ w' hM' => rwrong (q2) w') (fun x hx hnew => ?_)
   conv=>arg 5;whnf
   exact wp_back fun β ρ w' hM' => ⟨x, hx, rfl, hM'.below, fun φ hφ g hg => ⟨hnew φ hφ g hg, (hM'.fact φ (List.mem_append_left _ hφ) g hg).2⟩⟩
  have h2 : q2 = 0 := by have : (!(q2 == 0)) = false := h1; simpa using this
  rw [if_pos h2]
  obtain ⟨k1, k2, k3, k4, k5, k6, k7⟩ := hpo h2
  have hpl : p.2.2.length ≤ 1000000 := by
   have k8 := checkV_base k1
   unfold checkV at k1
   simp only [Bool.and_eq_true, inB_iff, decide_eq_true_eq] at k1
   omega
  have hpl9 : p.2.2.length ≤ 100000 := by
   have k8 := checkV_base k1
   unfold checkV at k1
   simp only [Bool.and_eq_true, inB_iff, decide_eq_true_eq] at k1
   omega
  have hpl1 : pl.length ≤ 1000000 := by omega
  have hpld : ∀ x ∈ pl, x.d.size ≤ maxLen := fun x hx => (hpb.2 x hx).elim (hd x) fun h => by rw [h]; exact htd
  conv=>arg 5;whnf
  refine meetc (f := 25) (v := .tuple #[ft.val, .bool fd]) rfl (by kernel_rfl) (fun β ρ w' hM' => FI w' (hM'.at_ (show rowF (pt a p.2.2.length) (cellsL p.2.2) ∈ _ from (by repeat (first | exact List.Mem.head _ | apply List.Mem.tail))))) ?_
  cases fd with
  | false =>
   rw [show (if (ft, false).2 = true then (2 : Int) else 1) = 1 from rfl]
   conv=>arg 5;whnf
   refine wp_both ?_ ?_
   all_goals
    conv=>arg 5;whnf
    refine meet1F (f := 54) (n := pl.length) (v := fun a1 c1 => acc p.1 p.2.1 a1 pl.length c1) (xs := cellsL pl) rfl (by kernel_rfl) (fun β ρ w' hM' => PU w' (hM'.at_ (show rowF (pt a p.2.2.length) (cellsL p.2.2) ∈ _ from (by repeat (first | exact List.Mem.head _ | apply List.Mem.tail)))) hpl) (fun y c_y h_y f_y => ?_)
    conv=>arg 5;whnf
    try refine wp_both ?_ ?_
    all_goals
     conv=>arg 5;whnf
     refine meetc (f := 42) (v := planV (toR p (p.1, p.2.1, pl)) ⟨y, c_y, none, 0, none, 0⟩) rfl (by kernel_rfl) (fun β ρ w' hM' => rto p (p.1, p.2.1, pl) a c y c_y w' hs (hM'.at_ (show rowF (pt a p.2.2.length) (cellsL p.2.2) ∈ _ from (by repeat (first | exact List.Mem.head _ | apply List.Mem.tail)))) h_y (hM'.at_ (show rowF (pt y pl.length) (cellsL pl) ∈ _ from (by repeat (first | exact List.Mem.head _ | apply List.Mem.tail)))) hl hpl1 hd hpld) ?_
     conv=>arg 5;whnf
     refine wp_share fun z c_z h_z f_z => ?_
     conv=>arg 5;whnf
     exact wp_back fun β ρ w' hM' => plan_mk (p := tellL (toL p (p.1, p.2.1, pl) ⟨0, tx0, [], 0⟩) 1 [t]) ⟨y, c_y, z, c_z, none, 0⟩ ⟨h_y, h_z, sl0⟩ rfl hM'.below (fun φ hφ g hg => by simp only [Pn.fs, List.mem_cons, List.not_mem_nil, or_false] at hφ; rcases hφ with rfl | rfl | rfl; exact ⟨.inl (f_y g hg), (hM'.fact (_) (by repeat (first | exact List.Mem.head _ | apply List.Mem.tail)) g hg).2⟩; exact ⟨.inl (newO f_z g hg), (hM'.fact (_) (by repeat (first | exact List.Mem.head _ | apply List.Mem.tail)) g hg).2⟩; cases hg)
  | true =>
   rw [show (if (ft, true).2 = true then (2 : Int) else 1) = 2 from rfl]
   conv=>arg 5;whnf
   refine wp_both ?_ ?_
   all_goals
    conv=>arg 5;whnf
    refine meet1F (f := 54) (n := pl.length) (v := fun a1 c1 => acc p.1 p.2.1 a1 pl.length c1) (xs := cellsL pl) rfl (by kernel_rfl) (fun β ρ w' hM' => PU w' (hM'.at_ (show rowF (pt a p.2.2.length) (cellsL p.2.2) ∈ _ from (by repeat (first | exact List.Mem.head _ | apply List.Mem.tail)))) hpl) (fun y c_y h_y f_y => ?_)
    conv=>arg 5;whnf
    try refine wp_both ?_ ?_
    all_goals
     conv=>arg 5;whnf
     refine meetc (f := 42) (v := planV (toR p (p.1, p.2.1, pl)) ⟨y, c_y, none, 0, none, 0⟩) rfl (by kernel_rfl) (fun β ρ w' hM' => rto p (p.1, p.2.1, pl) a c y c_y w' hs (hM'.at_ (show rowF (pt a p.2.2.length) (cellsL p.2.2) ∈ _ from (by repeat (first | exact List.Mem.head _ | apply List.Mem.tail)))) h_y (hM'.at_ (show rowF (pt y pl.length) (cellsL pl) ∈ _ from (by repeat (first | exact List.Mem.head _ | apply List.Mem.tail)))) hl hpl1 hd hpld) ?_
     conv=>arg 5;whnf
     refine wp_share fun z c_z h_z f_z => ?_
     conv=>arg 5;whnf
     refine wp_share fun z c_z h_z f_z => ?_
     conv=>arg 5;whnf
     exact wp_back fun β ρ w' hM' => plan_mk (p := tellL (toL p (p.1, p.2.1, pl) ⟨0, tx0, [], 0⟩) 2 [t]) ⟨y, c_y, z, c_z, none, 0⟩ ⟨h_y, h_z, sl0⟩ rfl hM'.below (fun φ hφ g hg => by simp only [Pn.fs, List.mem_cons, List.not_mem_nil, or_false] at hφ; rcases hφ with rfl | rfl | rfl; exact ⟨.inl (f_y g hg), (hM'.fact (_) (by repeat (first | exact List.Mem.head _ | apply List.Mem.tail)) g hg).2⟩; exact ⟨.inl (newO f_z g hg), (hM'.fact (_) (by repeat (first | exact List.Mem.head _ | apply List.Mem.tail)) g hg).2⟩; cases hg)
theorem radvanceL (p : PA) (a : Option Addr) (c : Nat) (v : Int) (w : World) (hs : Sl a p.2.2.length c) (hrow : At w (pt a p.2.2.length) (cellsL p.2.2)) (hl : p.2.2.length ≤ 1000000) (hd : ∀ t ∈ p.2.2, t.d.size ≤ maxLen) :
  Calls Tryd.prog 32 (List.toArray [acc p.1 p.2.1 a p.2.2.length c, .int .i64 v]) w fun e w' => PAns w w' [] e (advL p v) := by
 have e : advL p v = if inB p.1 0 255 = true then (if advV p.2.1 v = 0 then tellL (toL p (p.1, v, above v p.2.2) ⟨0, tx0, below v p.2.2, 0⟩) 3 (below v p.2.2) else failL (advV p.2.1 v)) else failL 1 := rfl
 rw [e]
 clear e
 refine calls_of_exec Sxk.env_ok.keeps.soon_ Tryd.func32 rfl [] (schedQ_ok _ _ (by kernel_rfl)) [rowF (pt a p.2.2.length) (cellsL p.2.2)] (at1 hrow) ?_
 conv=>arg 5;whnf
 refine wp_g0 (fun h1 => ?_) (fun h1 => ?_)
 rotate_left
 ·have h2 : p.1 < 0 := of_decide_eq_true h1
  rw [if_neg (fun h => by have := inB_iff.1 h; omega)]
  conv=>arg 5;whnf
  refine meetPl (f := 33) (failL (1)) [] (by simp) rfl (by kernel_rfl) (fun β ρ w' hM' => rwrong (1) w') (fun x hx hnew => ?_)
  conv=>arg 5;whnf
  exact wp_back fun β ρ w' hM' => ⟨x, hx, rfl, hM'.below, fun φ hφ g hg => ⟨hnew φ hφ g hg, (hM'.fact φ (List.mem_append_left _ hφ) g hg).2⟩⟩
 have h2 : ¬ p.1 < 0 := of_decide_eq_false h1
 conv=>arg 5;whnf
 refine wp_br (fun h3 => ?_) (fun h3 => ?_)
 ·have h4 : p.1 > 255 := of_decide_eq_true h3
  rw [if_neg (fun h => by have := inB_iff.1 h; omega)]
  conv=>arg 5;whnf
  refine meetPl (f := 33) (failL (1)) [] (by simp) rfl (by kernel_rfl) (fun β ρ w' hM' => rwrong (1) w') (fun x hx hnew => ?_)
  conv=>arg 5;whnf
  exact wp_back fun β ρ w' hM' => ⟨x, hx, rfl, hM'.below, fun φ hφ g hg => ⟨hnew φ hφ g hg, (hM'.fact φ (List.mem_append_left _ hφ) g hg).2⟩⟩
 have h4 : ¬ p.1 > 255 := of_decide_eq_false h3
 rw [if_pos (inB_iff.2 (by omega))]
 by_cases hav : advV p.2.1 v = 0
 ·rw [if_pos hav]
  have hvb : p.2.1 ≤ v := by
   unfold advV at hav
   split at hav
   ·cases hav
   ·split at hav
    ·cases hav
    ·omega
  have AD := fun w hr => radvance_ok p.1 p.2.1 p.2.2 a p.2.2.length c v w hs rfl hr hl hav
  have hal : (above v p.2.2).length ≤ 1000000 := Nat.le_trans (List.length_filter_le ..) hl
  have had : ∀ t ∈ above v p.2.2, t.d.size ≤ maxLen := fun t ht => hd t (List.mem_filter.1 ht).1
  have hbl : (below v p.2.2).length ≤ 1000000 := Nat.le_trans (List.length_filter_le ..) hl
  generalize above v p.2.2 = al at *
  generalize below v p.2.2 = bl at *
  conv=>arg 5;whnf
  refine meet2F (f := 55) (n := al.length) (n2 := bl.length) (v := fun a1 c1 a2 c2 => .tuple #[acc p.1 v a1 al.length c1, .slice a2 bl.length c2, .int .i64 0]) (xs := cellsL al) (ys := cellsL bl) rfl (by kernel_rfl) (fun β ρ w' hM' => AD w' (hM'.at_ (show rowF (pt a p.2.2.length) (cellsL p.2.2) ∈ _ from (by repeat (first | exact List.Mem.head _ | apply List.Mem.tail))))) (fun y c_y z c_z h_y h_z f_yz => ?_)
  conv=>arg 5;whnf
  refine meetc (f := 42) (v := planV (toR p (p.1, v, al)) ⟨y, c_y, none, 0, none, 0⟩) rfl (by kernel_rfl) (fun β ρ w' hM' => rto p (p.1, v, al) a c y c_y w' hs (hM'.at_ (show rowF (pt a p.2.2.length) (cellsL p.2.2) ∈ _ from (by repeat (first | exact List.Mem.head _ | apply List.Mem.tail)))) h_y (hM'.at_ (show rowF (pt y al.length) (cellsL al) ∈ _ from (by repeat (first | exact List.Mem.head _ | apply List.Mem.tail)))) hl hal hd had) ?_
  conv=>arg 5;whnf
  refine wp_g0 (fun h5 => ?_) (fun h5 => ?_)
  ·have h6 : ¬ v > p.2.1 := of_decide_eq_false h5
   have PE : tellL (toL p (p.1, v, al) ⟨0, tx0, bl, 0⟩) 3 bl = ⟨decide ((bl.length : Int) > 0), slotsL al - slotsL p.2.2, p.1, v, al, evL 3 bl, ⟨0, tx0, bl, 0⟩⟩ := by
    have h7 : chK (!(v == p.2.1)) bl.length = decide ((bl.length : Int) > 0) := by
     have e : v = p.2.1 := by omega
     rw [e, beq_self_eq_true]
     cases bl with
     | nil => rfl
     | cons x l =>
      have h9 : (((x :: l).length : Nat) : Int) > 0 := by rw [List.length_cons]; omega
      rw [decide_eq_true h9]
      rfl
    have h8 : tellL (toL p (p.1, v, al) ⟨0, tx0, bl, 0⟩) 3 bl = ⟨chK (!(v == p.2.1)) bl.length, slotsL al - slotsL p.2.2, p.1, v, al, evL 3 bl, ⟨0, tx0, bl, 0⟩⟩ := rfl
    rw [h8, h7]
   conv=>arg 5;whnf
   refine loop_nil 9 65 8 rfl ?_
   refine loop_rule Sxk.env_ok.keeps.soon_ [] (schedQ_ok _ _ (by kernel_rfl)) (fun k : Nat => k ≤ bl.length) (fun k => (⟨[some ([.v (.int .i64 p.1), .v (.int .i64 p.2.1), .v (.slice a p.2.2.length c)], 26), some ([.v (.bool false), .v (.int .i64 0), .v (.int .i64 0), .v (.int .i64 0), .v (.slice none 0 0), .v (.slice none 0 0), .v (.int .i64 0), .v (.int .i64 0), .v (.int .i64 0), .v (.int .i64 0), .v (.int .i64 0), .v (.int .i64 0), .v (.string ByteArray.empty), .v (.slice none 0 0), .v (.int .i64 0)], 43), some ([.v (.int .i64 p.1), .v (.int .i64 v), .v (.slice y al.length c_y)], 26), some ([.v (.bool (decide ((bl.length : Int) > 0))), .v (.int .i64 (slotsL al - slotsL p.2.2)), .v (.int .i64 p.1), .v (.int .i64 v), .v (.slice y al.length c_y), .v (.slice none 0 0), .v (.int .i64 0), .v (.int .i64 0), .v (.int .i64 0), .v (.int .i64 0), .v (.int .i64 0), .v (.int .i64 0), .v (.string ByteArray.empty), .v (.slice z bl.length c_z), .v (.int .i64 0)], 43)], [some ⟨65, 8, k, cellsE (evL 3 (bl.take k))⟩], [rowF (pt y al.length) (cellsL al), rowF (pt z bl.length) (cellsL bl), rowF (pt a p.2.2.length) (cellsL p.2.2)]⟩, [.any, .v (.int .i64 v), .p 0 0, .any, .p 1 0, .p 2 0, .v (.slice z bl.length c_z), .any, .p 3 0, .r 0, .v (.int .i64 k), .any, .any, .any, .any, .any, .any, .any, .any, .any, .any, .any, .any, .any, .any, .any, .any, .any, .any, .any, .any, .any, .any, .any, .any, .any, .any, .any, .any, .any, .any, .any, .any, .any, .any, .any, .any, .any, .any, .any, .any, .any, .any, .any, .any, .any, .any, .any, .any, .any, .any, .any, .any, .any])) (fun k => bl.length - k) 0 (Nat.zero_le _) ⟨by repeat' first | exact trivial | refine ⟨.inl rfl, ?_⟩ | refine ⟨.inr rfl, ?_⟩, ⟨by repeat' first | exact trivial | refine ⟨.inl rfl, ?_⟩ | refine ⟨.inr rfl, ?_⟩, by repeat' first | exact trivial | refine ⟨.inl rfl, ?_⟩ | refine ⟨.inr rfl, ?_⟩, fun _ h => h⟩, rfl⟩ ?_
   intro k hk
   conv=>arg 5;whnf
   refine wp_br (fun h1 => ?_) (fun h1 => ?_)
   ·have hlt : k < bl.length := by have h3 := of_decide_eq_true (show decide ((k : Int) < (bl.length : Int)) = true from h1); omega
    obtain ⟨t, ht⟩ : ∃ t, bl[k]? = some t := ⟨_, List.getElem?_eq_getElem (by omega)⟩
    have ec : cellsE (evL 3 (bl.take (k + 1))) = cellsE (evL 3 (bl.take k)) ++ evC (3, t) := by rw [evL_take ht, cellsE_snoc]
    conv=>arg 5;whnf
    refine wp_must ⟨by omega, by show (k : Int) < (bl.length : Int); omega, h_z.some hlt⟩ ?_
    conv=>arg 5;whnf
    refine readG Sxk.env_ok (vs := cellsX t) (sz := 6) (k := k) rfl rfl (.tail _ (.head _)) hlt (h_z.some hlt) (cellsL_at ht) rfl ?_
    conv=>arg 5;whnf
    refine wp_must ⟨by show k + 1 ≤ maxLen; unfold maxLen; omega, by show (k + 1) * 72 ≤ 140737488355328; omega⟩ ?_
    conv=>arg 5;whnf
    refine wp_must ⟨by show -9223372036854775808 ≤ (k : Int) + 1; omega, by show (k : Int) + 1 ≤ 9223372036854775807; omega⟩ ?_
    conv=>arg 5;whnf
    refine wp_end ⟨k + 1, hlt, ⟨by repeat' first | exact trivial | refine ⟨.inl rfl, ?_⟩ | refine ⟨.inr rfl, ?_⟩, ⟨by repeat' first | exact trivial | refine ⟨.inl rfl, ?_⟩ | refine ⟨.inr rfl, ?_⟩, by rw [ec]; repeat' first | exact trivial | refine ⟨.inl rfl, ?_⟩ | refine ⟨.inr rfl, ?_⟩, fun _ h => h⟩, rfl⟩, by show bl.length - (k + 1) < bl.length - k; omega⟩
   ·have hkn : k = bl.length := by have h3 := of_decide_eq_false (show decide ((k : Int) < (bl.length : Int)) = false from h1); omega
    have et : bl.take k = bl := List.take_of_length_le (by omega)
    rw [et, hkn]
    conv=>arg 5;whnf
    refine wp_share fun b c_b h_b f_b => ?_
    conv=>arg 5;whnf
    exact wp_back fun β ρ w' hM' => plan_mk (p := tellL (toL p (p.1, v, al) ⟨0, tx0, bl, 0⟩) 3 bl) ⟨y, c_y, b, c_b, z, c_z⟩ ⟨h_y, (by show Sl b (evL 3 bl).length c_b; rw [evL_len]; exact h_b), h_z⟩ (by rw [PE]; unfold planV; rw [show (evL 3 bl).length = bl.length from evL_len 3 bl]; rfl) hM'.below (fun φ hφ g hg => by simp only [Pn.fs, List.mem_cons, List.not_mem_nil, or_false] at hφ; rcases hφ with rfl | rfl | rfl; exact ⟨.inl (f_yz _ (.head _) g hg), (hM'.fact (rowF (pt y al.length) (cellsL al)) (by repeat (first | exact List.Mem.head _ | apply List.Mem.tail)) g hg).2⟩; (have hg := hg; rw [show (tellL (toL p (p.1, v, al) ⟨0, tx0, bl, 0⟩) 3 bl).ev.length = bl.length from evL_len 3 bl] at hg ⊢; have q9 := giveF (xs := cellsE (evL 3 bl)) bl.length hM' (.head _) f_b g hg; exact ⟨.inl q9.1, q9.2⟩); exact ⟨.inl (f_yz _ (.tail _ (.head _)) g hg), (hM'.fact (rowF (pt z bl.length) (cellsL bl)) (by repeat (first | exact List.Mem.head _ | apply List.Mem.tail)) g hg).2⟩)
  ·have h6 : v > p.2.1 := of_decide_eq_true h5
   have PE : tellL (toL p (p.1, v, al) ⟨0, tx0, bl, 0⟩) 3 bl = ⟨true, slotsL al - slotsL p.2.2, p.1, v, al, evL 3 bl, ⟨0, tx0, bl, 0⟩⟩ := by
    have h7 : chK (!(v == p.2.1)) bl.length = true := by
     have e : (v == p.2.1) = false := by simp only [beq_eq_false_iff_ne, ne_eq]; omega
     rw [e]
     cases bl <;> rfl
    have h8 : tellL (toL p (p.1, v, al) ⟨0, tx0, bl, 0⟩) 3 bl = ⟨chK (!(v == p.2.1)) bl.length, slotsL al - slotsL p.2.2, p.1, v, al, evL 3 bl, ⟨0, tx0, bl, 0⟩⟩ := rfl
    rw [h8, h7]
   conv=>arg 5;whnf
   refine loop_nil 9 65 8 rfl ?_
   refine loop_rule Sxk.env_ok.keeps.soon_ [] (schedQ_ok _ _ (by kernel_rfl)) (fun k : Nat => k ≤ bl.length) (fun k => (⟨[some ([.v (.int .i64 p.1), .v (.int .i64 p.2.1), .v (.slice a p.2.2.length c)], 26), some ([.v (.bool false), .v (.int .i64 0), .v (.int .i64 0), .v (.int .i64 0), .v (.slice none 0 0), .v (.slice none 0 0), .v (.int .i64 0), .v (.int .i64 0), .v (.int .i64 0), .v (.int .i64 0), .v (.int .i64 0), .v (.int .i64 0), .v (.string ByteArray.empty), .v (.slice none 0 0), .v (.int .i64 0)], 43), some ([.v (.int .i64 p.1), .v (.int .i64 v), .v (.slice y al.length c_y)], 26), some ([.v (.bool true), .v (.int .i64 (slotsL al - slotsL p.2.2)), .v (.int .i64 p.1), .v (.int .i64 v), .v (.slice y al.length c_y), .v (.slice none 0 0), .v (.int .i64 0), .v (.int .i64 0), .v (.int .i64 0), .v (.int .i64 0), .v (.int .i64 0), .v (.int .i64 0), .v (.string ByteArray.empty), .v (.slice z bl.length c_z), .v (.int .i64 0)], 43)], [some ⟨65, 8, k, cellsE (evL 3 (bl.take k))⟩], [rowF (pt y al.length) (cellsL al), rowF (pt z bl.length) (cellsL bl), rowF (pt a p.2.2.length) (cellsL p.2.2)]⟩, [.any, .v (.int .i64 v), .p 0 0, .any, .p 1 0, .p 2 0, .v (.slice z bl.length c_z), .any, .p 3 0, .r 0, .v (.int .i64 k), .any, .any, .any, .any, .any, .any, .any, .any, .any, .any, .any, .any, .any, .any, .any, .any, .any, .any, .any, .any, .any, .any, .any, .any, .any, .any, .any, .any, .any, .any, .any, .any, .any, .any, .any, .any, .any, .any, .any, .any, .any, .any, .any, .any, .any, .any, .any, .any, .any, .any, .any, .any, .any])) (fun k => bl.length - k) 0 (Nat.zero_le _) ⟨by repeat' first | exact trivial | refine ⟨.inl rfl, ?_⟩ | refine ⟨.inr rfl, ?_⟩, ⟨by repeat' first | exact trivial | refine ⟨.inl rfl, ?_⟩ | refine ⟨.inr rfl, ?_⟩, by repeat' first | exact trivial | refine ⟨.inl rfl, ?_⟩ | refine ⟨.inr rfl, ?_⟩, fun _ h => h⟩, rfl⟩ ?_
   intro k hk
   conv=>arg 5;whnf
   refine wp_br (fun h1 => ?_) (fun h1 => ?_)
   ·have hlt : k < bl.length := by have h3 := of_decide_eq_true (show decide ((k : Int) < (bl.length : Int)) = true from h1); omega
    obtain ⟨t, ht⟩ : ∃ t, bl[k]? = some t := ⟨_, List.getElem?_eq_getElem (by omega)⟩
    have ec : cellsE (evL 3 (bl.take (k + 1))) = cellsE (evL 3 (bl.take k)) ++ evC (3, t) := by rw [evL_take ht, cellsE_snoc]
    conv=>arg 5;whnf
    refine wp_must ⟨by omega, by show (k : Int) < (bl.length : Int); omega, h_z.some hlt⟩ ?_
    conv=>arg 5;whnf
    refine readG Sxk.env_ok (vs := cellsX t) (sz := 6) (k := k) rfl rfl (.tail _ (.head _)) hlt (h_z.some hlt) (cellsL_at ht) rfl ?_
    conv=>arg 5;whnf
    refine wp_must ⟨by show k + 1 ≤ maxLen; unfold maxLen; omega, by show (k + 1) * 72 ≤ 140737488355328; omega⟩ ?_
    conv=>arg 5;whnf
    refine wp_must ⟨by show -9223372036854775808 ≤ (k : Int) + 1; omega, by show (k : Int) + 1 ≤ 9223372036854775807; omega⟩ ?_
    conv=>arg 5;whnf
    refine wp_end ⟨k + 1, hlt, ⟨by repeat' first | exact trivial | refine ⟨.inl rfl, ?_⟩ | refine ⟨.inr rfl, ?_⟩, ⟨by repeat' first | exact trivial | refine ⟨.inl rfl, ?_⟩ | refine ⟨.inr rfl, ?_⟩, by rw [ec]; repeat' first | exact trivial | refine ⟨.inl rfl, ?_⟩ | refine ⟨.inr rfl, ?_⟩, fun _ h => h⟩, rfl⟩, by show bl.length - (k + 1) < bl.length - k; omega⟩
   ·have hkn : k = bl.length := by have h3 := of_decide_eq_false (show decide ((k : Int) < (bl.length : Int)) = false from h1); omega
    have et : bl.take k = bl := List.take_of_length_le (by omega)
    rw [et, hkn]
    conv=>arg 5;whnf
    refine wp_share fun b c_b h_b f_b => ?_
    conv=>arg 5;whnf
    exact wp_back fun β ρ w' hM' => plan_mk (p := tellL (toL p (p.1, v, al) ⟨0, tx0, bl, 0⟩) 3 bl) ⟨y, c_y, b, c_b, z, c_z⟩ ⟨h_y, (by show Sl b (evL 3 bl).length c_b; rw [evL_len]; exact h_b), h_z⟩ (by rw [PE]; unfold planV; rw [show (evL 3 bl).length = bl.length from evL_len 3 bl]; rfl) hM'.below (fun φ hφ g hg => by simp only [Pn.fs, List.mem_cons, List.not_mem_nil, or_false] at hφ; rcases hφ with rfl | rfl | rfl; exact ⟨.inl (f_yz _ (.head _) g hg), (hM'.fact (rowF (pt y al.length) (cellsL al)) (by repeat (first | exact List.Mem.head _ | apply List.Mem.tail)) g hg).2⟩; (have hg := hg; rw [show (tellL (toL p (p.1, v, al) ⟨0, tx0, bl, 0⟩) 3 bl).ev.length = bl.length from evL_len 3 bl] at hg ⊢; have q9 := giveF (xs := cellsE (evL 3 bl)) bl.length hM' (.head _) f_b g hg; exact ⟨.inl q9.1, q9.2⟩); exact ⟨.inl (f_yz _ (.tail _ (.head _)) g hg), (hM'.fact (rowF (pt z bl.length) (cellsL bl)) (by repeat (first | exact List.Mem.head _ | apply List.Mem.tail)) g hg).2⟩)
 ·rw [if_neg hav]
  have AD := fun w => radvance_no p.1 p.2.1 a p.2.2.length c v w hav
  generalize advV p.2.1 v = av at *
  conv=>arg 5;whnf
  refine meetc (f := 55) (v := .tuple #[acc p.1 p.2.1 a p.2.2.length c, .slice none 0 0, .int .i64 av]) rfl (by kernel_rfl) (fun β ρ w' hM' => AD w') ?_
  conv=>arg 5;whnf
  refine wp_br (fun h5 => ?_) (fun h5 => ?_)
  ·(conv => arg 5; whnf)
   refine meetPl (f := 33) (failL (av)) [] (by simp) rfl (by kernel_rfl) (fun β ρ w' hM' => rwrong (av) w') (fun x hx hnew => ?_)
   conv=>arg 5;whnf
   exact wp_back fun β ρ w' hM' => ⟨x, hx, rfl, hM'.below, fun φ hφ g hg => ⟨hnew φ hφ g hg, (hM'.fact φ (List.mem_append_left _ hφ) g hg).2⟩⟩
  ·have h6 : (!(av == 0)) = false := h5
   exact absurd (by simpa using h6) hav
theorem rlook (C : Cf) (p : PA) (a : Option Addr) (c : Nat) (O : Oq) (w : World) (hM : Most w) (hs : Sl a p.2.2.length c) (hrow : At w (pt a p.2.2.length) (cellsL p.2.2)) (hl : p.2.2.length ≤ 1000000) (hd : ∀ t ∈ p.2.2, t.d.size ≤ maxLen) (hO : O.d.size ≤ 1000000) :
  Calls Tryd.prog 10 (List.toArray [C.val, acc p.1 p.2.1 a p.2.2.length c, O.val]) w fun e w' => PAns w w' [] e (lookL C.per C.bp p O) := by
 refine calls_of_exec Sxk.env_ok.keeps.soon_ Tryd.func10 rfl [] (schedQ_ok _ _ (by kernel_rfl)) [rowF (pt a p.2.2.length) (cellsL p.2.2)] (at1 hrow) ?_
 conv=>arg 5;whnf
 refine wp_br (fun h0 => ?_) (fun h0 => ?_)
 ·have k0 : O.k = 0 := by have : (O.k == 0) = true := h0; simpa using this
  have e : lookL C.per C.bp p O = addL C.per C.bp p O.d := by unfold lookL; rw [if_pos k0]
  rw [e]
  conv=>arg 5;whnf
  refine meetPl (f := 31) (addL C.per C.bp p O.d) [] (by simp) rfl (by kernel_rfl) (fun β ρ w' hM' => raddL C p a c O.d w' (hM.later hM'.below) hs (hM'.at_ (show rowF (pt a p.2.2.length) (cellsL p.2.2) ∈ _ from (by repeat (first | exact List.Mem.head _ | apply List.Mem.tail)))) hl hd hO) (fun x hx hnew => ?_)
  conv=>arg 5;whnf
  exact wp_back fun β ρ w' hM' => ⟨x, hx, rfl, hM'.below, fun φ hφ g hg => ⟨hnew φ hφ g hg, (hM'.fact φ (List.mem_append_left _ hφ) g hg).2⟩⟩
 have k0 : ¬ O.k = 0 := by have : (O.k == 0) = false := h0; simpa using this
 conv=>arg 5;whnf
 refine wp_br (fun h1 => ?_) (fun h1 => ?_)
 ·have k1 : O.k = 1 := by have : (O.k == 1) = true := h1; simpa using this
  have e : lookL C.per C.bp p O = dropL p O.v := by unfold lookL; rw [if_neg k0]; rw [if_pos k1]
  rw [e]
  conv=>arg 5;whnf
  refine meetPl (f := 16) (dropL p O.v) [] (by simp) rfl (by kernel_rfl) (fun β ρ w' hM' => rdropL p a c O.v w' hs (hM'.at_ (show rowF (pt a p.2.2.length) (cellsL p.2.2) ∈ _ from (by repeat (first | exact List.Mem.head _ | apply List.Mem.tail)))) hl hd) (fun x hx hnew => ?_)
  conv=>arg 5;whnf
  exact wp_back fun β ρ w' hM' => ⟨x, hx, rfl, hM'.below, fun φ hφ g hg => ⟨hnew φ hφ g hg, (hM'.fact φ (List.mem_append_left _ hφ) g hg).2⟩⟩
 have k1 : ¬ O.k = 1 := by have : (O.k == 1) = false := h1; simpa using this
 conv=>arg 5;whnf
 refine wp_br (fun h2 => ?_) (fun h2 => ?_)
 ·have k2 : O.k = 2 := by have : (O.k == 2) = true := h2; simpa using this
  have e : lookL C.per C.bp p O = advL p O.v := by unfold lookL; rw [if_neg k0]; rw [if_neg k1]; rw [if_pos k2]
  rw [e]
  conv=>arg 5;whnf
  refine meetPl (f := 32) (advL p O.v) [] (by simp) rfl (by kernel_rfl) (fun β ρ w' hM' => radvanceL p a c O.v w' hs (hM'.at_ (show rowF (pt a p.2.2.length) (cellsL p.2.2) ∈ _ from (by repeat (first | exact List.Mem.head _ | apply List.Mem.tail)))) hl hd) (fun x hx hnew => ?_)
  conv=>arg 5;whnf
  exact wp_back fun β ρ w' hM' => ⟨x, hx, rfl, hM'.below, fun φ hφ g hg => ⟨hnew φ hφ g hg, (hM'.fact φ (List.mem_append_left _ hφ) g hg).2⟩⟩
 have k2 : ¬ O.k = 2 := by have : (O.k == 2) = false := h2; simpa using this
 conv=>arg 5;whnf
 refine wp_br (fun h3 => ?_) (fun h3 => ?_)
 ·have k3 : O.k = 3 := by have : (O.k == 3) = true := h3; simpa using this
  have e : lookL C.per C.bp p O = if (findV p.2.2 O.v).2 = true then ⟨false, 0, 0, 0, [], [], ⟨0, (findV p.2.2 O.v).1, [], 0⟩⟩ else failL 7 := by unfold lookL; rw [if_neg k0]; rw [if_neg k1]; rw [if_neg k2]; rw [if_pos k3]; rfl
  rw [e]
  clear e
  have FI := fun w hr => rfind p.1 p.2.1 p.2.2 a p.2.2.length c O.v w hs rfl hr
  generalize findV p.2.2 O.v = q at *
  obtain ⟨t, fd⟩ := q
  conv=>arg 5;whnf
  refine meetc (f := 25) (v := .tuple #[t.val, .bool fd]) rfl (by kernel_rfl) (fun β ρ w' hM' => FI w' (hM'.at_ (show rowF (pt a p.2.2.length) (cellsL p.2.2) ∈ _ from (by repeat (first | exact List.Mem.head _ | apply List.Mem.tail))))) ?_
  cases fd with
  | false =>
   rw [if_neg (by simp)]
   conv=>arg 5;whnf
   refine meetPl (f := 33) (failL (7)) [] (by simp) rfl (by kernel_rfl) (fun β ρ w' hM' => rwrong (7) w') (fun x hx hnew => ?_)
   conv=>arg 5;whnf
   exact wp_back fun β ρ w' hM' => ⟨x, hx, rfl, hM'.below, fun φ hφ g hg => ⟨hnew φ hφ g hg, (hM'.fact φ (List.mem_append_left _ hφ) g hg).2⟩⟩
  | true =>
   rw [if_pos rfl]
   conv=>arg 5;whnf
   exact wp_back fun β ρ w' hM' => plan_mk ⟨none, 0, none, 0, none, 0⟩ ⟨sl0, sl0, sl0⟩ rfl hM'.below (fun φ hφ g hg => by simp only [Pn.fs, List.mem_cons, List.not_mem_nil, or_false] at hφ; rcases hφ with rfl | rfl | rfl <;> cases hg)
 have k3 : ¬ O.k = 3 := by have : (O.k == 3) = false := h3; simpa using this
 have e : lookL C.per C.bp p O = failL 1 := by unfold lookL; rw [if_neg k0, if_neg k1, if_neg k2, if_neg k3]
 rw [e]
 conv=>arg 5;whnf
 refine meetPl (f := 33) (failL (1)) [] (by simp) rfl (by kernel_rfl) (fun β ρ w' hM' => rwrong (1) w') (fun x hx hnew => ?_)
 conv=>arg 5;whnf
 exact wp_back fun β ρ w' hM' => ⟨x, hx, rfl, hM'.below, fun φ hφ g hg => ⟨hnew φ hφ g hg, (hM'.fact φ (List.mem_append_left _ hφ) g hg).2⟩⟩
theorem rfull (p : Pl) (x : Pn) (w : World) (hrow : At w (pt x.ta p.r.l.length) (cellsL p.r.l)) (hs : Sl x.ta p.r.l.length x.tc) :
  Calls Tryd.prog 19 (List.toArray [planV p x]) w fun e w' => ∃ i : One, Sl i.1 (fullL p).l.length i.2 ∧ Lay w w' [rowF (pt x.ta p.r.l.length) (cellsL p.r.l)] e (resV (fullL p) i.1 i.2) [rowF (pt i.1 (fullL p).l.length) (cellsL (fullL p).l)] := by
 refine calls_of_exec Sxk.env_ok.keeps.soon_ Tryd.func19 rfl [] (schedQ_ok _ _ (by kernel_rfl)) [rowF (pt x.ta p.r.l.length) (cellsL p.r.l)] (at1 hrow) ?_
 conv=>arg 5;whnf
 refine wp_g1 (fun h1 => ?_) (fun h1 => ?_)
 ·skip
  conv=>arg 5;whnf
  refine wp_br (fun h2 => ?_) (fun h2 => ?_)
  ·have e : fullL p = ⟨6, tx0, [], 0⟩ := if_pos ⟨h1, of_decide_eq_true h2⟩
   rw [e]
   conv=>arg 5;whnf
   refine wp_back fun β ρ w' hM' => ⟨(none, 0), sl0, rfl, hM'.below, fun φ hφ g hg => ?_⟩
   simp only [List.mem_singleton] at hφ
   subst hφ
   cases hg
  ·have e : fullL p = p.r := if_neg (fun h => by have h3 : ¬ (p.dl > 0) := of_decide_eq_false h2; exact h3 h.2)
   rw [e]
   conv=>arg 5;whnf
   refine wp_back fun β ρ w' hM' => ⟨(x.ta, x.tc), hs, rfl, hM'.below, fun φ hφ g hg => ?_⟩
   simp only [List.mem_singleton] at hφ
   subst hφ
   exact ⟨.inr ⟨_, .head _, hg⟩, (hM'.fact _ (.head _) g hg).2⟩
 ·have e : fullL p = p.r := if_neg (fun h => by rw [h.1] at h1; cases h1)
  rw [e]
  conv=>arg 5;whnf
  refine wp_back fun β ρ w' hM' => ⟨(x.ta, x.tc), hs, rfl, hM'.below, fun φ hφ g hg => ?_⟩
  simp only [List.mem_singleton] at hφ
  subst hφ
  exact ⟨.inr ⟨_, .head _, hg⟩, (hM'.fact _ (.head _) g hg).2⟩
theorem rwhose (O : Oq) (w : World) (hO : O.d.size ≤ 1000000) :
  Calls Tryd.prog 12 (List.toArray [O.val]) w fun e w' => e = .returned (.tuple #[.int .i64 (whoL O).1, .bool (whoL O).2]) ∧ Below w.heap.size w w' := by
 have DE := fun w => rdecode_any O.d w (show O.d.size ≤ maxLen by unfold maxLen; omega)
 refine calls_of_exec Sxk.env_ok.keeps.soon_ Tryd.func12 rfl [] (schedQ_ok _ _ (by kernel_rfl)) [] (by simp) ?_
 conv=>arg 5;whnf
 refine wp_br (fun h0 => ?_) (fun h0 => ?_)
 ·have k0 : O.k = 0 := by have : (O.k == 0) = true := h0; simpa using this
  cases hD : dec O.d.data.toList with
  | none =>
   have e : whoL O = (0, false) := by unfold whoL; rw [if_pos k0, hD]
   rw [e]
   rw [hD] at DE
   conv=>arg 5;whnf
   refine meetc (f := 36) (v := retDec none) rfl (by kernel_rfl) (fun β ρ w' hM' => DE w') ?_
   conv=>arg 5;whnf
   exact wp_back fun β ρ w' hM' => ⟨rfl, hM'.below⟩
  | some t =>
   have e : whoL O = (t.s, true) := by unfold whoL; rw [if_pos k0, hD]
   rw [e]
   rw [hD] at DE
   conv=>arg 5;whnf
   refine meetc (f := 36) (v := retDec (some t)) rfl (by kernel_rfl) (fun β ρ w' hM' => DE w') ?_
   conv=>arg 5;whnf
   exact wp_back fun β ρ w' hM' => ⟨rfl, hM'.below⟩
 have k0 : ¬ O.k = 0 := by have : (O.k == 0) = false := h0; simpa using this
 have e : whoL O = if (O.k = 1 ∨ O.k = 2 ∨ O.k = 3) ∧ 0 ≤ O.s ∧ O.s ≤ 255 then (O.s, true) else (0, false) := by unfold whoL; rw [if_neg k0]
 rw [e]
 clear e
 conv=>arg 5;whnf
 refine wp_g0 (fun g0 => ?_) (fun g0 => ?_)
 rotate_left
 ·have : O.k < 1 := of_decide_eq_true g0
  rw [if_neg (fun h => by omega)]
  conv=>arg 5;whnf
  exact wp_back fun β ρ w' hM' => ⟨rfl, hM'.below⟩
 have q0 : ¬ O.k < 1 := of_decide_eq_false g0
 conv=>arg 5;whnf
 refine wp_g0 (fun g1 => ?_) (fun g1 => ?_)
 rotate_left
 ·have : 3 < O.k := of_decide_eq_true g1
  rw [if_neg (fun h => by omega)]
  conv=>arg 5;whnf
  exact wp_back fun β ρ w' hM' => ⟨rfl, hM'.below⟩
 have q1 : ¬ 3 < O.k := of_decide_eq_false g1
 conv=>arg 5;whnf
 refine wp_g0 (fun g2 => ?_) (fun g2 => ?_)
 rotate_left
 ·have : O.s < 0 := of_decide_eq_true g2
  rw [if_neg (fun h => by omega)]
  conv=>arg 5;whnf
  exact wp_back fun β ρ w' hM' => ⟨rfl, hM'.below⟩
 have q2 : ¬ O.s < 0 := of_decide_eq_false g2
 conv=>arg 5;whnf
 refine wp_br (fun g3 => ?_) (fun g3 => ?_)
 ·have : 255 < O.s := of_decide_eq_true g3
  rw [if_neg (fun h => by omega)]
  conv=>arg 5;whnf
  exact wp_back fun β ρ w' hM' => ⟨rfl, hM'.below⟩
 have q3 : ¬ 255 < O.s := of_decide_eq_false g3
 rw [if_pos (by omega)]
 conv=>arg 5;whnf
 exact wp_back fun β ρ w' hM' => ⟨rfl, hM'.below⟩
theorem told (p : Pl) (x : Pn) (w : World) : Calls Tryd.prog 14 (List.toArray [planV p x]) w fun e w' => e = .returned (planV p x) ∧ Below w.heap.size w w' := by
 refine calls_of_exec Sxk.env_ok.keeps.soon_ Tryd.func14 rfl [] (schedQ_ok _ _ (by kernel_rfl)) [] (by simp) ?_
 conv=>arg 5;whnf
 exact wp_back fun β ρ w' hM' => ⟨rfl, hM'.below⟩
theorem rsameP (p : Pl) (x y : Pn) (w : World) (hx : x.ok p) (hy : y.ok p) (h1 : ∀ φ ∈ x.fs p, ∀ g, φ.g = some g → ∃ o, w.heap[g]? = some o ∧ φ.holds o) (h2 : ∀ φ ∈ y.fs p, ∀ g, φ.g = some g → ∃ o, w.heap[g]? = some o ∧ φ.holds o) :
  Calls Tryd.prog 13 (List.toArray [planV p x, planV p y]) w fun e w' => e = .returned (.bool true) ∧ Below w.heap.size w w' := by
 refine calls_of_exec Sxk.env_ok.keeps.soon_ Tryd.func13 rfl [] (schedQ_ok _ _ (by kernel_rfl)) (x.fs p ++ y.fs p) (fun φ hφ g hg => (List.mem_append.1 hφ).elim (fun h => h1 φ h g hg) (fun h => h2 φ h g hg)) ?_
 conv=>arg 5;whnf
 refine wp_prim (.bool true) (fun w => by cases p.ch <;> rfl) ?_
 conv=>arg 5;whnf
 refine wp_g1 (fun _ => ?_) (fun h => by simp at h)
 conv=>arg 5;whnf
 refine meetc (f := 21) (v := .bool true) rfl (by kernel_rfl) (fun β ρ w' hM' => rsame p.s p.b p.l x.a p.l.length x.c y.a y.c w' hx.1 rfl (hM'.at_ (show rowF (pt x.a p.l.length) (cellsL p.l) ∈ x.fs p ++ y.fs p from List.mem_append_left _ (.head _))) hy.1 (hM'.at_ (show rowF (pt y.a p.l.length) (cellsL p.l) ∈ x.fs p ++ y.fs p from List.mem_append_right _ (.head _)))) ?_
 conv=>arg 5;whnf
 refine meetc (f := 37) (v := .bool true) rfl (by kernel_rfl) (fun β ρ w' hM' => revents p.ev x.ea x.ec y.ea y.ec w' hx.2.1 (hM'.at_ (show rowF (pt x.ea p.ev.length) (cellsE p.ev) ∈ x.fs p ++ y.fs p from List.mem_append_left _ (.tail _ (.head _)))) hy.2.1 (hM'.at_ (show rowF (pt y.ea p.ev.length) (cellsE p.ev) ∈ x.fs p ++ y.fs p from List.mem_append_right _ (.tail _ (.head _))))) ?_
 conv=>arg 5;whnf
 refine meetc (f := 17) (v := .bool true) rfl (by kernel_rfl) (fun β ρ w' hM' => rsameR p.r x.ta x.tc y.ta y.tc w' hx.2.2 (hM'.at_ (show rowF (pt x.ta p.r.l.length) (cellsL p.r.l) ∈ x.fs p ++ y.fs p from List.mem_append_left _ (.tail _ (.tail _ (.head _))))) hy.2.2 (hM'.at_ (show rowF (pt y.ta p.r.l.length) (cellsL p.r.l) ∈ x.fs p ++ y.fs p from List.mem_append_right _ (.tail _ (.tail _ (.head _)))))) ?_
 conv=>arg 5;whnf
 exact wp_back fun β ρ w' hM' => ⟨rfl, hM'.below⟩
end Go.Proofs.YtofpmnkkimgkfaaDoor.look
