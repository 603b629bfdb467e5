/- Layer 15 (look): hopperlaw15.live. -/
import Derived.Test.YtofpmnkkimgkfaaDoorKLkTop
set_option linter.all false
set_option maxHeartbeats 4000000
set_option maxRecDepth 100000
namespace Go.Proofs.YtofpmnkkimgkfaaDoor.look
open Go.RowKit Sx txn queue greedy shard pool
def LT : Tx := ⟨1, 3, 5, 9, 10, ByteArray.empty⟩
def LC : Cf := ⟨0, 0, 0, 2, 10, 0, 0, 0⟩
def LP : Pl := ⟨true, 1, 1, 3, [LT], [(1, LT)], ⟨0, tx0, [], 0⟩⟩
def LQ : Pl := ⟨true, -1, 1, 3, [], [(3, LT)], ⟨0, LT, [], 0⟩⟩
def LR : Pl := ⟨false, 0, 0, 0, [], [], ⟨0, LT, [], 0⟩⟩
def LU : Pl := ⟨true, -1, 1, 4, [], [(3, LT)], ⟨0, tx0, [LT], 0⟩⟩
def LV : Pl := ⟨false, 0, 1, 3, [], [], ⟨0, tx0, [], 0⟩⟩
theorem lp_eq : lookL 2 10 (1, 3, []) ⟨0, 0, 0, 0, bz LT⟩ = LP := by kernel_rfl
theorem lq_eq : lookL 2 10 (1, 3, [LT]) ⟨1, 1, 3, 0, ByteArray.empty⟩ = LQ := by kernel_rfl
theorem lr_eq : lookL 2 10 (1, 3, [LT]) ⟨3, 1, 3, 0, ByteArray.empty⟩ = LR := by kernel_rfl
theorem lu_eq : lookL 2 10 (1, 3, [LT]) ⟨2, 1, 4, 0, ByteArray.empty⟩ = LU := by kernel_rfl
theorem lv_eq : lookL 2 10 (1, 3, []) ⟨2, 1, 3, 0, ByteArray.empty⟩ = LV := by kernel_rfl
theorem lw_eq : whoL ⟨0, 0, 0, 0, bz LT⟩ = (1, true) := by kernel_rfl
theorem look_at {p : PA} {O : Oq} {q : Pl} (e : lookL 2 10 p O = q) (a : Option Addr) (c : Nat) (w : World) (hM : Most w) (hs : Sl a p.2.2.length c) (hrow : At w (pt a p.2.2.length) (cellsL p.2.2)) (hl : p.2.2 = [] ∨ p.2.2 = [LT]) (hO : O.d.size ≤ 1000000) :
  Calls Tryd.prog 9 (List.toArray [LC.val, acc p.1 p.2.1 a p.2.2.length c, O.val]) w fun e w' => PAns w w' [] e q := by
 have := look LC p a c O w hM hs hrow (by rcases hl with h | h <;> rw [h] <;> simp) (by rcases hl with h | h <;> rw [h] <;> intro t ht <;> simp at ht; subst ht; exact Nat.zero_le _) hO
 rw [show LC.per = 2 from rfl, show LC.bp = 10 from rfl, e] at this
 exact this
theorem whose_lw (w : World) (hM : Most w) : Calls Tryd.prog 11 (List.toArray [(⟨0, 0, 0, 0, bz LT⟩ : Oq).val]) w fun e w' => e = .returned (.tuple #[.int .i64 1, .bool true]) ∧ Below w.heap.size w w' := by
 have := whose ⟨0, 0, 0, 0, bz LT⟩ w hM (of_decide_eq_true (by kernel_rfl))
 rw [lw_eq] at this
 exact this
theorem drop_lw (w : World) (hM : Most w) : Calls Tryd.prog 15 (List.toArray [acc 1 3 none 0 0, .int .i64 3]) w fun e w' => PAns w w' [] e (failL 7) := drop (1, 3, []) none 0 3 w hM sl0 (fun g hg => by cases hg) (Nat.zero_le _) (fun t ht => by cases ht)
theorem live (w : World) (hM : Most w) : Calls Tryd.prog 8 (List.toArray []) w fun e w' => e = .returned (.bool true) ∧ Below w.heap.size w w' := by
 have hb : (bz LT).size ≤ 1000000 := of_decide_eq_true (by kernel_rfl)
 have h0 : (ByteArray.empty).size ≤ 1000000 := Nat.zero_le _
 refine calls_of_exec Sxk.env_ok.keeps.soon_ Tryd.func8 rfl [] (schedQ_ok _ _ (by kernel_rfl)) [] (by simp) ?_
 conv=>arg 5;whnf
 refine meetc (f := 24) (v := .tuple #[.string (bz LT), .bool true]) rfl (by kernel_rfl) (fun β ρ w' hM' => enc_ LT rfl w' (Nat.zero_le _)) ?_
 conv=>arg 5;whnf
 refine meetPl (f := 9) LP [] (by simp) rfl (by kernel_rfl) (fun β ρ w' hM' => look_at lp_eq none 0 w' (hM.later hM'.below) sl0 (fun g hg => by cases hg) (.inl rfl) hb) (fun x hx _ => ?_)
 conv=>arg 5;whnf
 refine meetPl (f := 9) LQ [] (by simp) rfl (by kernel_rfl) (fun β ρ w' hM' => look_at lq_eq x.a x.c w' (hM.later hM'.below) hx.1 (hM'.at_ (show rowF (pt x.a 1) (cellsL [LT]) ∈ _ from (by repeat (first | exact List.Mem.head _ | apply List.Mem.tail)))) (.inr rfl) h0) (fun q hq _ => ?_)
 conv=>arg 5;whnf
 refine meetPl (f := 9) LR [] (by simp) rfl (by kernel_rfl) (fun β ρ w' hM' => look_at lr_eq x.a x.c w' (hM.later hM'.below) hx.1 (hM'.at_ (show rowF (pt x.a 1) (cellsL [LT]) ∈ _ from (by repeat (first | exact List.Mem.head _ | apply List.Mem.tail)))) (.inr rfl) h0) (fun r hr _ => ?_)
 conv=>arg 5;whnf
 refine meetPl (f := 9) LU [] (by simp) rfl (by kernel_rfl) (fun β ρ w' hM' => look_at lu_eq x.a x.c w' (hM.later hM'.below) hx.1 (hM'.at_ (show rowF (pt x.a 1) (cellsL [LT]) ∈ _ from (by repeat (first | exact List.Mem.head _ | apply List.Mem.tail)))) (.inr rfl) h0) (fun u hu _ => ?_)
 conv=>arg 5;whnf
 refine meetPl (f := 9) LV [] (by simp) rfl (by kernel_rfl) (fun β ρ w' hM' => look_at lv_eq none 0 w' (hM.later hM'.below) sl0 (fun g hg => by cases hg) (.inl rfl) h0) (fun v hv _ => ?_)
 conv=>arg 5;whnf
 refine meetc (f := 11) (v := .tuple #[.int .i64 1, .bool true]) rfl (by kernel_rfl) (fun β ρ w' hM' => whose_lw w' (hM.later hM'.below)) ?_
 conv=>arg 5;whnf
 refine meetc (f := 11) (v := .tuple #[.int .i64 0, .bool false]) rfl (by kernel_rfl) (fun β ρ w' hM' => whose ⟨4, 0, 0, 0, ByteArray.empty⟩ w' (hM.later hM'.below) (Nat.zero_le _)) ?_
 have hxe : Sl x.ea 1 x.ec := hx.2.1
 conv=>arg 5;whnf
 refine wp_must ⟨by decide, by show (0 : Int) < ((1 : Nat) : Int); decide, hxe.some (show 0 < 1 by decide)⟩ ?_
 conv=>arg 5;whnf
 refine readF (sz := 8) (k := 0) (f := 0) (.int .i64 1) rfl (show rowF (pt x.ea 1) (cellsE [(1, LT)]) ∈ _ from (by repeat (first | exact List.Mem.head _ | apply List.Mem.tail))) (show 0 < 1 by decide) (hxe.some (show 0 < 1 by decide)) rfl rfl ?_
 conv=>arg 5;whnf
 refine wp_prim (.bool true) (fun w => eq_same' _ _ LT w) ?_
 conv=>arg 5;whnf
 refine wp_prim (.bool true) (fun w => eq_same' _ _ LT w) ?_
 conv=>arg 5;whnf
 refine meet1F (f := 18) (n := (fullL LP).l.length) (v := fun a1 c1 => resV (fullL LP) a1 c1) (xs := cellsL (fullL LP).l) rfl (by kernel_rfl) (fun β ρ w' hM' => full LP x w' hx.2.2 (hM'.at_ (show rowF (pt x.ta 0) (cellsL []) ∈ _ from (by repeat (first | exact List.Mem.head _ | apply List.Mem.tail)))) (by decide)) (fun fx c_fx h_fx f_fx => ?_)
 conv=>arg 5;whnf
 refine wp_prim (.int .i64 6) (fun w => by kernel_rfl) ?_
 conv=>arg 5;whnf
 refine meet1F (f := 18) (n := (fullL LQ).l.length) (v := fun a1 c1 => resV (fullL LQ) a1 c1) (xs := cellsL (fullL LQ).l) rfl (by kernel_rfl) (fun β ρ w' hM' => full LQ q w' hq.2.2 (hM'.at_ (show rowF (pt q.ta 0) (cellsL []) ∈ _ from (by repeat (first | exact List.Mem.head _ | apply List.Mem.tail)))) (by decide)) (fun fq c_fq h_fq f_fq => ?_)
 conv=>arg 5;whnf
 refine wp_prim (.int .i64 0) (fun w => by kernel_rfl) ?_
 conv=>arg 5;whnf
 refine meetPl (f := 9) (failL 1) [] (by simp) rfl (by kernel_rfl) (fun β ρ w' hM' => look_at (show lookL 2 10 (1, 3, []) ⟨4, 0, 0, 0, ByteArray.empty⟩ = failL 1 by kernel_rfl) none 0 w' (hM.later hM'.below) sl0 (fun g hg => by cases hg) (.inl rfl) h0) (fun y hy _ => ?_)
 conv=>arg 5;whnf
 refine wp_prim (resV (failL 1).r y.ta y.tc) (fun w => by kernel_rfl) ?_
 conv=>arg 5;whnf
 refine wp_prim (.int .i64 1) (fun w => by kernel_rfl) ?_
 conv=>arg 5;whnf
 refine meetPl (f := 15) (failL 7) [] (by simp) rfl (by kernel_rfl) (fun β ρ w' hM' => drop_lw w' (hM.later hM'.below)) (fun z hz _ => ?_)
 conv=>arg 5;whnf
 refine wp_prim (resV (failL 7).r z.ta z.tc) (fun w => by kernel_rfl) ?_
 conv=>arg 5;whnf
 refine wp_prim (.int .i64 7) (fun w => by kernel_rfl) ?_
 conv=>arg 5;whnf
 exact wp_back fun β ρ w' hM' => ⟨rfl, hM'.below⟩
end Go.Proofs.YtofpmnkkimgkfaaDoor.look
