/- Layer 14 (feed): hopperlaw14's own answers; contracts for laws. -/
import Derived.Test.YtlfiaebnknhmbaaFeedD
namespace Go.Proofs.Ytlfiaebnknhmbaa.feed
open Go.RowKit Sx
set_option linter.unusedVariables false
set_option linter.unusedSimpArgs false
def EV (n : Int) : Ev := ⟨1, 0, n, 0, 0, 0, ByteArray.empty, 0⟩
set_option maxHeartbeats 4000000 in
set_option maxRecDepth 100000 in
theorem event_ (n : Int) (w : World) : Calls Try.prog 23 (List.toArray [.int .i64 n]) w fun e w' =>  e = .returned (EV n).val ∧ Below w.heap.size w w' := by
  refine calls_of_exec env_ok.keeps Try.func23 rfl [] (schedQ_ok _ _ (by kernel_rfl)) [] (by simp) ?_
  (conv => arg 5; whnf)
  exact wp_back fun β ρ w' hM' => ⟨rfl, hM'.below⟩
theorem newL (x r e0 : Int) (w : World) (h : newV x = (r, e0)) : Calls Try.prog 11 (List.toArray [.int .i64 x]) w fun e w' =>  e = .returned (.tuple #[fd r none 0 0 0, .int .i64 e0]) ∧ Below w.heap.size w w' := by
  have := new_ x w
  rwa [h] at this
theorem rnewL (x r e0 : Int) (w : World) (h : newV x = (r, e0)) : Calls Try.prog 12 (List.toArray [.int .i64 x]) w fun e w' =>  e = .returned (.tuple #[fd r none 0 0 0, .int .i64 e0]) ∧ Below w.heap.size w w' := by
  have := rnew x w
  rwa [h] at this
theorem readL (r lost : Int) (a : Option Addr) (n c : Nat) (l : List Ev) (w : World) (hs : Sl a n c) (hn : n = l.length) (hl : l.length ≤ 1000000) (n' : Nat) (l' : List Ev) (lo er : Int) (x : Ev) (e0 : n - 1 = n') (e1 : l.tail = l') (e2 : lostV l lost = lo) (e3 : hdV l lost = x) (e4 : errV l lost = er) (hrow : At w (pt a n) (cellsE l)) : Calls Try.prog 13 (List.toArray [fd r a n c lost]) w fun e w' => ∃ i : One, Sl i.1 n' i.2 ∧ Gives w w' e (.tuple #[fd r i.1 n' i.2 lo, x.val, .int .i64 er]) [rowF (pt i.1 n') (cellsE l')] := by
  subst e0 e1 e2 e3 e4
  exact read_ r lost a n c l w hs hn hrow hl
theorem allL (r lost : Int) (a : Option Addr) (n c : Nat) (l : List Ev) (w : World) (hs : Sl a n c) (hn : n = l.length) (hl : l.length ≤ 100000) (n' : Nat) (ys : List Ev) (lo : Int) (e0 : (allV l lost).length = n') (e1 : allV l lost = ys) (e2 : endV lost = lo) (hrow : At w (pt a n) (cellsE l)) : Calls Try.prog 15 (List.toArray [fd r a n c lost]) w fun e w' => ∃ i : Two, (Sl i.1.1 0 i.1.2 ∧ Sl i.2.1 n' i.2.2) ∧ Gives w w' e (.tuple #[fd r i.1.1 0 i.1.2 lo, .slice i.2.1 n' i.2.2]) [rowF (pt i.1.1 0) (cellsE []), rowF (pt i.2.1 n') (cellsE ys)] := by
  subst e0 e1 e2
  exact all r lost a n c l w hs hn hrow hl
theorem rallL (r lost : Int) (a : Option Addr) (n c : Nat) (l : List Ev) (w : World) (hs : Sl a n c) (hn : n = l.length) (hl : l.length ≤ 100000) (n' : Nat) (ys : List Ev) (lo : Int) (e0 : (allV l lost).length = n') (e1 : allV l lost = ys) (e2 : endV lost = lo) (hrow : At w (pt a n) (cellsE l)) : Calls Try.prog 16 (List.toArray [fd r a n c lost]) w fun e w' => ∃ i : Two, (Sl i.1.1 0 i.1.2 ∧ Sl i.2.1 n' i.2.2) ∧ Gives w w' e (.tuple #[fd r i.1.1 0 i.1.2 lo, .slice i.2.1 n' i.2.2]) [rowF (pt i.1.1 0) (cellsE []), rowF (pt i.2.1 n') (cellsE ys)] := by
  subst e0 e1 e2
  exact rall r lost a n c l w hs hn hrow hl
theorem tellL (r lost : Int) (a : Option Addr) (n c : Nat) (l : List Ev) (b : Option Addr) (m d : Nat) (es : List Ev) (w : World) (hs : Sl a n c) (hn : n = l.length) (hs2 : Sl b m d) (hm : m = es.length) (hl : l.length ≤ 100000) (hes : es.length ≤ 100000) (hlost : Fits lost) (n' : Nat) (ys : List Ev) (lo : Int) (e0 : ys.length = n') (e1 : tellV r (l, lost) es = (ys, lo)) (hrow : At w (pt a n) (cellsE l)) (hrow2 : At w (pt b m) (cellsE es)) : Calls Try.prog 19 (List.toArray [fd r a n c lost, .slice b m d]) w fun e w' => ∃ i : One, Sl i.1 n' i.2 ∧ Gives w w' e (fd r i.1 n' i.2 lo) [rowF (pt i.1 n') (cellsE ys)] := by
  subst e0
  have := tell r lost a n c l b m d es w hs hn hrow hs2 hm hrow2 hl hes hlost
  rw [e1] at this
  exact this
theorem coversL (a : Option Addr) (n c : Nat) (l : List Ev) (b : Option Addr) (m d : Nat) (es : List Ev) (w : World) (hs : Sl a n c) (hn : n = l.length) (hs2 : Sl b m d) (hm : m = es.length) (hfit : ∀ x ∈ l, Fits x.m) (v : Bool) (e1 : coversV l es = v) (hrow : At w (pt a n) (cellsE l)) (hrow2 : At w (pt b m) (cellsE es)) : Calls Try.prog 21 (List.toArray [.slice a n c, .slice b m d]) w fun e w' =>  e = .returned (.bool v) ∧ Below w.heap.size w w' := by
  subst e1
  exact covers a n c l b m d es w hs hn hrow hs2 hm hrow2 hfit
theorem rcoversL (a : Option Addr) (n c : Nat) (l : List Ev) (b : Option Addr) (m d : Nat) (es : List Ev) (w : World) (hs : Sl a n c) (hn : n = l.length) (hs2 : Sl b m d) (hm : m = es.length) (hfit : ∀ x ∈ l, Fits x.m) (v : Bool) (e1 : coversV l es = v) (hrow : At w (pt a n) (cellsE l)) (hrow2 : At w (pt b m) (cellsE es)) : Calls Try.prog 22 (List.toArray [.slice a n c, .slice b m d]) w fun e w' =>  e = .returned (.bool v) ∧ Below w.heap.size w w' := by
  subst e1
  exact rcovers a n c l b m d es w hs hn hrow hs2 hm hrow2 hfit
theorem at_nil {w : World} {n : Nat} {xs : List Value} : At w (pt none n) xs := by unfold pt; split <;> exact at_none
theorem sl_nil : Sl none 0 0 := ⟨Nat.le_refl _, by simp [maxLen], fun _ => ⟨rfl, rfl⟩⟩
set_option maxHeartbeats 4000000 in
set_option maxRecDepth 100000 in
theorem live (w : World) : Calls Try.prog 10 (List.toArray []) w fun e w' =>  e = .returned (.bool true) ∧ Below w.heap.size w w' := by
  have hfE : ∀ x ∈ [EV 1, lag 2], Fits x.m := by intro x hx; simp only [List.mem_cons, List.not_mem_nil, or_false] at hx; unfold Fits; rcases hx with rfl | rfl <;> decide
  have hf0 : Fits 0 := by unfold Fits; decide
  refine calls_of_exec env_ok.keeps Try.func10 rfl [(2, (.one 0 (.fork 1 (.fork 2 (.fork 3 (.fork 4 (.fork 5 (.one 6 (.one 7 (.done))) 6 (.one 5 (.one 7 (.done)))) 6 (.one 4 (.one 5 (.one 7 (.done))))) 6 (.one 3 (.one 4 (.one 5 (.one 7 (.done)))))) 6 (.one 2 (.one 3 (.one 4 (.one 5 (.one 7 (.done))))))) 6 (.one 1 (.one 2 (.one 3 (.one 4 (.one 5 (.one 7 (.done)))))))), [])), (10, (line [0, 1, 2, 3, 4, 5, 6, 7, 8, 9, 10, 11, 12, 13, 14, 15, 16, 17, 18, 19, 20, 21, 22, 23, 24, 25, 26, 27, 28, 29, 30, 31, 32, 33, 34, 35, 36, 37, 38, 39, 40, 41, 42, 43, 44, 45, 46, 47, 48, 49, 50, 51, 52, 53, 54], []))] (schedQ_ok _ _ (by kernel_rfl)) [] (by simp) ?_
  (conv => arg 5; whnf)
  refine meetc (f := 11) (v := .tuple #[fd 1 none 0 0 0, .int .i64 0]) rfl (by kernel_rfl) (fun β ρ w' hM' => newL 1 1 0 w' (by decide)) ?_
  (conv => arg 5; whnf)
  refine wp_both ?_ ?_
  rotate_left
  · (conv => arg 5; whnf)
    refine meetc (f := 23) (v := (EV 1).val) rfl (by kernel_rfl) (fun β ρ w' hM' => event_ 1 w') ?_
    (conv => arg 5; whnf)
    refine meetc (f := 23) (v := (EV 2).val) rfl (by kernel_rfl) (fun β ρ w' hM' => event_ 2 w') ?_
    (conv => arg 5; whnf)
    refine meetc (f := 23) (v := (EV 3).val) rfl (by kernel_rfl) (fun β ρ w' hM' => event_ 3 w') ?_
    (conv => arg 5; whnf)
    refine wp_share fun u c_u h_u f_u => ?_
    (conv => arg 5; whnf)
    refine meet1F (f := 19) (n := 1) (v := fun a1 c1 => fd 1 a1 1 c1 2) (xs := cellsE [EV 1]) rfl (by kernel_rfl) (fun β ρ w' hM' => tellL 1 0 none 0 0 [] u 3 c_u [EV 1, EV 2, EV 3] w' sl_nil rfl h_u rfl (by decide) (by decide) hf0 1 [EV 1] 2 rfl (by kernel_rfl) at_nil ((hM'.at_ (.head _)).pt _)) (fun p c_p h_p f_p => ?_)
    (conv => arg 5; whnf)
    refine meet1F (f := 13) (n := 0) (v := fun a1 c1 => .tuple #[fd 1 a1 0 c1 2, (EV 1).val, .int .i64 0]) (xs := cellsE []) rfl (by kernel_rfl) (fun β ρ w' hM' => readL 1 2 p 1 c_p [EV 1] w' h_p rfl (by decide) 0 [] 2 0 (EV 1) rfl rfl rfl rfl rfl (hM'.at_ (.head _))) (fun q c_q h_q f_q => ?_)
    (conv => arg 5; whnf)
    refine meet1F (f := 13) (n := 0) (v := fun a1 c1 => .tuple #[fd 1 a1 0 c1 0, (lag 2).val, .int .i64 0]) (xs := cellsE []) rfl (by kernel_rfl) (fun β ρ w' hM' => readL 1 2 q 0 c_q [] w' h_q rfl (by decide) 0 [] 0 0 (lag 2) rfl rfl rfl rfl rfl (hM'.at_ (.head _))) (fun t c_t h_t f_t => ?_)
    (conv => arg 5; whnf)
    refine meet1F (f := 13) (n := 0) (v := fun a1 c1 => .tuple #[fd 1 a1 0 c1 0, ev0.val, .int .i64 7]) (xs := cellsE []) rfl (by kernel_rfl) (fun β ρ w' hM' => readL 1 0 t 0 c_t [] w' h_t rfl (by decide) 0 [] 0 7 ev0 rfl rfl rfl rfl rfl (hM'.at_ (.head _))) (fun z c_z h_z f_z => ?_)
    (conv => arg 5; whnf)
    refine meet2' (f := 15) (n := 0) (n2 := 2) (v := fun a1 c1 a2 c2 => .tuple #[fd 1 a1 0 c1 0, .slice a2 2 c2]) (xs := cellsE []) (ys := cellsE [EV 1, lag 2]) rfl (by kernel_rfl) (fun β ρ w' hM' => allL 1 2 p 1 c_p [EV 1] w' h_p rfl (by decide) 2 [EV 1, lag 2] 0 rfl rfl rfl (hM'.at_ (.tail _ (.tail _ (.tail _ (.head _)))))) (fun y c_y l c_l h_y h_l => ?_)
    (conv => arg 5; whnf)
    refine meetc (f := 11) (v := .tuple #[fd 0 none 0 0 0, .int .i64 1]) rfl (by kernel_rfl) (fun β ρ w' hM' => newL 17 0 1 w' (by decide)) ?_
    (conv => arg 5; whnf)
    refine meetc (f := 23) (v := (EV 1).val) rfl (by kernel_rfl) (fun β ρ w' hM' => event_ 1 w') ?_
    (conv => arg 5; whnf)
    refine wp_prim (.bool true) (fun w => eq_same _ _ (EV 1) w) ?_
    (conv => arg 5; whnf)
    refine wp_prim (.bool true) (fun w => eq_same _ _ (lag 2) w) ?_
    (conv => arg 5; whnf)
    refine meetc (f := 23) (v := (EV 1).val) rfl (by kernel_rfl) (fun β ρ w' hM' => event_ 1 w') ?_
    (conv => arg 5; whnf)
    refine meetc (f := 23) (v := (EV 2).val) rfl (by kernel_rfl) (fun β ρ w' hM' => event_ 2 w') ?_
    (conv => arg 5; whnf)
    refine meetc (f := 23) (v := (EV 3).val) rfl (by kernel_rfl) (fun β ρ w' hM' => event_ 3 w') ?_
    (conv => arg 5; whnf)
    refine wp_share fun v c_v h_v f_v => ?_
    (conv => arg 5; whnf)
    refine meetc (f := 21) (v := .bool true) rfl (by kernel_rfl) (fun β ρ w' hM' => coversL l 2 c_l [EV 1, lag 2] v 3 c_v [EV 1, EV 2, EV 3] w' h_l rfl h_v rfl hfE true (by kernel_rfl) (hM'.at_ (.tail _ (.tail _ (.head _)))) ((hM'.at_ (.head _)).pt _)) ?_
    (conv => arg 5; whnf)
    refine meetc (f := 23) (v := (EV 1).val) rfl (by kernel_rfl) (fun β ρ w' hM' => event_ 1 w') ?_
    (conv => arg 5; whnf)
    refine meetc (f := 23) (v := (EV 2).val) rfl (by kernel_rfl) (fun β ρ w' hM' => event_ 2 w') ?_
    (conv => arg 5; whnf)
    refine wp_share fun x c_x h_x f_x => ?_
    (conv => arg 5; whnf)
    refine meetc (f := 21) (v := .bool false) rfl (by kernel_rfl) (fun β ρ w' hM' => coversL l 2 c_l [EV 1, lag 2] x 2 c_x [EV 1, EV 2] w' h_l rfl h_x rfl hfE false (by kernel_rfl) (hM'.at_ (.tail _ (.tail _ (.tail _ (.head _))))) ((hM'.at_ (.head _)).pt _)) ?_
    (conv => arg 5; whnf)
    refine meetc (f := 21) (v := .bool false) rfl (by kernel_rfl) (fun β ρ w' hM' => coversL none 0 0 [] l 2 c_l [EV 1, lag 2] w' sl_nil rfl h_l rfl (by simp) false (by kernel_rfl) at_nil (hM'.at_ (.tail _ (.tail _ (.tail _ (.head _)))))) ?_
    (conv => arg 5; whnf)
    exact wp_back fun β ρ w' hM' => ⟨rfl, hM'.below⟩
  (conv => arg 5; whnf)
  refine meetc (f := 23) (v := (EV 1).val) rfl (by kernel_rfl) (fun β ρ w' hM' => event_ 1 w') ?_
  (conv => arg 5; whnf)
  refine wp_both ?_ ?_
  rotate_left
  · (conv => arg 5; whnf)
    refine meetc (f := 23) (v := (EV 2).val) rfl (by kernel_rfl) (fun β ρ w' hM' => event_ 2 w') ?_
    (conv => arg 5; whnf)
    refine meetc (f := 23) (v := (EV 3).val) rfl (by kernel_rfl) (fun β ρ w' hM' => event_ 3 w') ?_
    (conv => arg 5; whnf)
    refine wp_share fun u c_u h_u f_u => ?_
    (conv => arg 5; whnf)
    refine meet1F (f := 19) (n := 1) (v := fun a1 c1 => fd 1 a1 1 c1 2) (xs := cellsE [EV 1]) rfl (by kernel_rfl) (fun β ρ w' hM' => tellL 1 0 none 0 0 [] u 3 c_u [EV 1, EV 2, EV 3] w' sl_nil rfl h_u rfl (by decide) (by decide) hf0 1 [EV 1] 2 rfl (by kernel_rfl) at_nil ((hM'.at_ (.head _)).pt _)) (fun p c_p h_p f_p => ?_)
    (conv => arg 5; whnf)
    refine meet1F (f := 13) (n := 0) (v := fun a1 c1 => .tuple #[fd 1 a1 0 c1 2, (EV 1).val, .int .i64 0]) (xs := cellsE []) rfl (by kernel_rfl) (fun β ρ w' hM' => readL 1 2 p 1 c_p [EV 1] w' h_p rfl (by decide) 0 [] 2 0 (EV 1) rfl rfl rfl rfl rfl (hM'.at_ (.head _))) (fun q c_q h_q f_q => ?_)
    (conv => arg 5; whnf)
    refine meet1F (f := 13) (n := 0) (v := fun a1 c1 => .tuple #[fd 1 a1 0 c1 0, (lag 2).val, .int .i64 0]) (xs := cellsE []) rfl (by kernel_rfl) (fun β ρ w' hM' => readL 1 2 q 0 c_q [] w' h_q rfl (by decide) 0 [] 0 0 (lag 2) rfl rfl rfl rfl rfl (hM'.at_ (.head _))) (fun t c_t h_t f_t => ?_)
    (conv => arg 5; whnf)
    refine meet1F (f := 13) (n := 0) (v := fun a1 c1 => .tuple #[fd 1 a1 0 c1 0, ev0.val, .int .i64 7]) (xs := cellsE []) rfl (by kernel_rfl) (fun β ρ w' hM' => readL 1 0 t 0 c_t [] w' h_t rfl (by decide) 0 [] 0 7 ev0 rfl rfl rfl rfl rfl (hM'.at_ (.head _))) (fun z c_z h_z f_z => ?_)
    (conv => arg 5; whnf)
    refine meet2' (f := 15) (n := 0) (n2 := 2) (v := fun a1 c1 a2 c2 => .tuple #[fd 1 a1 0 c1 0, .slice a2 2 c2]) (xs := cellsE []) (ys := cellsE [EV 1, lag 2]) rfl (by kernel_rfl) (fun β ρ w' hM' => allL 1 2 p 1 c_p [EV 1] w' h_p rfl (by decide) 2 [EV 1, lag 2] 0 rfl rfl rfl (hM'.at_ (.tail _ (.tail _ (.tail _ (.head _)))))) (fun y c_y l c_l h_y h_l => ?_)
    (conv => arg 5; whnf)
    refine meetc (f := 11) (v := .tuple #[fd 0 none 0 0 0, .int .i64 1]) rfl (by kernel_rfl) (fun β ρ w' hM' => newL 17 0 1 w' (by decide)) ?_
    (conv => arg 5; whnf)
    refine meetc (f := 23) (v := (EV 1).val) rfl (by kernel_rfl) (fun β ρ w' hM' => event_ 1 w') ?_
    (conv => arg 5; whnf)
    refine wp_prim (.bool true) (fun w => eq_same _ _ (EV 1) w) ?_
    (conv => arg 5; whnf)
    refine wp_prim (.bool true) (fun w => eq_same _ _ (lag 2) w) ?_
    (conv => arg 5; whnf)
    refine meetc (f := 23) (v := (EV 1).val) rfl (by kernel_rfl) (fun β ρ w' hM' => event_ 1 w') ?_
    (conv => arg 5; whnf)
    refine meetc (f := 23) (v := (EV 2).val) rfl (by kernel_rfl) (fun β ρ w' hM' => event_ 2 w') ?_
    (conv => arg 5; whnf)
    refine meetc (f := 23) (v := (EV 3).val) rfl (by kernel_rfl) (fun β ρ w' hM' => event_ 3 w') ?_
    (conv => arg 5; whnf)
    refine wp_share fun v c_v h_v f_v => ?_
    (conv => arg 5; whnf)
    refine meetc (f := 21) (v := .bool true) rfl (by kernel_rfl) (fun β ρ w' hM' => coversL l 2 c_l [EV 1, lag 2] v 3 c_v [EV 1, EV 2, EV 3] w' h_l rfl h_v rfl hfE true (by kernel_rfl) (hM'.at_ (.tail _ (.tail _ (.head _)))) ((hM'.at_ (.head _)).pt _)) ?_
    (conv => arg 5; whnf)
    refine meetc (f := 23) (v := (EV 1).val) rfl (by kernel_rfl) (fun β ρ w' hM' => event_ 1 w') ?_
    (conv => arg 5; whnf)
    refine meetc (f := 23) (v := (EV 2).val) rfl (by kernel_rfl) (fun β ρ w' hM' => event_ 2 w') ?_
    (conv => arg 5; whnf)
    refine wp_share fun x c_x h_x f_x => ?_
    (conv => arg 5; whnf)
    refine meetc (f := 21) (v := .bool false) rfl (by kernel_rfl) (fun β ρ w' hM' => coversL l 2 c_l [EV 1, lag 2] x 2 c_x [EV 1, EV 2] w' h_l rfl h_x rfl hfE false (by kernel_rfl) (hM'.at_ (.tail _ (.tail _ (.tail _ (.head _))))) ((hM'.at_ (.head _)).pt _)) ?_
    (conv => arg 5; whnf)
    refine meetc (f := 21) (v := .bool false) rfl (by kernel_rfl) (fun β ρ w' hM' => coversL none 0 0 [] l 2 c_l [EV 1, lag 2] w' sl_nil rfl h_l rfl (by simp) false (by kernel_rfl) at_nil (hM'.at_ (.tail _ (.tail _ (.tail _ (.head _)))))) ?_
    (conv => arg 5; whnf)
    exact wp_back fun β ρ w' hM' => ⟨rfl, hM'.below⟩
  (conv => arg 5; whnf)
  refine meetc (f := 23) (v := (EV 2).val) rfl (by kernel_rfl) (fun β ρ w' hM' => event_ 2 w') ?_
  (conv => arg 5; whnf)
  refine wp_both ?_ ?_
  rotate_left
  · (conv => arg 5; whnf)
    refine meetc (f := 23) (v := (EV 3).val) rfl (by kernel_rfl) (fun β ρ w' hM' => event_ 3 w') ?_
    (conv => arg 5; whnf)
    refine wp_share fun u c_u h_u f_u => ?_
    (conv => arg 5; whnf)
    refine meet1F (f := 19) (n := 1) (v := fun a1 c1 => fd 1 a1 1 c1 2) (xs := cellsE [EV 1]) rfl (by kernel_rfl) (fun β ρ w' hM' => tellL 1 0 none 0 0 [] u 3 c_u [EV 1, EV 2, EV 3] w' sl_nil rfl h_u rfl (by decide) (by decide) hf0 1 [EV 1] 2 rfl (by kernel_rfl) at_nil ((hM'.at_ (.head _)).pt _)) (fun p c_p h_p f_p => ?_)
    (conv => arg 5; whnf)
    refine meet1F (f := 13) (n := 0) (v := fun a1 c1 => .tuple #[fd 1 a1 0 c1 2, (EV 1).val, .int .i64 0]) (xs := cellsE []) rfl (by kernel_rfl) (fun β ρ w' hM' => readL 1 2 p 1 c_p [EV 1] w' h_p rfl (by decide) 0 [] 2 0 (EV 1) rfl rfl rfl rfl rfl (hM'.at_ (.head _))) (fun q c_q h_q f_q => ?_)
    (conv => arg 5; whnf)
    refine meet1F (f := 13) (n := 0) (v := fun a1 c1 => .tuple #[fd 1 a1 0 c1 0, (lag 2).val, .int .i64 0]) (xs := cellsE []) rfl (by kernel_rfl) (fun β ρ w' hM' => readL 1 2 q 0 c_q [] w' h_q rfl (by decide) 0 [] 0 0 (lag 2) rfl rfl rfl rfl rfl (hM'.at_ (.head _))) (fun t c_t h_t f_t => ?_)
    (conv => arg 5; whnf)
    refine meet1F (f := 13) (n := 0) (v := fun a1 c1 => .tuple #[fd 1 a1 0 c1 0, ev0.val, .int .i64 7]) (xs := cellsE []) rfl (by kernel_rfl) (fun β ρ w' hM' => readL 1 0 t 0 c_t [] w' h_t rfl (by decide) 0 [] 0 7 ev0 rfl rfl rfl rfl rfl (hM'.at_ (.head _))) (fun z c_z h_z f_z => ?_)
    (conv => arg 5; whnf)
    refine meet2' (f := 15) (n := 0) (n2 := 2) (v := fun a1 c1 a2 c2 => .tuple #[fd 1 a1 0 c1 0, .slice a2 2 c2]) (xs := cellsE []) (ys := cellsE [EV 1, lag 2]) rfl (by kernel_rfl) (fun β ρ w' hM' => allL 1 2 p 1 c_p [EV 1] w' h_p rfl (by decide) 2 [EV 1, lag 2] 0 rfl rfl rfl (hM'.at_ (.tail _ (.tail _ (.tail _ (.head _)))))) (fun y c_y l c_l h_y h_l => ?_)
    (conv => arg 5; whnf)
    refine meetc (f := 11) (v := .tuple #[fd 0 none 0 0 0, .int .i64 1]) rfl (by kernel_rfl) (fun β ρ w' hM' => newL 17 0 1 w' (by decide)) ?_
    (conv => arg 5; whnf)
    refine meetc (f := 23) (v := (EV 1).val) rfl (by kernel_rfl) (fun β ρ w' hM' => event_ 1 w') ?_
    (conv => arg 5; whnf)
    refine wp_prim (.bool true) (fun w => eq_same _ _ (EV 1) w) ?_
    (conv => arg 5; whnf)
    refine wp_prim (.bool true) (fun w => eq_same _ _ (lag 2) w) ?_
    (conv => arg 5; whnf)
    refine meetc (f := 23) (v := (EV 1).val) rfl (by kernel_rfl) (fun β ρ w' hM' => event_ 1 w') ?_
    (conv => arg 5; whnf)
    refine meetc (f := 23) (v := (EV 2).val) rfl (by kernel_rfl) (fun β ρ w' hM' => event_ 2 w') ?_
    (conv => arg 5; whnf)
    refine meetc (f := 23) (v := (EV 3).val) rfl (by kernel_rfl) (fun β ρ w' hM' => event_ 3 w') ?_
    (conv => arg 5; whnf)
    refine wp_share fun v c_v h_v f_v => ?_
    (conv => arg 5; whnf)
    refine meetc (f := 21) (v := .bool true) rfl (by kernel_rfl) (fun β ρ w' hM' => coversL l 2 c_l [EV 1, lag 2] v 3 c_v [EV 1, EV 2, EV 3] w' h_l rfl h_v rfl hfE true (by kernel_rfl) (hM'.at_ (.tail _ (.tail _ (.head _)))) ((hM'.at_ (.head _)).pt _)) ?_
    (conv => arg 5; whnf)
    refine meetc (f := 23) (v := (EV 1).val) rfl (by kernel_rfl) (fun β ρ w' hM' => event_ 1 w') ?_
    (conv => arg 5; whnf)
    refine meetc (f := 23) (v := (EV 2).val) rfl (by kernel_rfl) (fun β ρ w' hM' => event_ 2 w') ?_
    (conv => arg 5; whnf)
    refine wp_share fun x c_x h_x f_x => ?_
    (conv => arg 5; whnf)
    refine meetc (f := 21) (v := .bool false) rfl (by kernel_rfl) (fun β ρ w' hM' => coversL l 2 c_l [EV 1, lag 2] x 2 c_x [EV 1, EV 2] w' h_l rfl h_x rfl hfE false (by kernel_rfl) (hM'.at_ (.tail _ (.tail _ (.tail _ (.head _))))) ((hM'.at_ (.head _)).pt _)) ?_
    (conv => arg 5; whnf)
    refine meetc (f := 21) (v := .bool false) rfl (by kernel_rfl) (fun β ρ w' hM' => coversL none 0 0 [] l 2 c_l [EV 1, lag 2] w' sl_nil rfl h_l rfl (by simp) false (by kernel_rfl) at_nil (hM'.at_ (.tail _ (.tail _ (.tail _ (.head _)))))) ?_
    (conv => arg 5; whnf)
    exact wp_back fun β ρ w' hM' => ⟨rfl, hM'.below⟩
  (conv => arg 5; whnf)
  refine meetc (f := 23) (v := (EV 3).val) rfl (by kernel_rfl) (fun β ρ w' hM' => event_ 3 w') ?_
  (conv => arg 5; whnf)
  refine wp_both ?_ ?_
  rotate_left
  · (conv => arg 5; whnf)
    refine wp_share fun u c_u h_u f_u => ?_
    (conv => arg 5; whnf)
    refine meet1F (f := 19) (n := 1) (v := fun a1 c1 => fd 1 a1 1 c1 2) (xs := cellsE [EV 1]) rfl (by kernel_rfl) (fun β ρ w' hM' => tellL 1 0 none 0 0 [] u 3 c_u [EV 1, EV 2, EV 3] w' sl_nil rfl h_u rfl (by decide) (by decide) hf0 1 [EV 1] 2 rfl (by kernel_rfl) at_nil ((hM'.at_ (.head _)).pt _)) (fun p c_p h_p f_p => ?_)
    (conv => arg 5; whnf)
    refine meet1F (f := 13) (n := 0) (v := fun a1 c1 => .tuple #[fd 1 a1 0 c1 2, (EV 1).val, .int .i64 0]) (xs := cellsE []) rfl (by kernel_rfl) (fun β ρ w' hM' => readL 1 2 p 1 c_p [EV 1] w' h_p rfl (by decide) 0 [] 2 0 (EV 1) rfl rfl rfl rfl rfl (hM'.at_ (.head _))) (fun q c_q h_q f_q => ?_)
    (conv => arg 5; whnf)
    refine meet1F (f := 13) (n := 0) (v := fun a1 c1 => .tuple #[fd 1 a1 0 c1 0, (lag 2).val, .int .i64 0]) (xs := cellsE []) rfl (by kernel_rfl) (fun β ρ w' hM' => readL 1 2 q 0 c_q [] w' h_q rfl (by decide) 0 [] 0 0 (lag 2) rfl rfl rfl rfl rfl (hM'.at_ (.head _))) (fun t c_t h_t f_t => ?_)
    (conv => arg 5; whnf)
    refine meet1F (f := 13) (n := 0) (v := fun a1 c1 => .tuple #[fd 1 a1 0 c1 0, ev0.val, .int .i64 7]) (xs := cellsE []) rfl (by kernel_rfl) (fun β ρ w' hM' => readL 1 0 t 0 c_t [] w' h_t rfl (by decide) 0 [] 0 7 ev0 rfl rfl rfl rfl rfl (hM'.at_ (.head _))) (fun z c_z h_z f_z => ?_)
    (conv => arg 5; whnf)
    refine meet2' (f := 15) (n := 0) (n2 := 2) (v := fun a1 c1 a2 c2 => .tuple #[fd 1 a1 0 c1 0, .slice a2 2 c2]) (xs := cellsE []) (ys := cellsE [EV 1, lag 2]) rfl (by kernel_rfl) (fun β ρ w' hM' => allL 1 2 p 1 c_p [EV 1] w' h_p rfl (by decide) 2 [EV 1, lag 2] 0 rfl rfl rfl (hM'.at_ (.tail _ (.tail _ (.tail _ (.head _)))))) (fun y c_y l c_l h_y h_l => ?_)
    (conv => arg 5; whnf)
    refine meetc (f := 11) (v := .tuple #[fd 0 none 0 0 0, .int .i64 1]) rfl (by kernel_rfl) (fun β ρ w' hM' => newL 17 0 1 w' (by decide)) ?_
    (conv => arg 5; whnf)
    refine meetc (f := 23) (v := (EV 1).val) rfl (by kernel_rfl) (fun β ρ w' hM' => event_ 1 w') ?_
    (conv => arg 5; whnf)
    refine wp_prim (.bool true) (fun w => eq_same _ _ (EV 1) w) ?_
    (conv => arg 5; whnf)
    refine wp_prim (.bool true) (fun w => eq_same _ _ (lag 2) w) ?_
    (conv => arg 5; whnf)
    refine meetc (f := 23) (v := (EV 1).val) rfl (by kernel_rfl) (fun β ρ w' hM' => event_ 1 w') ?_
    (conv => arg 5; whnf)
    refine meetc (f := 23) (v := (EV 2).val) rfl (by kernel_rfl) (fun β ρ w' hM' => event_ 2 w') ?_
    (conv => arg 5; whnf)
    refine meetc (f := 23) (v := (EV 3).val) rfl (by kernel_rfl) (fun β ρ w' hM' => event_ 3 w') ?_
    (conv => arg 5; whnf)
    refine wp_share fun v c_v h_v f_v => ?_
    (conv => arg 5; whnf)
    refine meetc (f := 21) (v := .bool true) rfl (by kernel_rfl) (fun β ρ w' hM' => coversL l 2 c_l [EV 1, lag 2] v 3 c_v [EV 1, EV 2, EV 3] w' h_l rfl h_v rfl hfE true (by kernel_rfl) (hM'.at_ (.tail _ (.tail _ (.head _)))) ((hM'.at_ (.head _)).pt _)) ?_
    (conv => arg 5; whnf)
    refine meetc (f := 23) (v := (EV 1).val) rfl (by kernel_rfl) (fun β ρ w' hM' => event_ 1 w') ?_
    (conv => arg 5; whnf)
    refine meetc (f := 23) (v := (EV 2).val) rfl (by kernel_rfl) (fun β ρ w' hM' => event_ 2 w') ?_
    (conv => arg 5; whnf)
    refine wp_share fun x c_x h_x f_x => ?_
    (conv => arg 5; whnf)
    refine meetc (f := 21) (v := .bool false) rfl (by kernel_rfl) (fun β ρ w' hM' => coversL l 2 c_l [EV 1, lag 2] x 2 c_x [EV 1, EV 2] w' h_l rfl h_x rfl hfE false (by kernel_rfl) (hM'.at_ (.tail _ (.tail _ (.tail _ (.head _))))) ((hM'.at_ (.head _)).pt _)) ?_
    (conv => arg 5; whnf)
    refine meetc (f := 21) (v := .bool false) rfl (by kernel_rfl) (fun β ρ w' hM' => coversL none 0 0 [] l 2 c_l [EV 1, lag 2] w' sl_nil rfl h_l rfl (by simp) false (by kernel_rfl) at_nil (hM'.at_ (.tail _ (.tail _ (.tail _ (.head _)))))) ?_
    (conv => arg 5; whnf)
    exact wp_back fun β ρ w' hM' => ⟨rfl, hM'.below⟩
  (conv => arg 5; whnf)
  refine wp_both ?_ ?_
  rotate_left
  · (conv => arg 5; whnf)
    refine wp_share fun u c_u h_u f_u => ?_
    (conv => arg 5; whnf)
    refine meet1F (f := 19) (n := 1) (v := fun a1 c1 => fd 1 a1 1 c1 2) (xs := cellsE [EV 1]) rfl (by kernel_rfl) (fun β ρ w' hM' => tellL 1 0 none 0 0 [] u 3 c_u [EV 1, EV 2, EV 3] w' sl_nil rfl h_u rfl (by decide) (by decide) hf0 1 [EV 1] 2 rfl (by kernel_rfl) at_nil ((hM'.at_ (.head _)).pt _)) (fun p c_p h_p f_p => ?_)
    (conv => arg 5; whnf)
    refine meet1F (f := 13) (n := 0) (v := fun a1 c1 => .tuple #[fd 1 a1 0 c1 2, (EV 1).val, .int .i64 0]) (xs := cellsE []) rfl (by kernel_rfl) (fun β ρ w' hM' => readL 1 2 p 1 c_p [EV 1] w' h_p rfl (by decide) 0 [] 2 0 (EV 1) rfl rfl rfl rfl rfl (hM'.at_ (.head _))) (fun q c_q h_q f_q => ?_)
    (conv => arg 5; whnf)
    refine meet1F (f := 13) (n := 0) (v := fun a1 c1 => .tuple #[fd 1 a1 0 c1 0, (lag 2).val, .int .i64 0]) (xs := cellsE []) rfl (by kernel_rfl) (fun β ρ w' hM' => readL 1 2 q 0 c_q [] w' h_q rfl (by decide) 0 [] 0 0 (lag 2) rfl rfl rfl rfl rfl (hM'.at_ (.head _))) (fun t c_t h_t f_t => ?_)
    (conv => arg 5; whnf)
    refine meet1F (f := 13) (n := 0) (v := fun a1 c1 => .tuple #[fd 1 a1 0 c1 0, ev0.val, .int .i64 7]) (xs := cellsE []) rfl (by kernel_rfl) (fun β ρ w' hM' => readL 1 0 t 0 c_t [] w' h_t rfl (by decide) 0 [] 0 7 ev0 rfl rfl rfl rfl rfl (hM'.at_ (.head _))) (fun z c_z h_z f_z => ?_)
    (conv => arg 5; whnf)
    refine meet2' (f := 15) (n := 0) (n2 := 2) (v := fun a1 c1 a2 c2 => .tuple #[fd 1 a1 0 c1 0, .slice a2 2 c2]) (xs := cellsE []) (ys := cellsE [EV 1, lag 2]) rfl (by kernel_rfl) (fun β ρ w' hM' => allL 1 2 p 1 c_p [EV 1] w' h_p rfl (by decide) 2 [EV 1, lag 2] 0 rfl rfl rfl (hM'.at_ (.tail _ (.tail _ (.tail _ (.head _)))))) (fun y c_y l c_l h_y h_l => ?_)
    (conv => arg 5; whnf)
    refine meetc (f := 11) (v := .tuple #[fd 0 none 0 0 0, .int .i64 1]) rfl (by kernel_rfl) (fun β ρ w' hM' => newL 17 0 1 w' (by decide)) ?_
    (conv => arg 5; whnf)
    refine meetc (f := 23) (v := (EV 1).val) rfl (by kernel_rfl) (fun β ρ w' hM' => event_ 1 w') ?_
    (conv => arg 5; whnf)
    refine wp_prim (.bool true) (fun w => eq_same _ _ (EV 1) w) ?_
    (conv => arg 5; whnf)
    refine wp_prim (.bool true) (fun w => eq_same _ _ (lag 2) w) ?_
    (conv => arg 5; whnf)
    refine meetc (f := 23) (v := (EV 1).val) rfl (by kernel_rfl) (fun β ρ w' hM' => event_ 1 w') ?_
    (conv => arg 5; whnf)
    refine meetc (f := 23) (v := (EV 2).val) rfl (by kernel_rfl) (fun β ρ w' hM' => event_ 2 w') ?_
    (conv => arg 5; whnf)
    refine meetc (f := 23) (v := (EV 3).val) rfl (by kernel_rfl) (fun β ρ w' hM' => event_ 3 w') ?_
    (conv => arg 5; whnf)
    refine wp_share fun v c_v h_v f_v => ?_
    (conv => arg 5; whnf)
    refine meetc (f := 21) (v := .bool true) rfl (by kernel_rfl) (fun β ρ w' hM' => coversL l 2 c_l [EV 1, lag 2] v 3 c_v [EV 1, EV 2, EV 3] w' h_l rfl h_v rfl hfE true (by kernel_rfl) (hM'.at_ (.tail _ (.tail _ (.head _)))) ((hM'.at_ (.head _)).pt _)) ?_
    (conv => arg 5; whnf)
    refine meetc (f := 23) (v := (EV 1).val) rfl (by kernel_rfl) (fun β ρ w' hM' => event_ 1 w') ?_
    (conv => arg 5; whnf)
    refine meetc (f := 23) (v := (EV 2).val) rfl (by kernel_rfl) (fun β ρ w' hM' => event_ 2 w') ?_
    (conv => arg 5; whnf)
    refine wp_share fun x c_x h_x f_x => ?_
    (conv => arg 5; whnf)
    refine meetc (f := 21) (v := .bool false) rfl (by kernel_rfl) (fun β ρ w' hM' => coversL l 2 c_l [EV 1, lag 2] x 2 c_x [EV 1, EV 2] w' h_l rfl h_x rfl hfE false (by kernel_rfl) (hM'.at_ (.tail _ (.tail _ (.tail _ (.head _))))) ((hM'.at_ (.head _)).pt _)) ?_
    (conv => arg 5; whnf)
    refine meetc (f := 21) (v := .bool false) rfl (by kernel_rfl) (fun β ρ w' hM' => coversL none 0 0 [] l 2 c_l [EV 1, lag 2] w' sl_nil rfl h_l rfl (by simp) false (by kernel_rfl) at_nil (hM'.at_ (.tail _ (.tail _ (.tail _ (.head _)))))) ?_
    (conv => arg 5; whnf)
    exact wp_back fun β ρ w' hM' => ⟨rfl, hM'.below⟩
  (conv => arg 5; whnf)
  refine wp_share fun u c_u h_u f_u => ?_
  (conv => arg 5; whnf)
  refine meet1F (f := 19) (n := 1) (v := fun a1 c1 => fd 1 a1 1 c1 2) (xs := cellsE [EV 1]) rfl (by kernel_rfl) (fun β ρ w' hM' => tellL 1 0 none 0 0 [] u 3 c_u [EV 1, EV 2, EV 3] w' sl_nil rfl h_u rfl (by decide) (by decide) hf0 1 [EV 1] 2 rfl (by kernel_rfl) at_nil ((hM'.at_ (.head _)).pt _)) (fun p c_p h_p f_p => ?_)
  (conv => arg 5; whnf)
  refine meet1F (f := 13) (n := 0) (v := fun a1 c1 => .tuple #[fd 1 a1 0 c1 2, (EV 1).val, .int .i64 0]) (xs := cellsE []) rfl (by kernel_rfl) (fun β ρ w' hM' => readL 1 2 p 1 c_p [EV 1] w' h_p rfl (by decide) 0 [] 2 0 (EV 1) rfl rfl rfl rfl rfl (hM'.at_ (.head _))) (fun q c_q h_q f_q => ?_)
  (conv => arg 5; whnf)
  refine meet1F (f := 13) (n := 0) (v := fun a1 c1 => .tuple #[fd 1 a1 0 c1 0, (lag 2).val, .int .i64 0]) (xs := cellsE []) rfl (by kernel_rfl) (fun β ρ w' hM' => readL 1 2 q 0 c_q [] w' h_q rfl (by decide) 0 [] 0 0 (lag 2) rfl rfl rfl rfl rfl (hM'.at_ (.head _))) (fun t c_t h_t f_t => ?_)
  (conv => arg 5; whnf)
  refine meet1F (f := 13) (n := 0) (v := fun a1 c1 => .tuple #[fd 1 a1 0 c1 0, ev0.val, .int .i64 7]) (xs := cellsE []) rfl (by kernel_rfl) (fun β ρ w' hM' => readL 1 0 t 0 c_t [] w' h_t rfl (by decide) 0 [] 0 7 ev0 rfl rfl rfl rfl rfl (hM'.at_ (.head _))) (fun z c_z h_z f_z => ?_)
  (conv => arg 5; whnf)
  refine meet2' (f := 15) (n := 0) (n2 := 2) (v := fun a1 c1 a2 c2 => .tuple #[fd 1 a1 0 c1 0, .slice a2 2 c2]) (xs := cellsE []) (ys := cellsE [EV 1, lag 2]) rfl (by kernel_rfl) (fun β ρ w' hM' => allL 1 2 p 1 c_p [EV 1] w' h_p rfl (by decide) 2 [EV 1, lag 2] 0 rfl rfl rfl (hM'.at_ (.tail _ (.tail _ (.tail _ (.head _)))))) (fun y c_y l c_l h_y h_l => ?_)
  (conv => arg 5; whnf)
  refine meetc (f := 11) (v := .tuple #[fd 0 none 0 0 0, .int .i64 1]) rfl (by kernel_rfl) (fun β ρ w' hM' => newL 17 0 1 w' (by decide)) ?_
  (conv => arg 5; whnf)
  refine meetc (f := 23) (v := (EV 1).val) rfl (by kernel_rfl) (fun β ρ w' hM' => event_ 1 w') ?_
  (conv => arg 5; whnf)
  refine wp_prim (.bool true) (fun w => eq_same _ _ (EV 1) w) ?_
  (conv => arg 5; whnf)
  refine wp_prim (.bool true) (fun w => eq_same _ _ (lag 2) w) ?_
  (conv => arg 5; whnf)
  refine meetc (f := 23) (v := (EV 1).val) rfl (by kernel_rfl) (fun β ρ w' hM' => event_ 1 w') ?_
  (conv => arg 5; whnf)
  refine meetc (f := 23) (v := (EV 2).val) rfl (by kernel_rfl) (fun β ρ w' hM' => event_ 2 w') ?_
  (conv => arg 5; whnf)
  refine meetc (f := 23) (v := (EV 3).val) rfl (by kernel_rfl) (fun β ρ w' hM' => event_ 3 w') ?_
  (conv => arg 5; whnf)
  refine wp_share fun v c_v h_v f_v => ?_
  (conv => arg 5; whnf)
  refine meetc (f := 21) (v := .bool true) rfl (by kernel_rfl) (fun β ρ w' hM' => coversL l 2 c_l [EV 1, lag 2] v 3 c_v [EV 1, EV 2, EV 3] w' h_l rfl h_v rfl hfE true (by kernel_rfl) (hM'.at_ (.tail _ (.tail _ (.head _)))) ((hM'.at_ (.head _)).pt _)) ?_
  (conv => arg 5; whnf)
  refine meetc (f := 23) (v := (EV 1).val) rfl (by kernel_rfl) (fun β ρ w' hM' => event_ 1 w') ?_
  (conv => arg 5; whnf)
  refine meetc (f := 23) (v := (EV 2).val) rfl (by kernel_rfl) (fun β ρ w' hM' => event_ 2 w') ?_
  (conv => arg 5; whnf)
  refine wp_share fun x c_x h_x f_x => ?_
  (conv => arg 5; whnf)
  refine meetc (f := 21) (v := .bool false) rfl (by kernel_rfl) (fun β ρ w' hM' => coversL l 2 c_l [EV 1, lag 2] x 2 c_x [EV 1, EV 2] w' h_l rfl h_x rfl hfE false (by kernel_rfl) (hM'.at_ (.tail _ (.tail _ (.tail _ (.head _))))) ((hM'.at_ (.head _)).pt _)) ?_
  (conv => arg 5; whnf)
  refine meetc (f := 21) (v := .bool false) rfl (by kernel_rfl) (fun β ρ w' hM' => coversL none 0 0 [] l 2 c_l [EV 1, lag 2] w' sl_nil rfl h_l rfl (by simp) false (by kernel_rfl) at_nil (hM'.at_ (.tail _ (.tail _ (.tail _ (.head _)))))) ?_
  (conv => arg 5; whnf)
  exact wp_back fun β ρ w' hM' => ⟨rfl, hM'.below⟩
end Go.Proofs.Ytlfiaebnknhmbaa.feed
