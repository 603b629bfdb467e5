/- The walk of hopperlaw08.PipeThrough. -/
import Derived.Test.YtoaohkllkooibaaPipeOpen
namespace Go.Proofs.Ytoaohkllkooibaa.pipeThrough
open Go.RowKit Sx pipe
set_option linter.unusedVariables false
set_option linter.unusedSimpArgs false
abbrev St := Nat × Option Addr × Nat × List It × List It
set_option maxHeartbeats 4000000 in
set_option maxRecDepth 100000 in
theorem walk (room : Int) (a : Option Addr) (n c : Nat) (l : List It) (w : World) (hro : Fits room) (h : IsIts w a n c l) : Calls Try.prog 6 (List.toArray [.int .i64 room, .slice a n c]) w fun e w' =>  e = .returned (.bool true) ∧ Below w.heap.size w w' := by
  obtain ⟨hs, hn, hrow⟩ := h
  have hn63 := hs.le
  refine calls_of_exec env_ok.keeps Try.func6 rfl [(8, (.one 0 (.one 1 (.one 2 (.one 3 (.one 4 (.fork 5 (.one 6 (.one 7 (.one 8 (.one 9 (.one 10 (.one 11 (.done))))))) 9 (.one 5 (.one 6 (.one 7 (.one 8 (.one 10 (.one 11 (.done)))))))))))), [])), (12, (line [0, 1, 2, 3, 4, 5, 6, 7, 8, 9, 10], [1]))] (schedQ_ok _ _ (by kernel_rfl)) [rowF (pt none 0) (cellsE []), rowF (pt a n) (cellsE l)] (at2 at_nil hrow) ?_
  by_cases hr : 1 ≤ room ∧ room ≤ 8
  · have hN : newV room = (room, 0) := if_pos hr
    (conv => arg 5; whnf)
    refine meetc (f := 16) (v := .tuple #[pv room false none 0 0, .int .i64 0]) rfl (by kernel_rfl) (fun β ρ w' hM' => newT room room 0 w' hN) ?_
    (conv => arg 5; whnf)
    refine wp_g0 (fun g2 => ?_) (fun g2 => ?_)
    · have hl : n ≤ 60 := by simp at g2; omega
      (conv => arg 5; whnf)
      refine loop_nil 7 26 3 rfl ?_
      (conv => arg 5; whnf)
      refine loop_rule env_ok.keeps [(8, (.one 0 (.one 1 (.one 2 (.one 3 (.one 4 (.fork 5 (.one 6 (.one 7 (.one 8 (.one 9 (.one 10 (.one 11 (.done))))))) 9 (.one 5 (.one 6 (.one 7 (.one 8 (.one 10 (.one 11 (.done)))))))))))), [])), (12, (line [0, 1, 2, 3, 4, 5, 6, 7, 8, 9, 10], [1]))] (schedQ_ok _ _ (by kernel_rfl)) (fun q : St => q.1 ≤ n ∧ Sl q.2.1 q.2.2.2.1.length q.2.2.1 ∧ q.2.2.2.2 ++ q.2.2.2.1 = l.take q.1 ∧ (q.2.2.2.1.length : Int) ≤ room) (fun q => (⟨[some ([.v (.int .i64 room), .v (.bool false), .v (.slice q.2.1 q.2.2.2.1.length q.2.2.1)], 31)], [some ⟨26, 3, q.2.2.2.2.length, cellsE q.2.2.2.2⟩], [rowF (pt q.2.1 q.2.2.2.1.length) (cellsE q.2.2.2.1), rowF (pt a n) (cellsE l)]⟩, sl 102 [(0, .v (.int .i64 room)), (1, .v (.slice a n c)), (4, .v (.bool false)), (5, .p 0 0), (7, .r 0), (8, .v (.int .i64 (q.1 : Nat)))])) (fun q => n - q.1) (0, none, 0, [], []) ⟨Nat.zero_le _, sl_nil, rfl, by simp; omega⟩ ⟨by repeat' first | exact trivial | refine ⟨.inl rfl, ?_⟩ | refine ⟨.inr rfl, ?_⟩, ⟨by repeat' first | exact trivial | refine ⟨.inl rfl, ?_⟩ | refine ⟨.inr rfl, ?_⟩, by repeat' first | exact trivial | refine ⟨.inl rfl, ?_⟩ | refine ⟨.inr rfl, ?_⟩, fun φ h => by simp only [List.mem_cons, List.not_mem_nil, or_false] at h; rcases h with rfl | rfl; exact .head _; exact .tail _ (.head _)⟩, rfl⟩ ?_
      rintro ⟨k, pa, pc, it, out⟩ ⟨hk, hps, hoi, hit⟩
      simp only [] at hk hps hoi hit
      have hlen := congrArg List.length hoi
      rw [List.length_append, List.length_take] at hlen
      (conv => arg 5; whnf)
      refine wp_br (fun g3 => ?_) (fun g3 => ?_)
      · have hlt : k < n := by simp at g3; omega
        have hx := nx_get (l := l) (k := k) (by omega)
        have htk : l.take (k + 1) = l.take k ++ [nx l k] := by rw [List.take_add_one, hx]; rfl
        generalize nx l k = x at hx htk
        by_cases hc : (it.length : Int) < room
        · have e1 : sendV room false it x = it ++ [x] := by unfold sendV; rw [if_neg (by decide), if_pos hc]
          have e2 : sendR room false it = 0 := by unfold sendR; rw [if_neg (by decide), if_pos hc]
          have hl1 : (it ++ [x]).length = it.length + 1 := by simp
          (conv => arg 5; whnf)
          refine wp_must ⟨by omega, by omega, hs.some hlt⟩ ?_
          (conv => arg 5; whnf)
          refine readE (l := l) (k := k) (x := x) rfl (.tail _ (.head _)) hlt (hs.some hlt) hx rfl ?_
          (conv => arg 5; whnf)
          refine wp_both ?_ ?_
          rotate_left
          · (conv => arg 5; whnf)
            refine meet1F (f := 10) (n := (it ++ [x]).length) (v := fun a1 c1 => .tuple #[pv room false a1 (it ++ [x]).length c1, .int .i64 0]) (xs := cellsE (it ++ [x])) rfl (by kernel_rfl) (fun β ρ w' hM' => sendT room false pa it.length pc it w' hps rfl hro x (by omega) (it ++ [x]).length (it ++ [x]) 0 rfl e1 e2 (hM'.at_ (.head _))) (fun y c_y h_y f_y => ?_)
            (conv => arg 5; whnf)
            refine wp_must ⟨by omega, by omega⟩ ?_
            (conv => arg 5; whnf)
            refine wp_end ⟨(k + 1, y, c_y, it ++ [x], out), ⟨hlt, h_y, by show out ++ (it ++ [x]) = l.take (k + 1); rw [htk, ← hoi, List.append_assoc], by show ((it ++ [x]).length : Int) ≤ room; rw [hl1]; omega⟩, ⟨by repeat' first | exact trivial | refine ⟨.inl rfl, ?_⟩ | refine ⟨.inr rfl, ?_⟩, ⟨by repeat' first | exact trivial | refine ⟨.inl rfl, ?_⟩ | refine ⟨.inr rfl, ?_⟩, by repeat' first | exact trivial | refine ⟨.inl rfl, ?_⟩ | refine ⟨.inr rfl, ?_⟩, fun φ h => by simp only [List.mem_cons, List.not_mem_nil, or_false] at h; rcases h with rfl | rfl; exact (.head _); exact (.tail _ (.tail _ (.head _)))⟩, rfl⟩, by show n - (k + 1) < n - k; omega⟩
          (conv => arg 5; whnf)
          refine meet1F (f := 10) (n := (it ++ [x]).length) (v := fun a1 c1 => .tuple #[pv room false a1 (it ++ [x]).length c1, .int .i64 0]) (xs := cellsE (it ++ [x])) rfl (by kernel_rfl) (fun β ρ w' hM' => sendT room false pa it.length pc it w' hps rfl hro x (by omega) (it ++ [x]).length (it ++ [x]) 0 rfl e1 e2 (hM'.at_ (.head _))) (fun y c_y h_y f_y => ?_)
          (conv => arg 5; whnf)
          refine wp_must ⟨by omega, by omega⟩ ?_
          (conv => arg 5; whnf)
          refine wp_end ⟨(k + 1, y, c_y, it ++ [x], out), ⟨hlt, h_y, by show out ++ (it ++ [x]) = l.take (k + 1); rw [htk, ← hoi, List.append_assoc], by show ((it ++ [x]).length : Int) ≤ room; rw [hl1]; omega⟩, ⟨by repeat' first | exact trivial | refine ⟨.inl rfl, ?_⟩ | refine ⟨.inr rfl, ?_⟩, ⟨by repeat' first | exact trivial | refine ⟨.inl rfl, ?_⟩ | refine ⟨.inr rfl, ?_⟩, by repeat' first | exact trivial | refine ⟨.inl rfl, ?_⟩ | refine ⟨.inr rfl, ?_⟩, fun φ h => by simp only [List.mem_cons, List.not_mem_nil, or_false] at h; rcases h with rfl | rfl; exact (.head _); exact (.tail _ (.tail _ (.head _)))⟩, rfl⟩, by show n - (k + 1) < n - k; omega⟩
        · have e1 : sendV room false it x = it := by unfold sendV; rw [if_neg (by decide), if_neg hc]
          have e2 : sendR room false it = 6 := by unfold sendR; rw [if_neg (by decide), if_neg hc]
          obtain ⟨x0, r, rfl⟩ : ∃ x0 r, it = x0 :: r := by cases it with | nil => (simp at hc; omega) | cons x0 r => exact ⟨x0, r, rfl⟩
          rw [List.length_cons] at hc hit hlen
          have hc2 : (r.length : Int) < room := by omega
          have e3 : sendV room false r x = r ++ [x] := by unfold sendV; rw [if_neg (by decide), if_pos hc2]
          have e4 : sendR room false r = 0 := by unfold sendR; rw [if_neg (by decide), if_pos hc2]
          have hl1 : (r ++ [x]).length = r.length + 1 := by simp
          have hc1 : cellsE (out ++ [x0]) = cellsE out ++ x0.cells := by rw [cellsE_append]; simp [cellsE]
          have hl2 : (out ++ [x0]).length = out.length + 1 := by simp
          (conv => arg 5; whnf)
          refine wp_must ⟨by omega, by omega, hs.some hlt⟩ ?_
          (conv => arg 5; whnf)
          refine readE (l := l) (k := k) (x := x) rfl (.tail _ (.head _)) hlt (hs.some hlt) hx rfl ?_
          (conv => arg 5; whnf)
          refine wp_both ?_ ?_
          rotate_left
          · (conv => arg 5; whnf)
            refine meet1F (f := 10) (n := (x0 :: r).length) (v := fun a1 c1 => .tuple #[pv room false a1 (x0 :: r).length c1, .int .i64 6]) (xs := cellsE (x0 :: r)) rfl (by kernel_rfl) (fun β ρ w' hM' => sendT room false pa (x0 :: r).length pc (x0 :: r) w' hps rfl hro x (by rw [List.length_cons]; omega) (x0 :: r).length (x0 :: r) 6 rfl e1 e2 (hM'.at_ (.head _))) (fun y c_y h_y f_y => ?_)
            (conv => arg 5; whnf)
            refine meet1F (f := 12) (n := r.length) (v := fun a1 c1 => .tuple #[pv room false a1 r.length c1, x0.val, .int .i64 0]) (xs := cellsE r) rfl (by kernel_rfl) (fun β ρ w' hM' => takeT room false pa (x0 :: r).length pc (x0 :: r) w' hps rfl hro (by rw [List.length_cons]; omega) r.length r x0 0 rfl rfl rfl rfl (hM'.at_ (.tail _ (.head _)))) (fun z c_z h_z f_z => ?_)
            (conv => arg 5; whnf)
            refine wp_must ⟨by show out.length + 1 ≤ maxLen; unfold maxLen; omega, by show (out.length + 1) * 32 ≤ _; omega⟩ ?_
            (conv => arg 5; whnf)
            refine wp_must ⟨by omega, by omega, hs.some hlt⟩ ?_
            (conv => arg 5; whnf)
            refine readE (l := l) (k := k) (x := x) rfl (.tail _ (.tail _ (.tail _ (.head _)))) hlt (hs.some hlt) hx rfl ?_
            (conv => arg 5; whnf)
            refine meet1F (f := 10) (n := (r ++ [x]).length) (v := fun a1 c1 => .tuple #[pv room false a1 (r ++ [x]).length c1, .int .i64 0]) (xs := cellsE (r ++ [x])) rfl (by kernel_rfl) (fun β ρ w' hM' => sendT room false z r.length c_z r w' h_z rfl hro x (by omega) (r ++ [x]).length (r ++ [x]) 0 rfl e3 e4 (hM'.at_ (.head _))) (fun v c_v h_v f_v => ?_)
            (conv => arg 5; whnf)
            refine wp_must ⟨by omega, by omega⟩ ?_
            (conv => arg 5; whnf)
            refine wp_end ⟨(k + 1, v, c_v, r ++ [x], out ++ [x0]), ⟨hlt, h_v, by show (out ++ [x0]) ++ (r ++ [x]) = l.take (k + 1); rw [htk, ← hoi]; simp, by show ((r ++ [x]).length : Int) ≤ room; rw [hl1]; omega⟩, ⟨by repeat' first | exact trivial | refine ⟨.inl rfl, ?_⟩ | refine ⟨.inr rfl, ?_⟩, ⟨by repeat' first | exact trivial | refine ⟨.inl rfl, ?_⟩ | refine ⟨.inr rfl, ?_⟩, by show LeO (α := Row) _ [some ⟨26, 3, (out ++ [x0]).length, cellsE (out ++ [x0])⟩]; simp only [hc1, hl2, It.cells]; repeat' first | exact trivial | refine ⟨.inl rfl, ?_⟩ | refine ⟨.inr rfl, ?_⟩, fun φ h => by simp only [List.mem_cons, List.not_mem_nil, or_false] at h; rcases h with rfl | rfl; exact (.head _); exact (.tail _ (.tail _ (.tail _ (.tail _ (.head _)))))⟩, rfl⟩, by show n - (k + 1) < n - k; omega⟩
          (conv => arg 5; whnf)
          refine meet1F (f := 10) (n := (x0 :: r).length) (v := fun a1 c1 => .tuple #[pv room false a1 (x0 :: r).length c1, .int .i64 6]) (xs := cellsE (x0 :: r)) rfl (by kernel_rfl) (fun β ρ w' hM' => sendT room false pa (x0 :: r).length pc (x0 :: r) w' hps rfl hro x (by rw [List.length_cons]; omega) (x0 :: r).length (x0 :: r) 6 rfl e1 e2 (hM'.at_ (.head _))) (fun y c_y h_y f_y => ?_)
          (conv => arg 5; whnf)
          refine meet1F (f := 12) (n := r.length) (v := fun a1 c1 => .tuple #[pv room false a1 r.length c1, x0.val, .int .i64 0]) (xs := cellsE r) rfl (by kernel_rfl) (fun β ρ w' hM' => takeT room false pa (x0 :: r).length pc (x0 :: r) w' hps rfl hro (by rw [List.length_cons]; omega) r.length r x0 0 rfl rfl rfl rfl (hM'.at_ (.tail _ (.head _)))) (fun z c_z h_z f_z => ?_)
          (conv => arg 5; whnf)
          refine wp_must ⟨by show out.length + 1 ≤ maxLen; unfold maxLen; omega, by show (out.length + 1) * 32 ≤ _; omega⟩ ?_
          (conv => arg 5; whnf)
          refine wp_must ⟨by omega, by omega, hs.some hlt⟩ ?_
          (conv => arg 5; whnf)
          refine readE (l := l) (k := k) (x := x) rfl (.tail _ (.tail _ (.tail _ (.head _)))) hlt (hs.some hlt) hx rfl ?_
          (conv => arg 5; whnf)
          refine meet1F (f := 10) (n := (r ++ [x]).length) (v := fun a1 c1 => .tuple #[pv room false a1 (r ++ [x]).length c1, .int .i64 0]) (xs := cellsE (r ++ [x])) rfl (by kernel_rfl) (fun β ρ w' hM' => sendT room false z r.length c_z r w' h_z rfl hro x (by omega) (r ++ [x]).length (r ++ [x]) 0 rfl e3 e4 (hM'.at_ (.head _))) (fun v c_v h_v f_v => ?_)
          (conv => arg 5; whnf)
          refine wp_must ⟨by omega, by omega⟩ ?_
          (conv => arg 5; whnf)
          refine wp_end ⟨(k + 1, v, c_v, r ++ [x], out ++ [x0]), ⟨hlt, h_v, by show (out ++ [x0]) ++ (r ++ [x]) = l.take (k + 1); rw [htk, ← hoi]; simp, by show ((r ++ [x]).length : Int) ≤ room; rw [hl1]; omega⟩, ⟨by repeat' first | exact trivial | refine ⟨.inl rfl, ?_⟩ | refine ⟨.inr rfl, ?_⟩, ⟨by repeat' first | exact trivial | refine ⟨.inl rfl, ?_⟩ | refine ⟨.inr rfl, ?_⟩, by show LeO (α := Row) _ [some ⟨26, 3, (out ++ [x0]).length, cellsE (out ++ [x0])⟩]; simp only [hc1, hl2, It.cells]; repeat' first | exact trivial | refine ⟨.inl rfl, ?_⟩ | refine ⟨.inr rfl, ?_⟩, fun φ h => by simp only [List.mem_cons, List.not_mem_nil, or_false] at h; rcases h with rfl | rfl; exact (.head _); exact (.tail _ (.tail _ (.tail _ (.tail _ (.head _)))))⟩, rfl⟩, by show n - (k + 1) < n - k; omega⟩
      · obtain rfl : k = n := by simp at g3; omega
        rw [List.take_of_length_le (by omega)] at hoi
        obtain ⟨R, hR⟩ : ∃ R : Nat, room = R := ⟨room.toNat, by omega⟩
        (conv => arg 5; whnf)
        refine loop_rule env_ok.keeps [(8, (.one 0 (.one 1 (.one 2 (.one 3 (.one 4 (.fork 5 (.one 6 (.one 7 (.one 8 (.one 9 (.one 10 (.one 11 (.done))))))) 9 (.one 5 (.one 6 (.one 7 (.one 8 (.one 10 (.one 11 (.done)))))))))))), [])), (12, (line [0, 1, 2, 3, 4, 5, 6, 7, 8, 9, 10], [1]))] (schedQ_ok _ _ (by kernel_rfl)) (fun q : St => q.1 ≤ R + 1 ∧ Sl q.2.1 q.2.2.2.1.length q.2.2.1 ∧ q.2.2.2.2 ++ q.2.2.2.1 = l ∧ q.2.2.2.1.length ≤ R - q.1) (fun q => (⟨[some ([.v (.int .i64 room), .v (.bool false), .v (.slice q.2.1 q.2.2.2.1.length q.2.2.1)], 31)], [some ⟨26, 3, q.2.2.2.2.length, cellsE q.2.2.2.2⟩], [rowF (pt q.2.1 q.2.2.2.1.length) (cellsE q.2.2.2.1), rowF (pt a k) (cellsE l)]⟩, sl 102 [(0, .v (.int .i64 room)), (1, .v (.slice a k c)), (4, .v (.bool false)), (5, .p 0 0), (7, .r 0), (14, .v (.int .i64 (q.1 : Nat)))])) (fun q => R + 1 - q.1) (0, pa, pc, it, out) ⟨Nat.zero_le _, hps, hoi, by show it.length ≤ R - 0; omega⟩ ⟨by repeat' first | exact trivial | refine ⟨.inl rfl, ?_⟩ | refine ⟨.inr rfl, ?_⟩, ⟨by repeat' first | exact trivial | refine ⟨.inl rfl, ?_⟩ | refine ⟨.inr rfl, ?_⟩, by repeat' first | exact trivial | refine ⟨.inl rfl, ?_⟩ | refine ⟨.inr rfl, ?_⟩, fun φ h => by simp only [List.mem_cons, List.not_mem_nil, or_false] at h; rcases h with rfl | rfl; exact .head _; exact .tail _ (.head _)⟩, rfl⟩ ?_
        clear hps hoi hit hlen
        rintro ⟨j, pa, pc, it, out⟩ ⟨hj, hps, hoi, hit⟩
        simp only [] at hj hps hoi hit
        have hlen := congrArg List.length hoi
        rw [List.length_append] at hlen
        (conv => arg 5; whnf)
        refine wp_br (fun g4 => ?_) (fun g4 => ?_)
        · have hjR : j ≤ R := by simp at g4; omega
          cases it with
          | cons x0 r =>
            rw [List.length_cons] at hit hlen
            have hc1 : cellsE (out ++ [x0]) = cellsE out ++ x0.cells := by rw [cellsE_append]; simp [cellsE]
            have hl2 : (out ++ [x0]).length = out.length + 1 := by simp
            (conv => arg 5; whnf)
            refine meet1F (f := 12) (n := r.length) (v := fun a1 c1 => .tuple #[pv room false a1 r.length c1, x0.val, .int .i64 0]) (xs := cellsE r) rfl (by kernel_rfl) (fun β ρ w' hM' => takeT room false pa (x0 :: r).length pc (x0 :: r) w' hps rfl hro (by rw [List.length_cons]; omega) r.length r x0 0 rfl rfl rfl rfl (hM'.at_ (.head _))) (fun z c_z h_z f_z => ?_)
            (conv => arg 5; whnf)
            refine wp_must ⟨by show out.length + 1 ≤ maxLen; unfold maxLen; omega, by show (out.length + 1) * 32 ≤ _; omega⟩ ?_
            (conv => arg 5; whnf)
            refine wp_must ⟨by omega, by omega⟩ ?_
            (conv => arg 5; whnf)
            refine wp_end ⟨(j + 1, z, c_z, r, out ++ [x0]), ⟨by show j + 1 ≤ R + 1; omega, h_z, by show (out ++ [x0]) ++ r = l; rw [← hoi]; simp, by show r.length ≤ R - (j + 1); omega⟩, ⟨by repeat' first | exact trivial | refine ⟨.inl rfl, ?_⟩ | refine ⟨.inr rfl, ?_⟩, ⟨by repeat' first | exact trivial | refine ⟨.inl rfl, ?_⟩ | refine ⟨.inr rfl, ?_⟩, by show LeO (α := Row) _ [some ⟨26, 3, (out ++ [x0]).length, cellsE (out ++ [x0])⟩]; simp only [hc1, hl2, It.cells]; repeat' first | exact trivial | refine ⟨.inl rfl, ?_⟩ | refine ⟨.inr rfl, ?_⟩, fun φ h => by simp only [List.mem_cons, List.not_mem_nil, or_false] at h; rcases h with rfl | rfl; exact (.head _); exact (.tail _ (.tail _ (.head _)))⟩, rfl⟩, by show R + 1 - (j + 1) < R + 1 - j; omega⟩
          | nil =>
            (conv => arg 5; whnf)
            refine meet1F (f := 12) (n := 0) (v := fun a1 c1 => .tuple #[pv room false a1 0 c1, it0.val, .int .i64 7]) (xs := cellsE []) rfl (by kernel_rfl) (fun β ρ w' hM' => takeT room false pa 0 pc [] w' hps rfl hro (by decide) 0 [] it0 7 rfl rfl rfl rfl (hM'.at_ (.head _))) (fun z c_z h_z f_z => ?_)
            (conv => arg 5; whnf)
            refine wp_must ⟨by omega, by omega⟩ ?_
            (conv => arg 5; whnf)
            refine wp_end ⟨(j + 1, z, c_z, [], out), ⟨by show j + 1 ≤ R + 1; omega, h_z, hoi, Nat.zero_le _⟩, ⟨by repeat' first | exact trivial | refine ⟨.inl rfl, ?_⟩ | refine ⟨.inr rfl, ?_⟩, ⟨by repeat' first | exact trivial | refine ⟨.inl rfl, ?_⟩ | refine ⟨.inr rfl, ?_⟩, by repeat' first | exact trivial | refine ⟨.inl rfl, ?_⟩ | refine ⟨.inr rfl, ?_⟩, fun φ h => by simp only [List.mem_cons, List.not_mem_nil, or_false] at h; rcases h with rfl | rfl; exact (.head _); exact (.tail _ (.tail _ (.head _)))⟩, rfl⟩, by show R + 1 - (j + 1) < R + 1 - j; omega⟩
        · have hjR : j = R + 1 := by simp at g4; omega
          obtain rfl : it = [] := List.eq_nil_of_length_eq_zero (by omega)
          rw [List.append_nil] at hoi
          subst hoi
          (conv => arg 5; whnf)
          refine wp_share fun u c_u h_u f_u => ?_
          (conv => arg 5; whnf)
          refine meetc (f := 18) (v := .bool true) rfl (by kernel_rfl) (fun β ρ w' hM' => (by have hs9 := hs; have hr9 := (hM'.at_ (.tail _ (.tail _ (.head _)))); rw [hn] at hs9 hr9 ⊢; exact same 0 false u out.length c_u out a c w' h_u rfl ((hM'.at_ (.head _)).pt _) hs9 hr9)) ?_
          (conv => arg 5; whnf)
          refine meetc (f := 8) (v := .bool true) rfl (by kernel_rfl) (fun β ρ w' hM' => live w') ?_
          (conv => arg 5; whnf)
          exact wp_back fun β ρ w' hM' => ⟨rfl, hM'.below⟩
    · (conv => arg 5; whnf)
      refine meetc (f := 8) (v := .bool true) rfl (by kernel_rfl) (fun β ρ w' hM' => live w') ?_
      (conv => arg 5; whnf)
      exact wp_back fun β ρ w' hM' => ⟨rfl, hM'.below⟩
  · have hN : newV room = (0, 1) := if_neg hr
    (conv => arg 5; whnf)
    refine meetc (f := 16) (v := .tuple #[pv 0 false none 0 0, .int .i64 1]) rfl (by kernel_rfl) (fun β ρ w' hM' => newT room 0 1 w' hN) ?_
    (conv => arg 5; whnf)
    refine wp_g0 (fun _ => ?_) (fun _ => ?_)
    · (conv => arg 5; whnf)
      refine meetc (f := 8) (v := .bool true) rfl (by kernel_rfl) (fun β ρ w' hM' => live w') ?_
      (conv => arg 5; whnf)
      exact wp_back fun β ρ w' hM' => ⟨rfl, hM'.below⟩
    · (conv => arg 5; whnf)
      refine meetc (f := 8) (v := .bool true) rfl (by kernel_rfl) (fun β ρ w' hM' => live w') ?_
      (conv => arg 5; whnf)
      exact wp_back fun β ρ w' hM' => ⟨rfl, hM'.below⟩
end Go.Proofs.Ytoaohkllkooibaa.pipeThrough
