/- The walk of hopperlaw11.ShardJoins. -/
import Derived.Test.YtjhopkamfeadjaaDoorShAll
namespace Go.Proofs.YtjhopkamfeadjaaDoor.shardJoins
open Go.RowKit Sx txn queue greedy shard
set_option linter.unusedVariables false
set_option linter.unusedSimpArgs false
/-- Few shards, of few accounts, of little. -/
theorem shs_few {w : World} {a n c S} (h : ShsIn w a n c S) (hf : ∀ q ∈ S, (fewA q.L && decide ((q.n : Int) ≤ 20)) = true) : Shs w a n c S ∧ (∀ x ∈ allS S, Fits x.s) ∧ (∀ x ∈ allS S, x.l.length ≤ 20) ∧ (allS S).length ≤ S.length * 20 := by
  refine ⟨⟨h.1, h.2.1, h.2.2.1, fun q hq => ?_⟩, fun x hx => ?_, fun x hx => ?_, ?_⟩
  · have h1 := hf q hq
    simp only [Bool.and_eq_true] at h1
    exact ((h.2.2.2 q hq).1.few h1.1).1
  · obtain ⟨q, hq, hx⟩ := List.mem_flatMap.1 hx
    exact ((h.2.2.2 q hq).1.2.2.2 x hx).2.2.2.2.1
  · obtain ⟨q, hq, hx⟩ := List.mem_flatMap.1 hx
    have h1 := hf q hq
    simp only [Bool.and_eq_true] at h1
    exact ((h.2.2.2 q hq).1.few h1.1).2 x hx
  · have H : ∀ (S : List Shd), (∀ q ∈ S, q.L.length ≤ 20) → (allS S).length ≤ S.length * 20 := by
      intro S
      induction S with
      | nil => intro _; simp [allS]
      | cons q S ih =>
        intro h
        have h1 := h q (List.mem_cons_self ..)
        have h2 := ih fun p hp => h p (List.mem_cons_of_mem _ hp)
        unfold allS at *
        rw [List.flatMap_cons, List.length_append, List.length_cons]
        omega
    refine H S fun q hq => ?_
    have h1 := hf q hq
    simp only [Bool.and_eq_true, decide_eq_true_eq] at h1
    have := (h.2.2.2 q hq).1.2.1
    omega
set_option maxHeartbeats 4000000 in
set_option maxRecDepth 100000 in
theorem walk (a : Option Addr) (n c : Nat) (S : List Shd) (w : World) (hM : Most w) (hI : ShsIn w a n c S) :
    Calls Tryd.prog 3 (List.toArray [.slice a n c]) w fun e w' => e = .returned (.bool true) ∧ Below w.heap.size w w' := by
  have hs := hI.1
  have hn := hI.2.1
  have hn63 := hs.le
  refine calls_of_exec Sxs.env_ok.keeps Tryd.func3 rfl [] (schedQ_ok _ _ (by kernel_rfl)) (shsF a n S) hI.facts ?_
  (conv => arg 5; whnf)
  refine loop_rule Sxs.env_ok.keeps [] (schedQ_ok _ _ (by kernel_rfl)) (fun k : Nat => k ≤ n ∧ (0 < k → n ≤ 8) ∧ ∀ q ∈ S.take k, (fewA q.L && decide ((q.n : Int) ≤ 20)) = true) (fun k => (⟨[], [], shsF a n S⟩, [.v (.slice a n c), .any, .any, .v (.int .i64 k), .any, .any, .any, .any, .any, .any, .any, .any, .any, .any, .any, .any, .any, .any, .any, .any, .any, .any, .any, .any, .any, .any, .any, .any, .any, .any, .any, .any, .any, .any, .any, .any, .any, .any, .any, .any, .any, .any, .any, .any, .any, .any, .any, .any, .any, .any, .any, .any, .any, .any, .any, .any, .any, .any, .any, .any, .any, .any, .any, .any, .any, .any])) (fun k => n - k) 0 ⟨Nat.zero_le _, by omega, by simp⟩ ⟨by repeat' first | exact trivial | refine ⟨.inl rfl, ?_⟩ | refine ⟨.inr rfl, ?_⟩, ⟨by repeat' first | exact trivial | refine ⟨.inl rfl, ?_⟩ | refine ⟨.inr rfl, ?_⟩, by repeat' first | exact trivial | refine ⟨.inl rfl, ?_⟩ | refine ⟨.inr rfl, ?_⟩, fun _ h => h⟩, rfl⟩ ?_
  rintro k ⟨hk, hk8, hkf⟩
  (conv => arg 5; whnf)
  refine wp_br (fun h1 => ?_) (fun h1 => ?_)
  · have hlt : k < n := by have h3 := of_decide_eq_true (show decide ((k : Int) < (n : Int)) = true from h1); omega
    obtain ⟨q, hq⟩ : ∃ q, S[k]? = some q := ⟨_, List.getElem?_eq_getElem (by omega)⟩
    have hqm : q ∈ S := List.mem_of_getElem? hq
    have FW := fun w' (hM' : AccsIn w' q.a q.n q.c q.L) => fewW q.L 20 q.a q.n q.c w' hM'
    have htk : S.take (k + 1) = S.take k ++ [q] := by rw [List.take_add_one, hq]; rfl
    generalize hfb : (fewA q.L && decide ((q.n : Int) ≤ 20)) = fb at *
    (conv => arg 5; whnf)
    refine wp_must ⟨by omega, by show (k : Int) < (n : Int); omega, hs.some hlt⟩ ?_
    (conv => arg 5; whnf)
    refine readF (sz := 2) (k := k) (f := 0) (.slice q.a q.n q.c) rfl (.head _) hlt (hs.some hlt) (cellsS_at hq 0 _ rfl) rfl ?_
    (conv => arg 5; whnf)
    refine meetc (f := 7) (v := .bool fb) rfl (by kernel_rfl) (fun β ρ w' hM' => FW w' ((hI.mem hM' fun φ hφ => hφ).2.2.2 q hqm).1) ?_
    cases fb with
    | false =>
      (conv => arg 5; whnf)
      refine meetc (f := 8) (v := .bool true) rfl (by kernel_rfl) (fun β ρ w' hM' => shard.live w' (hM.later hM'.below)) ?_
      (conv => arg 5; whnf)
      exact wp_back fun β ρ w' hM' => ⟨rfl, hM'.below⟩
    | true =>
      (conv => arg 5; whnf)
      refine wp_br (fun h2 => ?_) (fun h2 => ?_)
      · skip
        (conv => arg 5; whnf)
        refine meetc (f := 8) (v := .bool true) rfl (by kernel_rfl) (fun β ρ w' hM' => shard.live w' (hM.later hM'.below)) ?_
        (conv => arg 5; whnf)
        exact wp_back fun β ρ w' hM' => ⟨rfl, hM'.below⟩
      · have h8 : n ≤ 8 := by have h3 : ¬ (8 : Int) < (n : Int) := of_decide_eq_false h2; omega
        (conv => arg 5; whnf)
        refine wp_must ⟨by show -9223372036854775808 ≤ (k : Int) + 1; omega, by show (k : Int) + 1 ≤ 9223372036854775807; omega⟩ ?_
        (conv => arg 5; whnf)
        refine wp_end ⟨k + 1, ⟨hlt, fun _ => h8, fun p hp => ?_⟩, ⟨by repeat' first | exact trivial | refine ⟨.inl rfl, ?_⟩ | refine ⟨.inr rfl, ?_⟩, ⟨by repeat' first | exact trivial | refine ⟨.inl rfl, ?_⟩ | refine ⟨.inr rfl, ?_⟩, by repeat' first | exact trivial | refine ⟨.inl rfl, ?_⟩ | refine ⟨.inr rfl, ?_⟩, fun _ h => h⟩, rfl⟩, by show n - (k + 1) < n - k; omega⟩
        rw [htk] at hp
        rcases List.mem_append.1 hp with hp | hp
        · exact hkf p hp
        · obtain rfl := List.mem_singleton.1 hp; exact hfb
  · have hkn : k = n := by have h3 := of_decide_eq_false (show decide ((k : Int) < (n : Int)) = false from h1); omega
    have e : S.take k = S := List.take_of_length_le (by omega)
    rw [e] at hkf
    obtain ⟨hS, hfits, hl20, hlen⟩ := shs_few hI hkf
    have hn8 : S.length ≤ 8 := by rcases Nat.eq_zero_or_pos k with h0 | h0; omega; have := hk8 h0; omega
    have hall : (allS S).length ≤ 100000 := by omega
    clear h1 hk hk8 hkf e hkn
    (conv => arg 5; whnf)
    refine meet1F (f := 10) (n := n) (v := fun a1 c1 => .slice a1 n c1) (xs := cellsS S) rfl (by kernel_rfl) (fun β ρ w' hM' => own S a n c w' hs hn (hM'.at_ (.head _)) (by omega)) (fun p c_p h_p f_p => ?_)
    (conv => arg 5; whnf)
    refine meetAs (f := 9) ((srt (fun x : Ac => x.s) (allS S)).map acP) rfl (by kernel_rfl) (fun β ρ w' hM' => join S p n c_p w' ⟨h_p, hn, hM'.at_ (.head _), fun q hq => (Mem.shs hS hM' fun φ hφ => .tail _ hφ).2.2.2 q hq⟩ (by omega) hall hfits) (fun Ls j c_j hLs hf h_j f_j => ?_)
    have hLl : Ls.length = (allS S).length := by have := congrArg List.length hLs; rw [List.length_map, List.length_map, srt_len] at this; exact this
    have hla : lastsV Ls = lastsV (srt (fun x : Ac => x.s) (allS S)) := by
      have h5 := congrArg (List.map fun p : PA => p.2.2) hLs
      rw [List.map_map, List.map_map] at h5
      unfold lastsV
      rw [show (Ls.map fun x => x.l) = (srt (fun x : Ac => x.s) (allS S)).map (fun x => x.l) from h5]
    have hwo : worstV (srt (fun x : Ac => x.s) (allS S)) = worstV Ls := by unfold worstV; rw [hla]
    have hfit2 : ∀ x ∈ srt (fun x : Ac => x.s) (allS S), x.fit ∧ acF x ∈ shsF a n S := fun x hx => by
      have hx2 := (srt_perm (fun x : Ac => x.s) (allS S)).mem_iff.1 hx
      exact ⟨(acs_all hS x hx2).1, acF_all hx2⟩
    have hsl := srt_len (fun x : Ac => x.s) (allS S)
    have WO := fun w hM hA => worst Ls j Ls.length c_j w hM hA (by omega)
    have RWO := fun u cu w hM hA => rworst (srt (fun x : Ac => x.s) (allS S)) u (srt (fun x : Ac => x.s) (allS S)).length cu w hM hA (by omega)
    have RJ := fun w hA => rjoin S a n c w hA (by omega) hall
    have LA := fun w hA => lasts Ls j Ls.length c_j w hA (by omega)
    have RLA := fun w hA => rlasts Ls j Ls.length c_j w hA (by omega)
    rw [hwo] at RWO
    have RACC := fun u cu w h1 h2 => raccounts Ls (srt (fun x : Ac => x.s) (allS S)) hLs j Ls.length c_j u (srt (fun x : Ac => x.s) (allS S)).length cu w h1 h2
    generalize srt (fun x : Ac => x.s) (allS S) = R at *
    generalize worstV Ls = wv at *
    generalize lastsV Ls = lv at *
    have hJ0 : ∀ φ ∈ acsF j Ls.length Ls, φ ∈ acsF j Ls.length Ls ++ (rowF (pt p n) (cellsS S) :: shsF a n S) := fun φ hφ => List.mem_append_left _ hφ
    have hS0 : ∀ φ ∈ shsF a n S, φ ∈ acsF j Ls.length Ls ++ (rowF (pt p n) (cellsS S) :: shsF a n S) := fun φ hφ => List.mem_append_right _ (.tail _ hφ)
    (conv => arg 5; whnf)
    refine meetc (f := 11) (v := .tuple #[wv.1.val, .bool wv.2]) rfl (by kernel_rfl) (fun β ρ w' hM' => WO w' (hM.later hM'.below) (acs_of hM' h_j rfl hf fun φ hφ => hJ0 φ hφ)) ?_
    (conv => arg 5; whnf)
    refine meet1F (f := 13) (n := R.length) (v := fun a1 c1 => .slice a1 R.length c1) (xs := cellsA R) rfl (by kernel_rfl) (fun β ρ w' hM' => RJ w' (Mem.shs hS hM' fun φ hφ => hS0 φ hφ)) (fun u c_u h_u f_u => ?_)
    (conv => arg 5; whnf)
    refine meetc (f := 12) (v := .tuple #[wv.1.val, .bool wv.2]) rfl (by kernel_rfl) (fun β ρ w' hM' => RWO u c_u w' (hM.later hM'.below) ⟨h_u, rfl, hM'.at_ (.head _), fun x hx => ⟨(hfit2 x hx).1, hM'.at_ (a := pt x.a x.n) (xs := cellsL x.l) (.tail _ (hS0 _ (hfit2 x hx).2))⟩⟩) ?_
    (conv => arg 5; whnf)
    refine meet1F (f := 13) (n := R.length) (v := fun a1 c1 => .slice a1 R.length c1) (xs := cellsA R) rfl (by kernel_rfl) (fun β ρ w' hM' => RJ w' (Mem.shs hS hM' fun φ hφ => .tail _ (hS0 φ hφ))) (fun v c_v h_v f_v => ?_)
    (conv => arg 5; whnf)
    refine meetc (f := 14) (v := .bool true) rfl (by kernel_rfl) (fun β ρ w' hM' => RACC v c_v w' (acs_of hM' h_j rfl hf fun φ hφ => .tail _ (.tail _ (hJ0 φ hφ))) ⟨h_v, rfl, hM'.at_ (.head _), fun x hx => ⟨(hfit2 x hx).1, hM'.at_ (a := pt x.a x.n) (xs := cellsL x.l) (.tail _ (.tail _ (hS0 _ (hfit2 x hx).2)))⟩⟩) ?_
    (conv => arg 5; whnf)
    refine wp_prim (.bool true) (fun w => eq_same' _ _ wv.1 w) ?_
    (conv => arg 5; whnf)
    refine wp_prim (.bool true) (fun w => by cases wv.2 <;> rfl) ?_
    (conv => arg 5; whnf)
    refine meet1F (f := 16) (n := lv.length) (v := fun a1 c1 => .slice a1 lv.length c1) (xs := cellsL lv) rfl (by kernel_rfl) (fun β ρ w' hM' => LA w' (acs_of hM' h_j rfl hf fun φ hφ => .tail _ (.tail _ (hJ0 φ hφ)))) (fun x c_x h_x f_x => ?_)
    (conv => arg 5; whnf)
    refine meet1F (f := 17) (n := lv.length) (v := fun a1 c1 => .slice a1 lv.length c1) (xs := cellsL lv) rfl (by kernel_rfl) (fun β ρ w' hM' => RLA w' (acs_of hM' h_j rfl hf fun φ hφ => .tail _ (.tail _ (.tail _ (hJ0 φ hφ))))) (fun y c_y h_y f_y => ?_)
    (conv => arg 5; whnf)
    refine meetc (f := 15) (v := .bool true) rfl (by kernel_rfl) (fun β ρ w' hM' => rtxs lv x lv.length c_x y c_y w' h_x rfl (hM'.at_ (.tail _ (.head _))) h_y (hM'.at_ (.head _))) ?_
    (conv => arg 5; whnf)
    refine meetc (f := 8) (v := .bool true) rfl (by kernel_rfl) (fun β ρ w' hM' => shard.live w' (hM.later hM'.below)) ?_
    (conv => arg 5; whnf)
    exact wp_back fun β ρ w' hM' => ⟨rfl, hM'.below⟩
end Go.Proofs.YtjhopkamfeadjaaDoor.shardJoins
