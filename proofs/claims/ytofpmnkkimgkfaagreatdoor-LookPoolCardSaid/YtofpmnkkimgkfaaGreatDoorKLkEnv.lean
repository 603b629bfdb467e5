/- The table of types that plans know. -/
import Derived.Test.YtofpmnkkimgkfaaGreatDoorKShEnv
import Derived.Test.YtofpmnkkimgkfaaGreatDoorChecked
set_option linter.all false
set_option maxHeartbeats 4000000
set_option maxRecDepth 100000
namespace Go.Proofs.YtofpmnkkimgkfaaGreatDoor.Sxk
open Go.RowKit Sx
def env0 : Sx.Env := {
 zero := [(82, [.v (.bool false), .v (.int .i64 0), .v (.int .i64 0), .v (.int .i64 0), .v (.slice none 0 0), .v (.slice none 0 0), .v (.int .i64 0), .v (.int .i64 0), .v (.int .i64 0), .v (.int .i64 0), .v (.int .i64 0), .v (.int .i64 0), .v (.string ByteArray.empty), .v (.slice none 0 0), .v (.int .i64 0)]), (111, [.v (.bool false), .v (.int .i64 0), .v (.int .i64 0), .v (.int .i64 0), .v (.slice none 0 0), .v (.slice none 0 0), .v (.int .i64 0), .v (.int .i64 0), .v (.int .i64 0), .v (.int .i64 0), .v (.int .i64 0), .v (.int .i64 0), .v (.string ByteArray.empty), .v (.slice none 0 0), .v (.int .i64 0)])]
 agg := [(82, some 15), (111, some 15)]
 off := [((82, 0), 0), ((82, 1), 1), ((82, 2), 2), ((82, 3), 5), ((82, 4), 6), ((111, 0), 0), ((111, 1), 1), ((111, 2), 2), ((111, 3), 5), ((111, 4), 6)]
 row := []
 str := [(82, ([.v (.bool false), .v (.int .i64 0), .v (.int .i64 0), .v (.int .i64 0), .v (.slice none 0 0), .v (.slice none 0 0), .v (.int .i64 0), .v (.int .i64 0), .v (.int .i64 0), .v (.int .i64 0), .v (.int .i64 0), .v (.int .i64 0), .v (.string ByteArray.empty), .v (.slice none 0 0), .v (.int .i64 0)], [(0, 1), (1, 1), (2, 3), (5, 1), (6, 9)])), (111, ([.v (.bool false), .v (.int .i64 0), .v (.int .i64 0), .v (.int .i64 0), .v (.slice none 0 0), .v (.slice none 0 0), .v (.int .i64 0), .v (.int .i64 0), .v (.int .i64 0), .v (.int .i64 0), .v (.int .i64 0), .v (.int .i64 0), .v (.string ByteArray.empty), .v (.slice none 0 0), .v (.int .i64 0)], [(0, 1), (1, 1), (2, 3), (5, 1), (6, 9)]))]
 strs := []
 ints := []
 how := []
 meth := []
 opens := []
 arr := [] }
theorem lk_app {α β : Type} [BEq α] : ∀ {l r : List (α × β)} {x : α} {y : β}, lk (l ++ r) x = some y → lk l x = some y ∨ lk r x = some y
 | [], r, x, y, h => .inr h
 | (k, v) :: l, r, x, y, h => by
  simp only [List.cons_append, lk] at h ⊢
  cases hb : (k == x) with
  | true => rw [hb] at h; exact .inl h
  | false => rw [hb] at h; exact lk_app (l := l) h
abbrev app (A B : Sx.Env) : Sx.Env := { A with zero := A.zero ++ B.zero, agg := A.agg ++ B.agg, off := A.off ++ B.off, row := A.row ++ B.row, str := A.str ++ B.str, strs := A.strs ++ B.strs, ints := A.ints ++ B.ints, meth := A.meth ++ B.meth, arr := A.arr ++ B.arr }
theorem app_ok {A B : Sx.Env} {P : Program} (a : Sx.Env.Ok A P) (b : Sx.Env.Ok B P) : Sx.Env.Ok (app A B) P where
 zero := fun e cs h => (lk_app h).elim (a.zero e cs) (b.zero e cs)
 agg1 := fun ty h => (lk_app h).elim (a.agg1 ty) (b.agg1 ty)
 aggN := fun ty n h => (lk_app h).elim (a.aggN ty n) (b.aggN ty n)
 off := fun s f d h => (lk_app h).elim (a.off s f d) (b.off s f d)
 row := fun ty e s y h => (lk_app h).elim (a.row ty e s y) (b.row ty e s y)
 str := fun ty cs pl h => (lk_app h).elim (a.str ty cs pl) (b.str ty cs pl)
 strs := fun ty u h => (lk_app h).elim (a.strs ty u) (b.strs ty u)
 ints := fun ty u h => (lk_app h).elim (a.ints ty u) (b.ints ty u)
 size := fun ty n h => (lk_app h).elim (a.size ty n) (b.size ty n)
 mixed := a.mixed
 row1 := fun ty e s y h => (lk_app h).elim (a.row1 ty e s y) (b.row1 ty e s y)
 meth := fun ty n g h => (lk_app h).elim (a.meth ty n g) (b.meth ty n g)
 arr := fun ty n s h => (lk_app h).elim (a.arr ty n s) (b.arr ty n s)
theorem env0_ok : Sx.Env.Ok env0 Tryz.prog where
 zero := by
  intro e cs h
  have hm := lk_mem h
  simp only [env0, List.mem_cons, Prod.mk.injEq, List.not_mem_nil, or_false] at hm
  rcases hm with ⟨rfl, rfl⟩ | ⟨rfl, rfl⟩
  ·exact ⟨.agg #[.bool false, .int .i64 0, .int .i64 0, .int .i64 0, .slice none 0 0, .slice none 0 0, .int .i64 0, .int .i64 0, .int .i64 0, .int .i64 0, .int .i64 0, .int .i64 0, .string ByteArray.empty, .slice none 0 0, .int .i64 0], by funext w; kernel_rfl, by exact Rels.vals (β := []) (ρ := []) [.bool false, .int .i64 0, .int .i64 0, .int .i64 0, .slice none 0 0, .slice none 0 0, .int .i64 0, .int .i64 0, .int .i64 0, .int .i64 0, .int .i64 0, .int .i64 0, .string ByteArray.empty, .slice none 0 0, .int .i64 0], by simp [Value.cells, Value.oneCell']⟩
  ·exact ⟨.agg #[.bool false, .int .i64 0, .int .i64 0, .int .i64 0, .slice none 0 0, .slice none 0 0, .int .i64 0, .int .i64 0, .int .i64 0, .int .i64 0, .int .i64 0, .int .i64 0, .string ByteArray.empty, .slice none 0 0, .int .i64 0], by funext w; kernel_rfl, by exact Rels.vals (β := []) (ρ := []) [.bool false, .int .i64 0, .int .i64 0, .int .i64 0, .slice none 0 0, .slice none 0 0, .int .i64 0, .int .i64 0, .int .i64 0, .int .i64 0, .int .i64 0, .int .i64 0, .string ByteArray.empty, .slice none 0 0, .int .i64 0], by simp [Value.cells, Value.oneCell']⟩
 agg1 := by
  intro ty h
  have hm := lk_mem h
  simp only [env0, List.mem_cons, Prod.mk.injEq, List.not_mem_nil, or_false] at hm
  rcases hm with ⟨rfl, hn⟩ | ⟨rfl, hn⟩
  ·cases hn
  ·cases hn
 aggN := by
  intro ty n h
  have hm := lk_mem h
  simp only [env0, List.mem_cons, Prod.mk.injEq, List.not_mem_nil, or_false] at hm
  rcases hm with ⟨rfl, hn⟩ | ⟨rfl, hn⟩
  ·(cases hn; exact load_agg (fun w => by kernel_rfl) (by kernel_rfl))
  ·(cases hn; exact load_agg (fun w => by kernel_rfl) (by kernel_rfl))
 off := by
  intro s f d h
  have hm := lk_mem h
  simp only [env0, List.mem_cons, Prod.mk.injEq, List.not_mem_nil, or_false] at hm
  rcases hm with ⟨⟨rfl, rfl⟩, rfl⟩ | ⟨⟨rfl, rfl⟩, rfl⟩ | ⟨⟨rfl, rfl⟩, rfl⟩ | ⟨⟨rfl, rfl⟩, rfl⟩ | ⟨⟨rfl, rfl⟩, rfl⟩ | ⟨⟨rfl, rfl⟩, rfl⟩ | ⟨⟨rfl, rfl⟩, rfl⟩ | ⟨⟨rfl, rfl⟩, rfl⟩ | ⟨⟨rfl, rfl⟩, rfl⟩ | ⟨⟨rfl, rfl⟩, rfl⟩
  ·exact fun a w => by kernel_rfl
  ·exact fun a w => by kernel_rfl
  ·exact fun a w => by kernel_rfl
  ·exact fun a w => by kernel_rfl
  ·exact fun a w => by kernel_rfl
  ·exact fun a w => by kernel_rfl
  ·exact fun a w => by kernel_rfl
  ·exact fun a w => by kernel_rfl
  ·exact fun a w => by kernel_rfl
  ·exact fun a w => by kernel_rfl
 row := by intro ty e size bytes h; exact absurd h (by simp [env0, lk])
 str := by
  intro ty cs places h
  have hm := lk_mem h
  simp only [env0, List.mem_cons, Prod.mk.injEq, List.not_mem_nil, or_false] at hm
  rcases hm with ⟨rfl, rfl, rfl⟩ | ⟨rfl, rfl, rfl⟩
  ·exact ⟨[.bool false, .int .i64 0, .int .i64 0, .int .i64 0, .slice none 0 0, .slice none 0 0, .int .i64 0, .int .i64 0, .int .i64 0, .int .i64 0, .int .i64 0, .int .i64 0, .string ByteArray.empty, .slice none 0 0, .int .i64 0], Rels.vals (β := []) (ρ := []) [.bool false, .int .i64 0, .int .i64 0, .int .i64 0, .slice none 0 0, .slice none 0 0, .int .i64 0, .int .i64 0, .int .i64 0, .int .i64 0, .int .i64 0, .int .i64 0, .string ByteArray.empty, .slice none 0 0, .int .i64 0], built Tryz.underlying82 (fun w => by kernel_rfl) (fun w => by kernel_rfl)⟩
  ·exact ⟨[.bool false, .int .i64 0, .int .i64 0, .int .i64 0, .slice none 0 0, .slice none 0 0, .int .i64 0, .int .i64 0, .int .i64 0, .int .i64 0, .int .i64 0, .int .i64 0, .string ByteArray.empty, .slice none 0 0, .int .i64 0], Rels.vals (β := []) (ρ := []) [.bool false, .int .i64 0, .int .i64 0, .int .i64 0, .slice none 0 0, .slice none 0 0, .int .i64 0, .int .i64 0, .int .i64 0, .int .i64 0, .int .i64 0, .int .i64 0, .string ByteArray.empty, .slice none 0 0, .int .i64 0], built Tryz.underlying111 (fun w => by kernel_rfl) (fun w => by kernel_rfl)⟩
 strs := by intro ty u h; exact absurd h (by simp [env0, lk])
 ints := by intro ty u h; exact absurd h (by simp [env0, lk])
 size := by
  intro ty n h
  have hm := lk_mem h
  simp only [env0, List.mem_cons, Prod.mk.injEq, List.not_mem_nil, or_false] at hm
  rcases hm with ⟨rfl, rfl⟩ | ⟨rfl, rfl⟩
  ·exact info_size (by kernel_rfl)
  ·exact info_size (by kernel_rfl)
 mixed := by kernel_rfl
 row1 := by intro ty e size bytes h; exact absurd h (by simp [env0, lk])
 meth := by intro ty n g h; cases h
 arr := by intro ty n size h; cases h
def env : Sx.Env := app Sxs.env env0
theorem env_ok : Sx.Env.Ok env Tryz.prog := app_ok Sxs.env_ok env0_ok
end Go.Proofs.YtofpmnkkimgkfaaGreatDoor.Sxk
