/- Layer 17 (evict): how evictors are opened. -/
import Derived.Test.YtfhgkkcpkcjbmaaGreatDoorKTkRR
import Derived.Test.YtfhgkkcpkcjbmaaGreatDoorKEvAA
set_option linter.all false
set_option maxHeartbeats 4000000
set_option maxRecDepth 100000
namespace Go.Proofs.YtfhgkkcpkcjbmaaGreatDoor.evict
open Go.RowKit Go.ChangeShapes Go.WideShapes Sx txn queue greedy shard pool Go.Proofs.YtfhgkkcpkcjbmaaGreatDoor.look lock Go.Proofs.YtfhgkkcpkcjbmaaGreatDoor.task
abbrev shEv:List Sh:=[.int,.flat shTx,.int]
abbrev shRq:List Sh:=[.int,.flat shTx,.row (.flat shTx),.int]
abbrev shPl:List Sh:=[.bool,.int,.flat [.int,.int,.row (.flat shTx)],.row (.flat shEv),.flat shRq]
theorem typed_bo:Typed Tryz.prog 4 .bool:=.bool Tryz.underlying4 (by kernel_rfl)
theorem typed_er:Typed Tryz.prog 36 .int:=.int Tryz.underlying36 (by kernel_rfl)
theorem typed_ev:Typed Tryz.prog 122 (.flat shEv):=.struct Tryz.underlying122 (.cons rfl typed_int (.cons rfl typed_tx (.cons rfl typed_int .nil))) (by kernel_rfl)
theorem typed_evs:Typed Tryz.prog 35 (.row (.flat shEv)):=.row Tryz.underlying35 (by kernel_rfl) typed_ev (by decide)
theorem typed_rq:Typed Tryz.prog 62 (.flat shRq):=.struct Tryz.underlying62 (.cons rfl typed_er (.cons rfl typed_tx (.cons rfl typed_txs (.cons rfl typed_int .nil)))) (by kernel_rfl)
theorem typed_pl:Typed Tryz.prog 64 (.flat shPl):=.struct Tryz.underlying64 (.cons rfl typed_bo (.cons rfl typed_int (.cons rfl typed_acc (.cons rfl typed_evs (.cons rfl typed_rq .nil))))) (by kernel_rfl)
theorem typed_ek:Typed Tryz.prog 66 (.flat [.int,.int,.flat shTx,.flat shPl]):=.struct Tryz.underlying66 (.cons rfl typed_int (.cons rfl typed_int (.cons rfl typed_tx (.cons rfl typed_pl .nil)))) (by kernel_rfl)
theorem typed_thr:Typed Tryz.prog 76 (.flat [.int,.int,.int]):=.array (n:=3) Tryz.underlying76 typed_int (by kernel_rfl)
theorem okWide_arr {P:Program} {r:Reach} {base n:Nat} {w:World} {t e:TypeId} {v:Value} (ht:P.underlying t=some (.array n e)) (h:Value.okWide P w r base t v):∃cs,v=.agg cs∧cs.size=P.cellsOf t:=by
 simp only [Value.okWide,ht] at h
 obtain ⟨cs,h1,h2,_⟩:=h
 exact ⟨cs,h1,h2⟩
theorem LiesN.evs {w:World}:∀{vs:List Value} {ds:List D},LiesN w (.flat shEv) vs ds→∃(l:List Ev) (N:List Int),vs=cellsN N l∧ds.length=l.length
 | _,_,.nil=>⟨[],[],rfl,rfl⟩
 | _,_,.cons h hl=>by
  obtain ⟨l,N,rfl,hL⟩:=LiesN.evs hl
  cases h with
  | flat h=>
  cases h with
  | cons h1 h=>
  cases h with
  | cons h2 h=>
  cases h with
  | cons h3 h=>
  cases h
  cases h1 with
  | int f1=>
  cases h2 with
  | flat h2=>
  obtain ⟨x,rfl,hx⟩:=lies_tx h2
  cases h3 with
  | int f3=>exact ⟨(_,x)::l,_::N,rfl,by simp [hL]⟩
def EkIn (w:World) (y:Pn) (v:Ek):Prop:=y.ok v.P∧(∀φ∈y.fsN v,∀g,φ.g=some g→∃o,w.heap[g]?=some o∧φ.holds o)∧∀z∈v.P.l,z.d.size≤maxLen
theorem lies_ek {w:World} {vs:List Value} {ds:List D} (h:LiesL w [.int,.int,.flat shTx,.flat shPl] vs ds):∃(v:Ek) (y:Pn),.agg vs.toArray=ekV v y∧EkIn w y v:=by
 cases h with
 | cons h0 h=>
 cases h with
 | cons h1 h=>
 cases h with
 | cons h2 h=>
 cases h with
 | cons h3 h=>
 cases h
 cases h0 with
 | int f0=>
 cases h1 with
 | int f1=>
 cases h2 with
 | flat h2=>
 obtain ⟨t,rfl,ht⟩:=lies_tx h2
 cases h3 with
 | flat h=>
 cases h with
 | cons p0 h=>
 cases h with
 | cons p1 h=>
 cases h with
 | cons p2 h=>
 cases h with
 | cons p3 h=>
 cases h with
 | cons p4 h=>
 cases h
 cases p0 with
 | bool=>
 cases p1 with
 | int g1=>
 cases p2 with
 | flat h=>
 cases h with
 | cons a0 h=>
 cases h with
 | cons a1 h=>
 cases h with
 | cons a2 h=>
 cases h
 cases a0 with
 | int b0=>
 cases a1 with
 | int b1=>
 cases a2 with
 | row s1 n1 l1 r1=>
 obtain ⟨l,rfl,k1,k2⟩:=LiesN.txs l1
 cases p3 with
 | row s2 n2 l2 r2=>
 obtain ⟨ev,N,rfl,k3⟩:=LiesN.evs l2
 cases p4 with
 | flat h=>
 cases h with
 | cons q0 h=>
 cases h with
 | cons q1 h=>
 cases h with
 | cons q2 h=>
 cases h with
 | cons q3 h=>
 cases h
 cases q0 with
 | int e0=>
 cases q1 with
 | flat q1=>
 obtain ⟨t2,rfl,ht2⟩:=lies_tx q1
 cases q2 with
 | row s3 n3 l3 r3=>
 obtain ⟨l2,rfl,k4,k5⟩:=LiesN.txs l3
 cases q3 with
 | int e3=>
 rw [k1] at n1
 rw [k3] at n2
 rw [k4] at n3
 subst n1 n2 n3
 refine ⟨⟨_,_,t,⟨_,_,_,_,l,ev,⟨_,t2,l2,_⟩⟩,N⟩,⟨_,_,_,_,_,_⟩,rfl,⟨s1,s2,s3⟩,fun φ hφ=>?_,fun z hz=>(k2 z hz).2.2.2.2.2⟩
 rcases List.mem_cons.1 hφ with rfl | hφ
 ·exact r1
 ·rcases List.mem_cons.1 hφ with rfl | hφ
  ·rw [Ek.cs_eq];exact r2
  ·rw [List.mem_singleton] at hφ
   subst hφ
   exact r3
section
variable {H : Type} {enc : TypeId × Value → H} {W : World} {r : Reach} {b0 base : Nat} {spare : Nat → Bool} {held : Bool} {v : Value} {d : DataW H} {p : List MemPlace}
theorem open_ek (hv:Value.okWide Tryz.prog W r b0 66 v) (h:DataW.Trod enc Tryz.prog W base spare held 66 v d p):∃(z:Ek) (y:Pn),v=ekV z y∧EkIn W y z:=by
 obtain ⟨vs,ds,rfl,hl⟩:=open_struct Tryz.underlying66 typed_ek hv h
 exact lies_ek hl
theorem open_three3 (hv:Value.okWide Tryz.prog W r b0 76 v) (h:DataW.Trod enc Tryz.prog W base spare held 76 v d p):∃x y z,v=.agg #[.int .i64 x,.int .i64 y,.int .i64 z]∧Fits x∧Fits y∧Fits z:=by
 obtain ⟨cs,rfl,_⟩:=okWide_arr Tryz.underlying76 hv
 obtain ⟨fuel,hf⟩:=h
 obtain ⟨d,hd⟩:=lies_of_trod fuel typed_thr hf
 obtain ⟨cs⟩:=cs
 simp only [Value.cells] at hd
 cases hd with
 | flat hl=>
 cases hl with
 | cons h1 hl=>
 cases hl with
 | cons h2 hl=>
 cases hl with
 | cons h3 hl=>
 cases hl
 cases h1 with
 | int f1=>
 cases h2 with
 | int f2=>
 cases h3 with
 | int f3=>exact ⟨_,_,_,rfl,f1,f2,f3⟩
end
end Go.Proofs.YtfhgkkcpkcjbmaaGreatDoor.evict
