/- What is wanted of ShAll besides. -/
import Derived.Test.YtdbjakibneeeiaaGreatDoorKPoAll
set_option linter.all false
set_option maxHeartbeats 4000000
set_option maxRecDepth 100000
namespace Go.Proofs.YtdbjakibneeeiaaGreatDoor.ax
open Go.RowKit Sx txn queue aL
def QH (w:World) (a:Option Addr) (n c:Nat) (S:List yg):Prop:=Sl a n c∧n=S.length∧At w (pt a n) (si S)∧∀q∈S,zB w q.a q.n q.c q.L
def Au (a:Option Addr) (n:Nat) (S:List yg):List Fact:=ay (pt a n) (si S)::S.flatMap fun q=>dm q.a q.n q.L
def QH.facts {w:World} {a n c S} (h:QH w a n c S):∀φ∈Au a n S,∀g,φ.g=some g→∃o,w.heap[g]?=some o∧φ.holds o:=by
 intro φ hφ
 rcases List.mem_cons.1 hφ with rfl | hφ
 ·exact h.2.2.1
 ·obtain ⟨q,hq,hφ⟩:=List.mem_flatMap.1 hφ
  exact (h.2.2.2 q hq).facts φ hφ
end Go.Proofs.YtdbjakibneeeiaaGreatDoor.ax
namespace Go.Proofs.YtdbjakibneeeiaaGreatDoor.ax
section
variable {α β : Type}
def zu (f:α→Int) (L:List α):List α:=L.foldl (fun a x=>ins f x a) []
def GV (f:α→Int) (g:β→Int) (h:α→β) (hf:∀x,g (h x)=f x) (x:α) (l:List α):(ins f x l).map h=ins g (h x) (l.map h):=by
 induction l with
 | nil=>rfl
 | cons y l ih=>
  unfold ins
  rw [List.map_cons]
  simp only [hf]
  split
  ·rfl
  ·rw [List.map_cons,ih]
def Co (f:α→Int) (g:β→Int) (h:α→β) (hf:∀x,g (h x)=f x) (L:List α):(zu f L).map h=zu g (L.map h):=by
 unfold zu
 have:∀(a:List α),(L.foldl (fun a x=>ins f x a) a).map h=(L.map h).foldl (fun a x=>ins g x a) (a.map h):=by
  induction L with
  | nil=>intro a;rfl
  | cons x L ih=>intro a;rw [List.foldl_cons,ih,GV f g h hf,List.map_cons,List.foldl_cons]
 exact this []
def yC (f:α→Int) (L:List α):(zu f L).Perm L:=by
 unfold zu
 have:∀(a:List α),(L.foldl (fun a x=>ins f x a) a).Perm (a++L):=by
  induction L with
  | nil=>intro a;simp
  | cons x L ih=>
   intro a
   rw [List.foldl_cons]
   refine (ih _).trans ?_
   have:=(uq f x a).append_right L
   refine this.trans ?_
   rw [List.cons_append]
   exact List.perm_middle.symm
 exact this []
def sP (f:α→Int) (x:α) {l:List α} (h:l.Pairwise (fun a b=>f a≤f b)):(ins f x l).Pairwise (fun a b=>f a≤f b):=by
 induction l with
 | nil=>simp [ins]
 | cons y l ih=>
  rw [List.pairwise_cons] at h
  unfold ins
  split
  ·rename_i hlt
   refine List.pairwise_cons.2 ⟨fun z hz=>?_,List.pairwise_cons.2 h⟩
   rcases List.mem_cons.1 hz with rfl | hz
   ·omega
   ·have:=h.1 z hz;omega
  ·rename_i hlt
   refine List.pairwise_cons.2 ⟨fun z hz=>?_,ih h.2⟩
   rcases List.mem_cons.1 ((uq f x l).mem_iff.1 hz) with rfl | hz
   ·omega
   ·exact h.1 z hz
def Ay (f:α→Int) (L:List α):(zu f L).Pairwise (fun a b=>f a≤f b):=by
 unfold zu
 have:∀(a:List α),a.Pairwise (fun a b=>f a≤f b)→(L.foldl (fun a x=>ins f x a) a).Pairwise (fun a b=>f a≤f b):=by
  induction L with
  | nil=>intro a h;exact h
  | cons x L ih=>intro a h;rw [List.foldl_cons];exact ih _ (sP f x h)
 exact this [] List.Pairwise.nil
end
end Go.Proofs.YtdbjakibneeeiaaGreatDoor.ax
namespace Go.Proofs.YtdbjakibneeeiaaGreatDoor.ax
open Go.RowKit Sx txn queue aL
def dS (S:List yg):List Ac:=S.flatMap yg.L
end Go.Proofs.YtdbjakibneeeiaaGreatDoor.ax
namespace Go.Proofs.YtdbjakibneeeiaaGreatDoor.mL
open Go.RowKit
def Dz (s n:Int) (w:World) (h:s<0∨255<s∨n<1∨8<n) :
  Calls Tryz.prog 97 #[.int .i64 s,.int .i64 n] w fun e w'=>e=.returned (.int .i64 (-1))∧w=w':=by
 have h':s<0∨(0≤s∧255<s)∨(0≤s∧s≤255∧n<1)∨(0≤s∧s≤255∧1≤n∧8<n):=by omega
 clear h
 rcases h' with h | ⟨h,h1⟩ | ⟨h,h1,h2⟩ | ⟨h,h1,h2,h3⟩
 all_goals
  go_enter Tryz.func97,Tryz.ntmps97
  go_wp2_with fail
  go_ret
  exact ⟨rfl,rfl⟩
def Dd (b:UInt8) (n:Int) (w:World) (h0:1≤n) (h1:n≤8) :
  Calls Tryz.prog 97 #[.int .i64 b.toNat,.int .i64 n] w fun e w'=>e=.returned (.int .i64 (xN [b] % n))∧Below w.heap.size w w':=by
 have hb:(b.toNat:Int)≤255:=by have:=b.toNat_lt;omega
 have hv:=tD b w
 have hd:=uA 14695981039346656037 b
 have hof':xN [b]=hstep 14695981039346656037 b:=rfl
 have ho:∀w,Calls Tryz.prog 134 #[.string ⟨#[b]⟩] w fun e w'=>e=.returned (.int .u64 (xN [b]))∧w=w':=fun w=>BS ⟨#[b]⟩ w (by show 1≤2 ^ 63 - 1;decide)
 have HO:=Lib.hid ho
 rw [hof'] at HO ⊢
 clear ho hof'
 generalize hstep 14695981039346656037 b=v at hd HO ⊢
 have c2:v % n≤9223372036854775807:=by have:=Int.emod_lt_of_pos v (show 0<n by omega);omega
 have c3:0≤v % n:=Int.emod_nonneg _ (by omega)
 go_enter Tryz.func97,Tryz.ntmps97
 go_wp2_with fail
 refine (HO.out _).mono ?_
 rintro e w' ⟨rfl,rfl⟩
 go_wp2_with fail
 go_ret
 exact ⟨rfl,(Below.refl _ _).alloc (Nat.le_refl _) _⟩
def Ap (s n:Int) (w:World) :
  Calls Tryz.prog 97 #[.int .i64 s,.int .i64 n] w fun e w'=>e=.returned (.int .i64 (fE s n))∧Below w.heap.size w w':=by
 unfold fE
 by_cases h:0≤s∧s≤255∧1≤n∧n≤8
 ·rw [if_pos h]
  obtain ⟨h0,h1,h2,h3⟩:=h
  have e:s=((UInt8.ofNat s.toNat).toNat:Int):=by
   rw [UInt8.toNat_ofNat']
   omega
  generalize UInt8.ofNat s.toNat=b at e ⊢
  subst e
  exact Dd b n w h2 h3
 ·rw [if_neg h]
  exact (Dz s n w (by omega)).mono fun e w' ⟨he,hw⟩=>⟨he,hw▸Below.refl _ _⟩
end Go.Proofs.YtdbjakibneeeiaaGreatDoor.mL


namespace Go.Proofs.YtdbjakibneeeiaaGreatDoor.ax
section
variable {α β : Type}
def Cb (f:α→Int) (L:List α):(zu f L).length=L.length:=(yC f L).length_eq
end
end Go.Proofs.YtdbjakibneeeiaaGreatDoor.ax
namespace Go.Proofs.YtdbjakibneeeiaaGreatDoor.ax
open Go.RowKit Sx txn queue aL
def Dl {S:List yg} {k:Nat} {q:yg} (h:S[k]?=some q):dS (S.take (k+1))=dS (S.take k)++q.L:=by unfold dS;rw [List.take_add_one,h,List.flatMap_append];simp
def Ir (S:List yg) (k:Nat):(dS (S.take k)).length≤(dS S).length:=by
 have:dS S=dS (S.take k)++dS (S.drop k):=by unfold dS;rw [← List.flatMap_append,List.take_append_drop]
 rw [this,List.length_append];omega
def GR {a n} {S:List yg} {x:Ac} (hx:x∈dS S):HB x∈Au a n S:=by
 obtain ⟨q,hq,hx⟩:=List.mem_flatMap.1 hx
 exact .tail _ (List.mem_flatMap.2 ⟨q,hq,.tail _ (List.mem_map.2 ⟨x,hx,rfl⟩)⟩)
end Go.Proofs.YtdbjakibneeeiaaGreatDoor.ax
