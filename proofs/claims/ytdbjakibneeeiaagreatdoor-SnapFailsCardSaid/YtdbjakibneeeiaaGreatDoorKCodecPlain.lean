/- Numbers and texts as bytes, in plain Lean; no walk. -/
import Derived.WalkKit
import Derived.Laws.Rows
set_option linter.all false
set_option maxHeartbeats 4000000
set_option maxRecDepth 100000
namespace Go.Proofs.YtdbjakibneeeiaaGreatDoor.cE
def spell:Nat→Nat→List UInt8
 | 0,_=>[]
 | k+1,n=>spell k (n / 256)++[UInt8.ofNat n]
def whole (l:List UInt8):Nat:=l.foldl (fun n b=>n*256+b.toNat) 0
def size (n:Nat):Nat:=if n<256 then 1 else size (n / 256)+1
termination_by n
decreasing_by omega
def num (n:Nat):List UInt8:=UInt8.ofNat (size n)::spell (size n) n
def text (s:List UInt8):List UInt8:=spell 2 s.length++s
def oK (n:Int):List UInt8:=if n<0 then [] else num n.toNat
def xZ (s:List UInt8):List UInt8:=if 65535<s.length then [] else text s
def aG:List UInt8→Int→Option (Nat×List UInt8)
 | [],_=>none
 | b::r,most=>if 1≤b.toNat∧b.toNat≤8∧b.toNat≤r.length∧size (whole (r.take b.toNat))=b.toNat∧whole (r.take b.toNat)<9223372036854775808∧(whole (r.take b.toNat):Int)≤most then some (whole (r.take b.toNat),r.drop b.toNat) else none
def dU:List UInt8→Int→Option (List UInt8×List UInt8)
 | a::b::r,most=>if ((256*a.toNat+b.toNat:Nat):Int)≤most∧256*a.toNat+b.toNat≤r.length then some (r.take (256*a.toNat+b.toNat),r.drop (256*a.toNat+b.toNat)) else none
 | _,_=>none
def yR {P:List UInt8→Prop} (h0:P []) (hs:∀l b,P l→P (l++[b])) (l:List UInt8):P l:=by
 have h:∀r:List UInt8,P r.reverse:=by
  intro r
  induction r with
  | nil=>exact h0
  | cons b r ih=>simpa using hs _ b ih
 simpa using h l.reverse
def nP (l:List UInt8) (b:UInt8):whole (l++[b])=whole l*256+b.toNat:=by simp [whole,List.foldl_append]
def FK (l:List UInt8):whole l<256 ^ l.length:=by
 induction l using yR with
 | h0=>simp [whole]
 | hs l b ih=>
  rw [nP,List.length_append,List.length_singleton,Nat.pow_succ]
  have:=b.toNat_lt
  omega
def r9 (l:List UInt8) (k:Nat) (h:k<l.length):whole (l.take (k+1))=whole (l.take k)*256+l[k].toNat:=by
 rw [List.take_succ_eq_append_getElem h,nP]
def eZ (k n:Nat):(spell k n).length=k:=by
 induction k generalizing n with
 | zero=>rfl
 | succ k ih=>simp [spell,ih]
def qy (l:List UInt8):spell l.length (whole l)=l:=by
 induction l using yR with
 | h0=>rfl
 | hs l b ih=>
  have hb:=b.toNat_lt
  rw [List.length_append,List.length_singleton,nP]
  simp only [spell]
  rw [show (whole l*256+b.toNat) / 256=whole l from by omega,ih]
  congr 2
  apply UInt8.toNat_inj.1
  rw [UInt8.toNat_ofNat']
  omega
def Dc (n:Nat):spell 2 n=[UInt8.ofNat (n / 256),UInt8.ofNat n]:=rfl
def size_pos (n:Nat):1≤size n:=by
 rw [size]
 split <;> omega
def vW (n:Nat):n<256 ^ size n∧(size n=1∨256 ^ (size n - 1)≤n):=by
 induction n using Nat.strongRecOn with
 | ind n ih=>
  rw [size]
  split
  ·omega
  ·next h=>
   obtain ⟨h1,h2⟩:=ih (n / 256) (by omega)
   have hp:=size_pos (n / 256)
   refine ⟨by rw [Nat.pow_succ];omega,Or.inr ?_⟩
   rw [Nat.add_sub_cancel]
   rcases h2 with h2 | h2
   ·rw [h2];omega
   ·obtain ⟨k,hk⟩:∃k,size (n / 256)=k+1:=⟨size (n / 256) - 1,by omega⟩
    rw [hk,Nat.add_sub_cancel] at h2
    rw [hk,Nat.pow_succ]
    omega
def size_le (n k:Nat) (h:1≤k) (h1:n<256 ^ k):size n≤k:=by
 rcases Nat.lt_or_ge k (size n) with hgt | hle
 ·obtain ⟨g1,g2⟩:=vW n
  have:256 ^ k≤256 ^ (size n - 1):=Nat.pow_le_pow_right (by omega) (by omega)
  omega
 ·exact hle
def iw (n:Nat) (h:n<9223372036854775808):size n≤8:=size_le n 8 (by omega) (by omega)
def iS (n:Nat):(num n).length=size n+1:=by simp [num,eZ]
def ED (b:UInt8) (l:List UInt8) (h:b.toNat=l.length) (h1:l.length≤8):num (whole l)=b::l↔size (whole l)=l.length:=by
 constructor
 ·intro e
  have:=congrArg List.length e
  rw [iS] at this
  simpa using this
 ·intro e
  unfold num
  rw [e,qy]
  congr 1
  apply UInt8.toNat_inj.1
  rw [UInt8.toNat_ofNat']
  omega
def b7 (s r:List UInt8) (n:Nat) (most:Int) (h:aG s most=some (n,r)):s=num n++r∧n<9223372036854775808∧(n:Int)≤most:=by
 cases s with
 | nil=>simp [aG] at h
 | cons b t=>
  simp only [aG] at h
  split at h
  ·next c=>
   obtain ⟨c1,c2,c3,c4,c5,c6⟩:=c
   simp only [Option.some.injEq,Prod.mk.injEq] at h
   obtain ⟨h1,h2⟩:=h
   refine ⟨?_,by omega,by omega⟩
   unfold num
   rw [← h1,← h2,c4]
   have e:=qy (t.take b.toNat)
   rw [List.length_take,Nat.min_eq_left c3] at e
   rw [e,UInt8.ofNat_toNat]
   simp
  ·cases h
def sY (s:List UInt8):(text s).length=s.length+2:=by simp [text,eZ];omega
def ja (s t r:List UInt8) (most:Int) (h:dU s most=some (t,r)):s=text t++r∧t.length≤65535∧(t.length:Int)≤most:=by
 match s,h with
 | [],h=>simp [dU] at h
 | [a],h=>simp [dU] at h
 | a::b::u,h=>
  have ha:=a.toNat_lt
  have hb:=b.toNat_lt
  simp only [dU] at h
  split at h
  ·next c=>
   obtain ⟨c1,c2⟩:=c
   simp only [Option.some.injEq,Prod.mk.injEq] at h
   obtain ⟨h1,h2⟩:=h
   have hl:t.length=256*a.toNat+b.toNat:=by rw [← h1,List.length_take];omega
   refine ⟨?_,by omega,by omega⟩
   unfold text
   rw [Dc,hl]
   have e1:UInt8.ofNat ((256*a.toNat+b.toNat) / 256)=a:=by
    rw [show (256*a.toNat+b.toNat) / 256=a.toNat from by omega,UInt8.ofNat_toNat]
   have e2:UInt8.ofNat (256*a.toNat+b.toNat)=b:=by
    apply UInt8.toNat_inj.1
    rw [UInt8.toNat_ofNat']
    omega
   rw [e1,e2,← h1,← h2]
   simp
  ·cases h
end Go.Proofs.YtdbjakibneeeiaaGreatDoor.cE
