/- Numbers and texts as bytes, in plain Lean; no walk. -/
import Derived.WalkKit
import Derived.Laws.Rows
set_option linter.all false
set_option maxHeartbeats 4000000
set_option maxRecDepth 100000
namespace Go.Proofs.YtdbjakibneeeiaaGreatDoor.codec
def spell:Nat→Nat→List UInt8
 | 0,_=>[]
 | k+1,n=>spell k (n / 256)++[UInt8.ofNat n]
def whole (l:List UInt8):Nat:=l.foldl (fun n b=>n*256+b.toNat) 0
def size (n:Nat):Nat:=if n<256 then 1 else size (n / 256)+1
termination_by n
decreasing_by omega
def num (n:Nat):List UInt8:=UInt8.ofNat (size n)::spell (size n) n
def text (s:List UInt8):List UInt8:=spell 2 s.length++s
def numV (n:Int):List UInt8:=if n<0 then [] else num n.toNat
def textV (s:List UInt8):List UInt8:=if 65535<s.length then [] else text s
def takeNum:List UInt8→Int→Option (Nat×List UInt8)
 | [],_=>none
 | b::r,most=>if 1≤b.toNat∧b.toNat≤8∧b.toNat≤r.length∧size (whole (r.take b.toNat))=b.toNat∧whole (r.take b.toNat)<9223372036854775808∧(whole (r.take b.toNat):Int)≤most then some (whole (r.take b.toNat),r.drop b.toNat) else none
def takeText:List UInt8→Int→Option (List UInt8×List UInt8)
 | a::b::r,most=>if ((256*a.toNat+b.toNat:Nat):Int)≤most∧256*a.toNat+b.toNat≤r.length then some (r.take (256*a.toNat+b.toNat),r.drop (256*a.toNat+b.toNat)) else none
 | _,_=>none
theorem snoc_ind {P:List UInt8→Prop} (h0:P []) (hs:∀l b,P l→P (l++[b])) (l:List UInt8):P l:=by
 have h:∀r:List UInt8,P r.reverse:=by
  intro r
  induction r with
  | nil=>exact h0
  | cons b r ih=>simpa using hs _ b ih
 simpa using h l.reverse
theorem whole_snoc (l:List UInt8) (b:UInt8):whole (l++[b])=whole l*256+b.toNat:=by simp [whole,List.foldl_append]
theorem whole_lt (l:List UInt8):whole l<256 ^ l.length:=by
 induction l using snoc_ind with
 | h0=>simp [whole]
 | hs l b ih=>
  rw [whole_snoc,List.length_append,List.length_singleton,Nat.pow_succ]
  have:=b.toNat_lt
  omega
theorem whole_take_succ (l:List UInt8) (k:Nat) (h:k<l.length):whole (l.take (k+1))=whole (l.take k)*256+l[k].toNat:=by
 rw [List.take_succ_eq_append_getElem h,whole_snoc]
theorem spell_len (k n:Nat):(spell k n).length=k:=by
 induction k generalizing n with
 | zero=>rfl
 | succ k ih=>simp [spell,ih]
theorem spell_whole (l:List UInt8):spell l.length (whole l)=l:=by
 induction l using snoc_ind with
 | h0=>rfl
 | hs l b ih=>
  have hb:=b.toNat_lt
  rw [List.length_append,List.length_singleton,whole_snoc]
  simp only [spell]
  rw [show (whole l*256+b.toNat) / 256=whole l from by omega,ih]
  congr 2
  apply UInt8.toNat_inj.1
  rw [UInt8.toNat_ofNat']
  omega
theorem spell_two (n:Nat):spell 2 n=[UInt8.ofNat (n / 256),UInt8.ofNat n]:=rfl
theorem size_pos (n:Nat):1≤size n:=by
 rw [size]
 split <;> omega
theorem size_spec (n:Nat):n<256 ^ size n∧(size n=1∨256 ^ (size n - 1)≤n):=by
 induction n using Nat.strongRecOn with
 | ind n ih=>
  rw [size]
  split
  ·omega
  ·next h=>
   obtain ⟨h1,h2⟩:=ih (n / 256) (by omega)
   have hp:=size_pos (n / 256)
   refine ⟨by rw [Nat.pow_succ];omega,Or.inr ?_⟩
   rw [Nat.add_sub_cancel]
   rcases h2 with h2 | h2
   ·rw [h2];omega
   ·obtain ⟨k,hk⟩:∃k,size (n / 256)=k+1:=⟨size (n / 256) - 1,by omega⟩
    rw [hk,Nat.add_sub_cancel] at h2
    rw [hk,Nat.pow_succ]
    omega
theorem size_le (n k:Nat) (h:1≤k) (h1:n<256 ^ k):size n≤k:=by
 rcases Nat.lt_or_ge k (size n) with hgt | hle
 ·obtain ⟨g1,g2⟩:=size_spec n
  have:256 ^ k≤256 ^ (size n - 1):=Nat.pow_le_pow_right (by omega) (by omega)
  omega
 ·exact hle
theorem size_max (n:Nat) (h:n<9223372036854775808):size n≤8:=size_le n 8 (by omega) (by omega)
theorem num_len (n:Nat):(num n).length=size n+1:=by simp [num,spell_len]
theorem num_test (b:UInt8) (l:List UInt8) (h:b.toNat=l.length) (h1:l.length≤8):num (whole l)=b::l↔size (whole l)=l.length:=by
 constructor
 ·intro e
  have:=congrArg List.length e
  rw [num_len] at this
  simpa using this
 ·intro e
  unfold num
  rw [e,spell_whole]
  congr 1
  apply UInt8.toNat_inj.1
  rw [UInt8.toNat_ofNat']
  omega
theorem takeNum_some (s r:List UInt8) (n:Nat) (most:Int) (h:takeNum s most=some (n,r)):s=num n++r∧n<9223372036854775808∧(n:Int)≤most:=by
 cases s with
 | nil=>simp [takeNum] at h
 | cons b t=>
  simp only [takeNum] at h
  split at h
  ·next c=>
   obtain ⟨c1,c2,c3,c4,c5,c6⟩:=c
   simp only [Option.some.injEq,Prod.mk.injEq] at h
   obtain ⟨h1,h2⟩:=h
   refine ⟨?_,by omega,by omega⟩
   unfold num
   rw [← h1,← h2,c4]
   have e:=spell_whole (t.take b.toNat)
   rw [List.length_take,Nat.min_eq_left c3] at e
   rw [e,UInt8.ofNat_toNat]
   simp
  ·cases h
theorem text_len (s:List UInt8):(text s).length=s.length+2:=by simp [text,spell_len];omega
theorem takeText_some (s t r:List UInt8) (most:Int) (h:takeText s most=some (t,r)):s=text t++r∧t.length≤65535∧(t.length:Int)≤most:=by
 match s,h with
 | [],h=>simp [takeText] at h
 | [a],h=>simp [takeText] at h
 | a::b::u,h=>
  have ha:=a.toNat_lt
  have hb:=b.toNat_lt
  simp only [takeText] at h
  split at h
  ·next c=>
   obtain ⟨c1,c2⟩:=c
   simp only [Option.some.injEq,Prod.mk.injEq] at h
   obtain ⟨h1,h2⟩:=h
   have hl:t.length=256*a.toNat+b.toNat:=by rw [← h1,List.length_take];omega
   refine ⟨?_,by omega,by omega⟩
   unfold text
   rw [spell_two,hl]
   have e1:UInt8.ofNat ((256*a.toNat+b.toNat) / 256)=a:=by
    rw [show (256*a.toNat+b.toNat) / 256=a.toNat from by omega,UInt8.ofNat_toNat]
   have e2:UInt8.ofNat (256*a.toNat+b.toNat)=b:=by
    apply UInt8.toNat_inj.1
    rw [UInt8.toNat_ofNat']
    omega
   rw [e1,e2,← h1,← h2]
   simp
  ·cases h
end Go.Proofs.YtdbjakibneeeiaaGreatDoor.codec
