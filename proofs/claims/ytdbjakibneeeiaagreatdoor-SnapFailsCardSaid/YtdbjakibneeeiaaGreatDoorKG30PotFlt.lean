/- Whole numbers below 2^53 as float64: what they are read as, their sums, and that they come back. Plain arithmetic; no Go. -/
import Derived.Laws.FloatArith
import Derived.Laws.ComplexArith
import Derived.Test.YtdbjakibneeeiaaGreatDoorChecked
import Derived.WalkKit
import Derived.ProofKit
import Derived.WalkLawsBesides
import Derived.Lib.Hide
import Derived.RegionTactic
import Derived.ChangeAlike
import Derived.Laws.Rows
import Derived.KernelRfl
import GoSem.Op.Unary
set_option linter.all false
set_option maxHeartbeats 4000000
set_option maxRecDepth 100000
namespace Go.Proofs.YtdbjakibneeeiaaGreatDoor.Qf
open Ieee
def fw (n:Nat):Nat:=Ieee.double.nearest false n 0
def shl (a b:Nat):a <<< b=a*2 ^ b:=Nat.shiftLeft_eq a b
def yW (n k:Nat) (h:n≠0):(n*2 ^ k).log2=n.log2+k:=by
 have h0:n*2 ^ k≠0:=Nat.mul_ne_zero h (Nat.pos_iff_ne_zero.1 (Nat.two_pow_pos k))
 have h1:=Nat.log2_self_le h
 have h2:n<2 ^ (n.log2+1):=Nat.lt_log2_self
 have h3:2 ^ (n.log2+k)≤n*2 ^ k:=by rw [Nat.pow_add];exact Nat.mul_le_mul_right _ h1
 have h4:n*2 ^ k<2 ^ (n.log2+k+1):=by
  rw [show n.log2+k+1=n.log2+1+k from by omega,Nat.pow_add]
  exact Nat.mul_lt_mul_of_pos_right h2 (Nat.two_pow_pos k)
 have a:=(Nat.le_log2 h0).2 h3
 have b:=(Nat.log2_lt h0).2 h4
 omega
def wG (n:Nat) (h:n≠0) (hn:n<2 ^ 53):n.log2≤52:=by
 have:=(Nat.log2_lt h).2 hn
 omega
def vD (way:Toward) (n k:Nat) (h:n≠0) (d:Nat) (hd:d≤k):way.cut false (n*2 ^ k) d=n*2 ^ (k - d):=by
 have hm:min d ((n*2 ^ k).log2+2)=d:=by rw [yW n k h];omega
 have e:n*2 ^ k=n*2 ^ (k - d)*2 ^ d:=by rw [Nat.mul_assoc,← Nat.pow_add];congr 2;omega
 have hp:0<2 ^ d:=Nat.two_pow_pos d
 have h1:(1 <<< min d ((n*2 ^ k).log2+2))=2 ^ d:=by rw [hm,shl,Nat.one_mul]
 have h2:n*2 ^ k / 2 ^ d=n*2 ^ (k - d):=by rw [e];exact Nat.mul_div_cancel _ hp
 have h3:n*2 ^ k % 2 ^ d=0:=by rw [e];exact Nat.mul_mod_left _ _
 unfold Toward.cut
 simp only [h1,h2,h3]
 have h5:(2 ^ d==0)=false:=by simp
 cases way <;> simp [h5]
def leastPlace:Ieee.double.leastPlace = -1074:=by decide
def binade:Ieee.double.binade=4503599627370496:=by decide
def infRung:Ieee.double.infRung=9218868437227405312:=by decide
def signWeight:Ieee.double.signWeight=9223372036854775808:=by decide
def fractionBits:Ieee.double.fractionBits=52:=rfl
def sig (n:Nat) (h:n≠0) (hn:n<2 ^ 53):4503599627370496≤n*2 ^ (52 - n.log2)∧n*2 ^ (52 - n.log2)<9007199254740992:=by
 have hl:=wG n h hn
 have h1:=Nat.log2_self_le h
 have h2:n<2 ^ (n.log2+1):=Nat.lt_log2_self
 have a:2 ^ n.log2*2 ^ (52 - n.log2)≤n*2 ^ (52 - n.log2):=Nat.mul_le_mul_right _ h1
 have b:n*2 ^ (52 - n.log2)<2 ^ (n.log2+1)*2 ^ (52 - n.log2):=Nat.mul_lt_mul_of_pos_right h2 (Nat.two_pow_pos _)
 rw [← Nat.pow_add] at a b
 rw [show n.log2+(52 - n.log2)=52 from by omega] at a
 rw [show n.log2+1+(52 - n.log2)=53 from by omega] at b
 exact ⟨a,b⟩
def nG (n k:Nat) (h:n≠0) (hn:n<2 ^ 53):Ieee.double.nearest false (n*2 ^ k) (-(k:Int))=(n.log2+1022)*4503599627370496+n*2 ^ (52 - n.log2):=by
 have h0:n*2 ^ k≠0:=Nat.mul_ne_zero h (Nat.pos_iff_ne_zero.1 (Nat.two_pow_pos k))
 have hl:=wG n h hn
 obtain ⟨s1,s2⟩:=sig n h hn
 have hlast:max (-(k:Int)+((n*2 ^ k).log2:Nat) - (52:Nat)) (-1074)=(n.log2:Int) - 52:=by rw [yW n k h];omega
 unfold Format.nearest
 rw [if_neg h0,leastPlace,fractionBits,binade,infRung]
 simp only [hlast]
 have hk:Toward.even.cut false ((n*2 ^ k) <<< (-(k:Int) - ((n.log2:Int) - 52)).toNat) (((n.log2:Int) - 52) - -(k:Int)).toNat=n*2 ^ (52 - n.log2):=by
  rw [shl,Nat.mul_assoc,← Nat.pow_add,vD _ _ _ h _ (by omega)]
  congr 2
  omega
 rw [hk,show ((n.log2:Int) - 52 - -1074).toNat=n.log2+1022 from by omega]
 unfold Format.word
 have hb:(n.log2+1022)*4503599627370496≤1074*4503599627370496:=Nat.mul_le_mul_right _ (by omega)
 simp only [Bool.false_eq_true,if_false]
 omega
def J9 (n k:Nat) (hn:n<2 ^ 53):Ieee.double.nearest false (n*2 ^ k) (-(k:Int))=fw n:=by
 by_cases h:n=0
 ·subst h
  simp [fw,Format.nearest]
 ·have a:=nG n k h hn
  have b:=nG n 0 h hn
  rw [a]
  simp only [Nat.pow_zero,Nat.mul_one] at b
  exact b.symm
def D7 (k:Nat) (hk:k=1074):Ieee.double.read (fw 0)=Ieee.Datum.number false (0*2 ^ k) (-(k:Int)):=by
 rw [Nat.zero_mul]
 subst hk
 decide
def rA (n:Nat) (hn:n<2 ^ 53):∃k:Nat,Ieee.double.read (fw n)=Ieee.Datum.number false (n*2 ^ k) (-(k:Int)):=by
 by_cases h:n=0
 ·subst h
  exact ⟨_,D7 _ rfl⟩
 ·have hl:=wG n h hn
  obtain ⟨s1,s2⟩:=sig n h hn
  refine ⟨52 - n.log2,?_⟩
  have e:fw n=(n.log2+1022)*4503599627370496+n*2 ^ (52 - n.log2):=by
   have b:=nG n 0 h hn
   simp only [Nat.pow_zero,Nat.mul_one] at b
   exact b
  rw [e]
  generalize n*2 ^ (52 - n.log2)=K at s1 s2 ⊢
  have hb:(n.log2+1022)*4503599627370496≤1074*4503599627370496:=Nat.mul_le_mul_right _ (by omega)
  unfold Format.read
  rw [signWeight,binade,infRung,leastPlace]
  have r1:((n.log2+1022)*4503599627370496+K) / 9223372036854775808=0:=Nat.div_eq_of_lt (by omega)
  have r2:((n.log2+1022)*4503599627370496+K) % 9223372036854775808=(n.log2+1022)*4503599627370496+K:=Nat.mod_eq_of_lt (by omega)
  simp only [r1,r2]
  have r3:((n.log2+1022)*4503599627370496+K) / 4503599627370496=n.log2+1023:=by omega
  have r4:((n.log2+1022)*4503599627370496+K) % 4503599627370496=K - 4503599627370496:=by omega
  rw [if_neg (by omega),if_pos (by omega),r3,r4]
  have r5:4503599627370496+(K - 4503599627370496)=K:=by omega
  have r6:(-1074:Int)+((n.log2+1023 - 1:Nat):Int) = -((52 - n.log2:Nat):Int):=by omega
  rw [r5,r6]
  rfl
def nw (m u:Nat):signed false m u=((m*2 ^ u:Nat):Int):=by simp [signed,shl]
def JS (a b:Nat) (h:a+b<2 ^ 53):Ieee.double.add (fw a) (fw b)=some (fw (a+b)):=by
 obtain ⟨i,hi⟩:=rA a (by omega)
 obtain ⟨j,hj⟩:=rA b (by omega)
 unfold Format.add
 rw [hi,hj]
 simp only [Datum.sum,Option.map_some,nw]
 obtain ⟨k,hk⟩:∃k,k=max i j:=⟨_,rfl⟩
 have e:min (-(i:Int)) (-(j:Int)) = -(k:Int):=by omega
 have ea:a*2 ^ i*2 ^ (-(i:Int) - -(k:Int)).toNat=a*2 ^ k:=by rw [Nat.mul_assoc,← Nat.pow_add];congr 2;omega
 have eb:b*2 ^ j*2 ^ (-(j:Int) - -(k:Int)).toNat=b*2 ^ k:=by rw [Nat.mul_assoc,← Nat.pow_add];congr 2;omega
 rw [e,ea,eb]
 have et:((a*2 ^ k:Nat):Int)+((b*2 ^ k:Nat):Int)=(((a+b)*2 ^ k:Nat):Int):=by rw [Nat.add_mul];omega
 rw [et]
 have en:(if (((a+b)*2 ^ k:Nat):Int)=0 then (false&&false) else decide ((((a+b)*2 ^ k:Nat):Int)<0))=false:=by
  split
  ·rfl
  ·exact decide_eq_false (by omega)
 rw [en,Int.natAbs_natCast]
 show some (Ieee.double.nearest false _ _)=_
 rw [J9 _ _ h]
def F7 (n:Nat) (hn:n<2 ^ 53):(Ieee.double.read (fw n)).toInt .zero=some (n:Int):=by
 obtain ⟨k,hk⟩:=rA n hn
 rw [hk]
 unfold Datum.toInt Datum.integral
 have e1:(-(k:Int)).toNat=0:=by omega
 have e2:(- -(k:Int)).toNat=k:=by omega
 simp only [e1,e2,shl,Nat.pow_zero,Nat.mul_one]
 by_cases h:n=0
 ·subst h
  simp [Toward.cut,signed]
 ·rw [vD _ _ _ h _ (Nat.le_refl _)]
  simp [nw]
def zI (n:Int) (h:0≤n):floatOfInt .f64 n=fw n.toNat:=by
 have h1:decide (n<0)=false:=decide_eq_false (by omega)
 have h2:n.natAbs=n.toNat:=by omega
 show Ieee.double.nearest (decide (n<0)) n.natAbs 0=_
 rw [h1,h2]
 rfl
def It (n:Nat) (hn:n<2 ^ 53):floatToIntVal .f64 (fw n) .i64=some (n:Int):=by
 have h:((FloatKind.f64).decode (fw n)).toInt .zero=some (n:Int):=F7 n hn
 unfold floatToIntVal
 rw [h]
 show (if IntKind.i64.min≤(n:Int)∧(n:Int)≤IntKind.i64.max then some (n:Int) else none)=_
 have a:IntKind.i64.min≤(n:Int):=by show (-9223372036854775808:Int)≤_;omega
 have b:(n:Int)≤IntKind.i64.max:=by show _≤(9223372036854775807:Int);omega
 rw [if_pos ⟨a,b⟩]
end Go.Proofs.YtdbjakibneeeiaaGreatDoor.Qf
namespace Go.Proofs.YtdbjakibneeeiaaGreatDoor.S8
open Go.RowKit
def sm (X:Nat→Int):Nat→Int
 | 0=>0
 | k+1=>sm X k+X k
def IV (len:Nat) (X Y:Nat→Int):Prop:=len≤1000∧∀i,i<len→(0≤X i∧X i≤1099511627776)∧(0≤Y i∧Y i≤1099511627776)
instance (len:Nat) (X Y:Nat→Int):Decidable (IV len X Y):=by unfold IV;exact inferInstance
end Go.Proofs.YtdbjakibneeeiaaGreatDoor.S8
namespace Go.Proofs.YtdbjakibneeeiaaGreatDoor.Qf
open Ieee
def sw (s:Bool) (n:Nat):Nat:=Ieee.double.nearest s n 0
def kk (n:Nat):Nat:=if n=0 then 1074 else 52 - n.log2
def FZ (n:Nat):Bool:=decide (Ieee.double.read (sw true n)=.number true (n*2 ^ kk n) (-(kk n:Int)))
def Jh (n:Nat):Bool:=Op.negFloat .f64 (sw false n)==sw true n&&Op.negFloat .f64 (sw true n)==sw false n
def Gq:(List.range 1001).all FZ=true:=by kernel_rfl
def I9:(List.range 1001).all Jh=true:=by kernel_rfl
def El (n:Nat) (h:n≤1000):Ieee.double.read (sw true n)=.number true (n*2 ^ kk n) (-(kk n:Int)):=by
 have:=List.all_eq_true.1 Gq n (by simp;omega)
 unfold FZ at this
 exact of_decide_eq_true this
def Kk (s:Bool) (n:Nat) (h:n≤1000):Op.negFloat .f64 (sw s n)=sw (!s) n:=by
 have:=List.all_eq_true.1 I9 n (by simp;omega)
 unfold Jh at this
 simp only [Bool.and_eq_true,beq_iff_eq] at this
 cases s
 ·exact this.1
 ·exact this.2
def B2 (m u:Nat):signed true m u = -((m*2 ^ u:Nat):Int):=by simp [signed,shl]
def JM (a b:Nat) (ha:a≤1000) (h:b≤a):Ieee.double.add (fw a) (sw true b)=some (fw (a - b)):=by
 obtain ⟨i,hi⟩:=rA a (by omega)
 have hj:=El b (by omega)
 generalize kk b=j at hj
 unfold Format.add
 rw [hi,hj]
 simp only [Datum.sum,Option.map_some,nw,B2]
 obtain ⟨k,hk⟩:∃k,k=max i j:=⟨_,rfl⟩
 have e:min (-(i:Int)) (-(j:Int)) = -(k:Int):=by omega
 have ea:a*2 ^ i*2 ^ (-(i:Int) - -(k:Int)).toNat=a*2 ^ k:=by rw [Nat.mul_assoc,← Nat.pow_add];congr 2;omega
 have eb:b*2 ^ j*2 ^ (-(j:Int) - -(k:Int)).toNat=b*2 ^ k:=by rw [Nat.mul_assoc,← Nat.pow_add];congr 2;omega
 rw [e,ea,eb]
 have et:((a*2 ^ k:Nat):Int) + -((b*2 ^ k:Nat):Int)=(((a - b)*2 ^ k:Nat):Int):=by
  have h1:b*2 ^ k≤a*2 ^ k:=Nat.mul_le_mul_right _ h
  rw [Nat.sub_mul]
  omega
 rw [et]
 have en:(if (((a - b)*2 ^ k:Nat):Int)=0 then (false&&true) else decide ((((a - b)*2 ^ k:Nat):Int)<0))=false:=by
  split
  ·rfl
  ·exact decide_eq_false (by omega)
 rw [en,Int.natAbs_natCast]
 show some (Ieee.double.nearest false _ _)=_
 rw [J9 _ _ (by omega)]
def EO (a:Nat) (s:Bool) (b:Nat) (c:Nat) (ha:a≤1000) (hb:b≤1000) (h:(a:Int)+(if s then -(b:Int) else b)=c):Ieee.double.add (fw a) (sw s b)=some (fw c):=by
 cases s with
 | false=>
  simp only [Bool.false_eq_true,if_false] at h
  rw [show sw false b=fw b from rfl,JS a b (by omega),show a+b=c from by omega]
 | true=>
  simp only [if_true] at h
  rw [JM a b ha (by omega),show a - b=c from by omega]
def EC (n:Int):floatOfInt .f64 n=sw (decide (n<0)) n.natAbs:=rfl
def Kz (a b c d:Int) (x y:Nat) (h1:0≤a) (h2:a≤1000) (h3:0≤b) (h4:b≤1000) (hc : -1000≤c) (hc':c≤1000) (hx:a+c=x) (hy:b - c=y) (P:Program) (w:World) (t:TypeId) :
  (binOp .add t (.complex .f64 (fw a.toNat) (fw b.toNat)) (.complex .f64 (floatOfInt .f64 c) (Op.negFloat .f64 (floatOfInt .f64 c)))).run P w=.ok (.complex .f64 (fw x) (fw y)) w:=by
 refine run_complex_sum w .add (Or.inl rfl) t .f64 _ _ _ _ _ _ ?_
 rw [EC,Kk _ _ (by omega)]
 have e1:floatBits .add .f64 (fw a.toNat) (sw (decide (c<0)) c.natAbs)=some (fw x):=EO _ _ _ _ (by omega) (by omega) (by
  by_cases q:c<0 <;> simp [q] <;> omega)
 have e2:floatBits .add .f64 (fw b.toNat) (sw (!decide (c<0)) c.natAbs)=some (fw y):=EO _ _ _ _ (by omega) (by omega) (by
  by_cases q:c<0 <;> simp [q] <;> omega)
 simp [cSumBits,e1,e2]
end Go.Proofs.YtdbjakibneeeiaaGreatDoor.Qf
