/- Whole numbers up to 1000 as float64, with a sign: their sums, and that they come back. Plain arithmetic; no Go. -/
import Derived.Test.YtfhgkkcpkcjbmaaGreatDoorKFlS
import Derived.KernelRfl
import GoSem.Op.Unary
set_option linter.all false
set_option maxHeartbeats 4000000
set_option maxRecDepth 100000
namespace Go.Proofs.YtfhgkkcpkcjbmaaGreatDoor.flt
open Ieee
def sw (s:Bool) (n:Nat):Nat:=Ieee.double.nearest s n 0
def kk (n:Nat):Nat:=if n=0 then 1074 else 52 - n.log2
def readOk (n:Nat):Bool:=decide (Ieee.double.read (sw true n)=.number true (n*2 ^ kk n) (-(kk n:Int)))
def negOk (n:Nat):Bool:=Op.negFloat .f64 (sw false n)==sw true n&&Op.negFloat .f64 (sw true n)==sw false n
theorem all_read:(List.range 1001).all readOk=true:=by kernel_rfl
theorem all_neg:(List.range 1001).all negOk=true:=by kernel_rfl
theorem read_neg (n:Nat) (h:n≤1000):Ieee.double.read (sw true n)=.number true (n*2 ^ kk n) (-(kk n:Int)):=by
 have:=List.all_eq_true.1 all_read n (by simp;omega)
 unfold readOk at this
 exact of_decide_eq_true this
theorem neg_sw (s:Bool) (n:Nat) (h:n≤1000):Op.negFloat .f64 (sw s n)=sw (!s) n:=by
 have:=List.all_eq_true.1 all_neg n (by simp;omega)
 unfold negOk at this
 simp only [Bool.and_eq_true,beq_iff_eq] at this
 cases s
 ·exact this.1
 ·exact this.2
theorem signed_neg (m u:Nat):signed true m u = -((m*2 ^ u:Nat):Int):=by simp [signed,shl]
theorem sub_sw (a b:Nat) (ha:a≤1000) (h:b≤a):Ieee.double.add (fw a) (sw true b)=some (fw (a - b)):=by
 obtain ⟨i,hi⟩:=read_fw a (by omega)
 have hj:=read_neg b (by omega)
 generalize kk b=j at hj
 unfold Format.add
 rw [hi,hj]
 simp only [Datum.sum,Option.map_some,signed_pos,signed_neg]
 obtain ⟨k,hk⟩:∃k,k=max i j:=⟨_,rfl⟩
 have e:min (-(i:Int)) (-(j:Int)) = -(k:Int):=by omega
 have ea:a*2 ^ i*2 ^ (-(i:Int) - -(k:Int)).toNat=a*2 ^ k:=by rw [Nat.mul_assoc,← Nat.pow_add];congr 2;omega
 have eb:b*2 ^ j*2 ^ (-(j:Int) - -(k:Int)).toNat=b*2 ^ k:=by rw [Nat.mul_assoc,← Nat.pow_add];congr 2;omega
 rw [e,ea,eb]
 have et:((a*2 ^ k:Nat):Int) + -((b*2 ^ k:Nat):Int)=(((a - b)*2 ^ k:Nat):Int):=by
  have h1:b*2 ^ k≤a*2 ^ k:=Nat.mul_le_mul_right _ h
  rw [Nat.sub_mul]
  omega
 rw [et]
 have en:(if (((a - b)*2 ^ k:Nat):Int)=0 then (false&&true) else decide ((((a - b)*2 ^ k:Nat):Int)<0))=false:=by
  split
  ·rfl
  ·exact decide_eq_false (by omega)
 rw [en,Int.natAbs_natCast]
 show some (Ieee.double.nearest false _ _)=_
 rw [fw_of _ _ (by omega)]
theorem add_sw (a:Nat) (s:Bool) (b:Nat) (c:Nat) (ha:a≤1000) (hb:b≤1000) (h:(a:Int)+(if s then -(b:Int) else b)=c):Ieee.double.add (fw a) (sw s b)=some (fw c):=by
 cases s with
 | false=>
  simp only [Bool.false_eq_true,if_false] at h
  rw [show sw false b=fw b from rfl,add_fw a b (by omega),show a+b=c from by omega]
 | true=>
  simp only [if_true] at h
  rw [sub_sw a b ha (by omega),show a - b=c from by omega]
theorem ofInt_sw (n:Int):floatOfInt .f64 n=sw (decide (n<0)) n.natAbs:=rfl
theorem sum_sw (a b c d:Int) (x y:Nat) (h1:0≤a) (h2:a≤1000) (h3:0≤b) (h4:b≤1000) (hc : -1000≤c) (hc':c≤1000) (hx:a+c=x) (hy:b - c=y) (P:Program) (w:World) (t:TypeId) :
  (binOp .add t (.complex .f64 (fw a.toNat) (fw b.toNat)) (.complex .f64 (floatOfInt .f64 c) (Op.negFloat .f64 (floatOfInt .f64 c)))).run P w=.ok (.complex .f64 (fw x) (fw y)) w:=by
 refine run_complex_sum w .add (Or.inl rfl) t .f64 _ _ _ _ _ _ ?_
 rw [ofInt_sw,neg_sw _ _ (by omega)]
 have e1:floatBits .add .f64 (fw a.toNat) (sw (decide (c<0)) c.natAbs)=some (fw x):=add_sw _ _ _ _ (by omega) (by omega) (by
  by_cases q:c<0 <;> simp [q] <;> omega)
 have e2:floatBits .add .f64 (fw b.toNat) (sw (!decide (c<0)) c.natAbs)=some (fw y):=add_sw _ _ _ _ (by omega) (by omega) (by
  by_cases q:c<0 <;> simp [q] <;> omega)
 simp [cSumBits,e1,e2]
end Go.Proofs.YtfhgkkcpkcjbmaaGreatDoor.flt
