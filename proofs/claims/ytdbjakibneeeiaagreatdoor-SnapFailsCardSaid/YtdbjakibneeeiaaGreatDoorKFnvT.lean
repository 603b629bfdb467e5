/- Layer 2's hash (fnv) and the document's own (hopperref02), by contract. -/
import Derived.Test.YtdbjakibneeeiaaGreatDoorChecked
import Derived.WalkKit
import Derived.ProofKit
import Derived.WalkLawsBesides
import Derived.WalkSpells
import Derived.WalkMore
import Derived.ScopeJumps
import Derived.Lib.Hide
import Derived.Laws.Rows
import Derived.Laws.BytesString
import Derived.Laws.Cells
set_option linter.all false
set_option maxHeartbeats 4000000
set_option maxRecDepth 100000
namespace Go.Proofs.YtdbjakibneeeiaaGreatDoor.mL
open Go.RowKit
def hstep (v:Int) (b:UInt8):Int:=IntKind.u64.wrap (bits BinOp.xor IntKind.u64 v (IntKind.u64.wrap (b.toNat:Int))*1099511628211)
def lf (h:Int) (l:List UInt8):Int:=l.foldl hstep h
def xN (l:List UInt8):Int:=lf 14695981039346656037 l
def oo (h:Int) (a b:List UInt8):lf h (a++b)=lf (lf h a) b:=List.foldl_append
def D9 (s:ByteArray) (k:Nat) (h:k<s.size):s.data.toList.take (k+1)=s.data.toList.take k++[s[k]]:=by
 rw [List.take_succ_eq_append_getElem (by simpa using h)];rfl
def nB (h:Int) (s:ByteArray) (k:Nat) (hk:k<s.size):lf h (s.data.toList.take (k+1))=hstep (lf h (s.data.toList.take k)) s[k]:=by
 rw [D9 s k hk,oo];rfl
def sK (s:ByteArray) (k:Nat) (h:s.size≤k):s.data.toList.take k=s.data.toList:=List.take_of_length_le (by simpa using h)
def xL {k:IntKind} {a b:Int} (h:a=b):Ending.returned (.int k a)=.returned (.int k b):=by rw [h]
def HD {k:IntKind} {a b:Int} (h:a=b):Value.int k a=.int k b:=by rw [h]
def PN (h:Int) (s:ByteArray) (w:World) (hs:s.size≤maxLen) :
  Calls Tryz.prog 159 #[.int .u64 h,.string s] w fun e w'=>e=.returned (.int .u64 (lf h s.data.toList))∧w=w':=by
 unfold maxLen at hs
 go_enter Tryz.func159,Tryz.ntmps159
 go_wp2_with fail
 go_loop [0,5] (fun x i=>∃(k:Nat),k≤s.size∧i=.int .i64 k∧x=.int .u64 (lf h (s.data.toList.take k))) (fun _ i=>s.size - (intOf i).toNat)
 case atStart=>exact ⟨0,Nat.zero_le _,rfl,rfl⟩
 case round=>
  obtain ⟨k,hk,rfl,rfl⟩:=hrel
  by_cases hlt:k<s.size
  ·have hn:=Lib.hid (nB h s k hlt)
   generalize lf h (s.data.toList.take k)=v at hn ⊢
   go_wp2_with fail
   go_round
   case rel=>exact ⟨k+1,by omega,by go_num,HD hn.out.symm⟩
   case measure=>simp [intOf];omega
  ·have hn:=Lib.hid (sK s k (by omega))
   go_wp2_with fail
   go_ret
   exact ⟨xL (by rw [hn.out]),rfl⟩
def US (h:Int) (s:ByteArray) (w:World) (hs:s.size≤maxLen) :
  Calls Tryz.prog 195 #[.int .u64 h,.string s] w fun e w'=>e=.returned (.int .u64 (lf h s.data.toList))∧w=w':=by
 unfold maxLen at hs
 go_enter Tryz.func195,Tryz.ntmps195
 go_wp2_with fail
 refine wp_scope_jumps 0 (fun a' w'=>w'=w∧∃(k:Nat) (v:Int) (u6 u7 u8 u9 u10 u11 u12 u13 u14 u15 u16 u17 u18 u19:Value),a'={ tmps:=#[.int .u64 v,.string s,undef,undef,.int .u64 0,.int .i64 k,u6,u7,u8,u9,u10,u11,u12,u13,u14,u15,u16,u17,u18,u19],defers:=[] }∧Hid (v=lf h (s.data.toList.take k))∧k≤s.size) (fun a' _=>s.size - (intOf (a'.tmps.getD 5 undef)).toNat) rfl ?_ ?_
 ·by_cases hlt:0<s.size
  ·have hne:((0:Int)==(s.size:Int))=false:=by simp;omega
   have hn:=Lib.hid (nB h s 0 hlt)
   go_wp2_with fail
   go_step3
   go_wp2_with fail
   go_step3
   refine ⟨rfl,rfl,1,_,_,_,_,_,_,_,_,_,_,_,_,_,_,_,rfl,Lib.hid hn.out.symm,by omega⟩
  ·have hz:s.size=0:=by omega
   have hne:((0:Int)==(s.size:Int))=true:=by simp;omega
   have hn:=Lib.hid (sK s 0 (by omega))
   clear hz
   go_wp2_with fail
   go_step3
   go_wp2_with fail
   simp only [Exit.jump]
   go_ret
   exact ⟨xL (by rw [← hn.out];rfl),rfl⟩
 ·rintro a' w' ⟨rfl,k,v,u6,u7,u8,u9,u10,u11,u12,u13,u14,u15,u16,u17,u18,u19,rfl,hv,hk⟩
  by_cases hlt:k<s.size
  ·have hne:((k:Int)==(s.size:Int))=false:=by simp;omega
   have hn:=Lib.hid (nB h s k hlt)
   go_wp2_with fail
   go_step3
   refine ⟨rfl,⟨rfl,k+1,_,_,_,_,_,_,_,_,_,_,_,_,_,_,_,rfl,Lib.hid (by rw [hn.out,← hv.out];rfl),by omega⟩,?_⟩
   simp [intOf]
   omega
  ·have hne:((k:Int)==(s.size:Int))=true:=by simp;omega
   have hn:=Lib.hid (sK s k (by omega))
   go_wp2_with fail
   simp only [Exit.jump]
   go_ret
   exact ⟨xL (by rw [hv.out,hn.out]),rfl⟩
def EL (s:ByteArray) (w:World) (hs:s.size≤maxLen) :
  Calls Tryz.prog 158 #[.string s] w fun e w'=>e=.returned (.int .u64 (xN s.data.toList))∧w=w':=by
 go_enter Tryz.func158,Tryz.ntmps158
 go_wp2_with (first | (go_at_call 195;refine (US _ _ _ hs).mono ?_;rintro e w' ⟨rfl,rfl⟩))
 go_ret
 exact ⟨rfl,rfl⟩
def BS (s:ByteArray) (w:World) (hs:s.size≤maxLen) :
  Calls Tryz.prog 134 #[.string s] w fun e w'=>e=.returned (.int .u64 (xN s.data.toList))∧w=w':=by
 go_enter Tryz.func134,Tryz.ntmps134
 go_wp2_with (first | (go_at_call 159;refine (PN _ _ _ hs).mono ?_;rintro e w' ⟨rfl,rfl⟩))
 go_ret
 exact ⟨rfl,rfl⟩
def digit (n:Nat):UInt8:=if n<10 then UInt8.ofNat (48+n) else UInt8.ofNat (87+n)
def digits:Nat→Nat→List UInt8
 | 0,_=>[]
 | n+1,h=>digits n (h / 16)++[digit (h % 16)]
def Ae (n h:Nat):(digits n h).length=n:=by
 induction n generalizing h with
 | zero=>rfl
 | succ n ih=>simp [digits,ih]
def cellsOf (j:Nat) (l:List UInt8):List Value:=List.replicate j (.int .u8 0)++l.map (fun b=>.int .u8 b.toNat)
def jJ (m:Nat) (l:List UInt8) (d:UInt8):(cellsOf (m+1) l).toArray.setIfInBounds m (.int .u8 d.toNat)=(cellsOf m (d::l)).toArray:=by
 have:(cellsOf (m+1) l).set m (.int .u8 d.toNat)=cellsOf m (d::l):=by
  unfold cellsOf
  rw [List.replicate_succ',List.append_assoc,List.set_append_right _ _ (by simp)]
  simp
 rw [← this]
 simp
def sB (m:Nat) (l:List UInt8):(cellsOf (m+1) l).toArray[m]?=some (.int .u8 0):=by
 unfold cellsOf
 simp [List.getElem?_append]
def ES (n:Nat) (hn:n<16) (h:n<(⟨#[48,49,50,51,52,53,54,55,56,57,97,98,99,100,101,102]⟩:ByteArray).size):(⟨#[48,49,50,51,52,53,54,55,56,57,97,98,99,100,101,102]⟩:ByteArray)[n]=digit n:=by
 have e:∀m:Fin 16,(⟨#[48,49,50,51,52,53,54,55,56,57,97,98,99,100,101,102]⟩:ByteArray)[m.val]'(m.isLt)=digit m:=by decide
 exact e ⟨n,hn⟩
def Bz {wr:World} {n m:Nat} {l:List UInt8} {d:UInt8} {v:Value} {t:TypeId} (hv:v=.int .u8 d.toNat) (B:wr.heap[n]?=some (.cells (cellsOf (m+1) l).toArray t (0,0))) :
  (wr.setCell ⟨n,m,none⟩ v).heap[n]?=some (.cells (cellsOf m (d::l)).toArray t (0,0)):=by
 rw [heap_setCell_same wr n m _ _ v B,hv,jJ]
def G8 (l:List UInt8) (s:ByteArray):(l.map fun b=>(b.toNat:Int)).foldl (fun r n=>r.push (UInt8.ofNat n.toNat)) s=⟨(s.data.toList++l).toArray⟩:=by
 induction l generalizing s with
 | nil=>cases s;simp
 | cons b l ih=>
  simp only [List.map_cons,List.foldl_cons,Int.toNat_natCast,UInt8.ofNat_toNat]
  rw [ih]
  simp [ByteArray.push]
def mg {wr:World} {n:Nat} {l:List UInt8} {t:TypeId} (B:wr.heap[n]?=some (.cells (cellsOf 0 l).toArray t (0,0))) (len cap:Nat) (hl:l.length=len) :
  (convert 169 9 (.slice (some ⟨n,0,none⟩) len cap)).run Tryz.prog wr=.ok (.string ⟨l.toArray⟩) wr:=by
 rw [run_convert_bytes_string wr _ _ 5 _ _ _ Tryz.underlying169 Tryz.underlying5 Tryz.underlying9]
 subst hl
 have h:=run_bytesToString (P:=Tryz.prog) wr ⟨n,0,none⟩ l.length cap (l.map fun b=>(b.toNat:Int)) ?_
 ·rw [h,G8]
  rfl
 ·have hh:=run_loadCells_list (P:=Tryz.prog) wr ⟨n,0,none⟩ ((l.map fun b=>(b.toNat:Int)).map (Value.int .u8)) ?_
  ·simpa using hh
  ·intro j v hv
   have e:(⟨n,0,none⟩:Addr).add j=⟨n,j,none⟩:=by unfold Addr.add;split <;> simp_all
   rw [e]
   simp only [World.cell?,B]
   simpa [cellsOf] using hv
def text (h:Nat) (w:World) (hh:h<18446744073709551616) :
  Calls Tryz.prog 232 #[.int .u64 h] w fun e w'=>e=.returned (.string ⟨(digits 16 h).toArray⟩)∧Below w.heap.size w w':=by
 have D:=Lib.hid hh
 clear hh
 go_enter Tryz.func232,Tryz.ntmps232
 go_wp2_with fail
 go_loopw [0,4] (fun x i wr=>∃(j:Nat) (r:Nat) (l:List UInt8),j≤16∧i=.int .i64 ((j:Int) - 1)∧x=.int .u64 r∧r≤18446744073709551615∧Hid (digits 16 h=digits j r++l)∧wr.heap[w.heap.size]?=some (.cells (cellsOf j l).toArray 276 (0,0))∧Below w.heap.size w wr) (fun _ i _=>(intOf i+1).toNat)
 case atStart=>
  have:=D.out
  exact ⟨16,h,[],by omega,rfl,rfl,by omega,Lib.hid (by simp),by show (w.heap.push _)[w.heap.size]?=_;simp [cellsOf],(Below.refl _ _).alloc (Nat.le_refl _) _⟩
 case round=>
  obtain ⟨j,r,l,hj,rfl,rfl,hr,hd,hblk,hbel⟩:=hrel
  have hm:r % 16<16:=Nat.mod_lt _ (by omega)
  cases j with
  | zero=>
   have e:digits 16 h=l:=hd.out
   have hcv:=mg hblk 16 16 (by rw [← e];exact Ae 16 h)
   have E:=Lib.hid e
   clear e hd hblk
   go_wp2_with fail
   go_ret
   exact ⟨by rw [E.out];rfl,hbel⟩
  | succ m=>
   have c0:wr.cell? ⟨w.heap.size,m,none⟩=some (.int .u8 0):=by
    have:=sB m l
    simp only [World.cell?,hblk]
    simpa using this
   have f0:wr.frozen? ⟨w.heap.size,m,none⟩=false:=by simp [World.frozen?,hblk]
   have B:=Lib.hid hblk
   clear hblk
   have e1:(((m+1:Nat):Int) - 1)=(m:Int):=by omega
   rw [e1]
   clear e1
   go_wp2_with fail
   go_roundw
   case rel=>
    refine ⟨m,r / 16,digit (r % 16)::l,by omega,rfl,by go_num,by omega,Lib.hid ?_,Bz (by rw [ES _ hm]) B.out,hbel.setCell (Nat.le_refl _) _⟩
    rw [hd.out]
    simp [digits]
   case measure=>simp [intOf]
def uA (v:Int) (b:UInt8):0≤hstep v b∧hstep v b≤18446744073709551615:=by
 unfold hstep
 generalize bits BinOp.xor IntKind.u64 v (IntKind.u64.wrap (b.toNat:Int))*1099511628211=x
 simp [IntKind.wrap,IntKind.signed,IntKind.bits]
 omega
def Fh (l:List UInt8):0≤xN l∧xN l≤18446744073709551615:=by
 rcases List.eq_nil_or_concat l with rfl | ⟨l',b,rfl⟩
 ·show 0≤(14695981039346656037:Int)∧(14695981039346656037:Int)≤18446744073709551615
  omega
 ·unfold xN
  rw [List.concat_eq_append,oo]
  exact uA _ b
end Go.Proofs.YtdbjakibneeeiaaGreatDoor.mL
