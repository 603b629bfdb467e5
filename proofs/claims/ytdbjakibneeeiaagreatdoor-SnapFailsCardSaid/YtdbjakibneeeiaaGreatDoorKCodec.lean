/- Layer 3 (codec: spell, Number, Text), by contract. -/
import Derived.Test.YtdbjakibneeeiaaGreatDoorKG5CodecRefNum
import Derived.Test.YtdbjakibneeeiaaGreatDoorKBits
import Derived.Deep.OwnRows
import Derived.Deep.RegionHeld3
set_option linter.all false
set_option maxHeartbeats 4000000
set_option maxRecDepth 100000
namespace Go.Proofs.YtdbjakibneeeiaaGreatDoor.cE
open Go.RowKit
def cellsOf (j:Nat) (l:List UInt8):List Value:=List.replicate j (.int .u8 0)++l.map (fun b=>.int .u8 b.toNat)
def jJ (m:Nat) (l:List UInt8) (d:UInt8):(cellsOf (m+1) l).toArray.setIfInBounds m (.int .u8 d.toNat)=(cellsOf m (d::l)).toArray:=by
 have:(cellsOf (m+1) l).set m (.int .u8 d.toNat)=cellsOf m (d::l):=by
  unfold cellsOf
  rw [List.replicate_succ',List.append_assoc,List.set_append_right _ _ (by simp)]
  simp
 rw [← this]
 simp
def sB (m:Nat) (l:List UInt8):(cellsOf (m+1) l).toArray[m]?=some (.int .u8 0):=by
 unfold cellsOf
 simp [List.getElem?_append]
def Bz {wr:World} {n m:Nat} {l:List UInt8} {d:UInt8} {v:Value} {t:TypeId} (hv:v=.int .u8 d.toNat) (B:wr.heap[n]?=some (.cells (cellsOf (m+1) l).toArray t (0,0))) :
  (wr.setCell ⟨n,m,none⟩ v).heap[n]?=some (.cells (cellsOf m (d::l)).toArray t (0,0)):=by
 rw [heap_setCell_same wr n m _ _ v B,hv,jJ]
def mg {wr:World} {n:Nat} {l:List UInt8} {t:TypeId} (B:wr.heap[n]?=some (.cells (cellsOf 0 l).toArray t (0,0))) (len cap:Nat) (hl:l.length=len) :
  (convert 169 9 (.slice (some ⟨n,0,none⟩) len cap)).run Tryz.prog wr=.ok (.string ⟨l.toArray⟩) wr:=by
 subst hl
 refine run_convert_bytes_back _ _ _ 5 _ cap l Tryz.underlying169 Tryz.underlying5 Tryz.underlying9 ?_
 intro j hj
 have e:(⟨n,0,none⟩:Addr).add j=⟨n,j,none⟩:=by unfold Addr.add;split <;> simp_all
 rw [e]
 simp only [World.cell?,B]
 simp [cellsOf,hj]
def Bt (i n:Nat):spell (i+1) n=UInt8.ofNat (n / 256 ^ i)::spell i n:=by
 induction i generalizing n with
 | zero=>simp [spell]
 | succ i ih=>
  rw [spell,ih (n / 256),spell,Nat.div_div_eq_div_mul,Nat.pow_succ']
  rfl
def made (k:Nat) (hk:k≤8) (w:World) :
  (Instr.makeSlice 169 (.int .i64 (k:Int)) (.int .i64 (k:Int))).run Tryz.prog w=.ok (.slice (some ⟨w.heap.size,0,none⟩) k k) (w.alloc (.cells (cellsOf k []).toArray 5 (0,0))):=by
 have h:=run_make_row' (P:=Tryz.prog) 169 5 (.int .u8 0) 1 Tryz.underlying169 (by kernel_rfl) rfl .i64 .i64 k (by omega) (by omega) w
 rw [h]
 have e:madeCells #[Value.int .u8 0] k=(cellsOf k []).toArray:=by
  apply Array.ext
  ·simp [madeCells,cellsOf]
  ·intro i h1 h2
   simp [madeCells,cellsOf,Nat.mod_one]
 rw [e]
def GM (n j:Nat):(n:Int) / 2 ^ (8*j) % 256=((UInt8.ofNat (n / 256 ^ j)).toNat:Int):=by
 have e:(2:Int) ^ (8*j)=((256 ^ j:Nat):Int):=by
  rw [Int.pow_mul]
  simp
 rw [e,uC]
 simp
def Gu (n k:Nat) (hn:n≤9223372036854775807) (hk:k≤8) (w:World) :
  Calls Tryz.prog 230 #[.int .i64 n,.int .i64 k] w fun e w'=>e=.returned (.string ⟨(spell k n).toArray⟩)∧Below w.heap.size w w':=by
 have D:=Lib.hid hn
 clear hn
 have hmk:=made k hk
 have B0:(w.alloc (.cells (cellsOf k []).toArray 5 (0,0))).heap[w.heap.size]?=some (.cells (cellsOf k []).toArray 5 (0,0)):=by show (w.heap.push _)[w.heap.size]?=_;simp
 have L0:=Lib.hid (laid (Below.refl w.heap.size w) (.cells (cellsOf k []).toArray 5 (0,0)))
 generalize hw0:w.alloc (.cells (cellsOf k []).toArray 5 (0,0))=w0 at B0 L0 hmk
 go_enter Tryz.func230,Tryz.ntmps230
 go_wp2_with fail
 go_loopw [11] (fun i wr=>∃(j:Nat),j≤k∧i=.int .i64 j∧wr.heap[w.heap.size]?=some (.cells (cellsOf (k - j) (spell j n)).toArray 5 (0,0))∧Below w.heap.size w wr) (fun i _=>k - (intOf i).toNat)
 case atStart=>exact ⟨0,by omega,rfl,B0,L0.out⟩
 case round=>
  obtain ⟨j,hj,rfl,hblk,hbel⟩:=hrel
  by_cases hlt:j<k
  ·have hm:k - j=(k - 1 - j)+1:=by omega
   rw [hm] at hblk
   have c0:wr.cell? ⟨w.heap.size,k - 1 - j,none⟩=some (.int .u8 0):=by
    have:=sB (k - 1 - j) (spell j n)
    simp only [World.cell?,hblk]
    simpa using this
   have f0:wr.frozen? ⟨w.heap.size,k - 1 - j,none⟩=false:=by simp [World.frozen?,hblk]
   have B:=Lib.hid hblk
   clear hblk B0 L0 hw0 hm
   go_wp2_with fail
   go_roundw
   case rel=>
    refine ⟨j+1,by omega,by go_num,?_,hbel.setCell (Nat.le_refl _) _⟩
    have:=Bz (congrArg (Value.int .u8) (GM n j)) B.out
    rw [← Bt] at this
    rw [show k - (j+1)=k - 1 - j from by omega]
    exact this
   case measure=>simp [intOf];omega
  ·have ej:j=k:=by omega
   subst ej
   rw [Nat.sub_self] at hblk
   have hcv:=mg hblk j j (eZ j n)
   clear B0 L0 hw0 hlt hblk
   go_wp2_with fail
   go_ret
   exact ⟨rfl,hbel⟩
def A8 (k:Nat):256 ^ k=2 ^ (8*k):=by
 rw [Nat.pow_mul]
def Ej (x k:Nat) (hx:x<2 ^ 64) (h:2 ^ k≤x):k+1≤Lib.bitLen x:=by
 rw [Lib.bitLen_shift k x h hx]
 have h1:1≤x / 2 ^ k:=(Nat.le_div_iff_mul_le (Nat.pow_pos (by omega))).2 (by omega)
 have h2:x / 2 ^ k≤x:=Nat.div_le_self _ _
 rw [Lib.bitLen_half (x / 2 ^ k) (by omega) (by omega)]
 omega
def D3 (n:Nat) (hn:n≤9223372036854775807):max 1 ((Lib.bitLen n+7) / 8)=size n:=by
 obtain ⟨h1,h2⟩:=vW n
 have hp:=size_pos n
 have hm:=iw n (by omega)
 rw [A8] at h1
 have hb:=Lib.bitLen_le n (8*size n) (by omega) h1
 rcases h2 with h2 | h2
 ·rw [h2] at hb ⊢
  omega
 ·rw [A8] at h2
  have:=Ej n (8*(size n - 1)) (by omega) h2
  omega
def JF (k:Nat) (hk:k≤255) (W:World) (b:Nat) (h:W.cell? ⟨b,0,none⟩=some (.int .u8 (IntKind.u8.wrap (k:Int)))) :
  (convert 169 9 (.slice (some ⟨b,0,none⟩) 1 1)).run Tryz.prog W=.ok (.string ⟨#[UInt8.ofNat k]⟩) W:=by
 refine run_convert_bytes_back _ _ _ 5 _ 1 [UInt8.ofNat k] Tryz.underlying169 Tryz.underlying5 Tryz.underlying9 ?_
 intro j hj
 have e:(⟨b,0,none⟩:Addr).add j=⟨b,j,none⟩:=by unfold Addr.add;split <;> simp_all
 have hj0:j=0:=by simpa using hj
 subst hj0
 rw [e,h]
 simp [IntKind.wrap,IntKind.signed,IntKind.bits]
def Cx (n:Nat) (hn:n≤9223372036854775807) (w:World) :
  Calls Tryz.prog 221 #[.int .i64 n] w fun e w'=>e=.returned (.string ⟨(num n).toArray⟩)∧Below w.heap.size w w':=by
 have T:decide ((n:Int)<0)=false:=by simp
 have B:=Lib.hid (fun w=>len (n:Int) w (by omega) (by omega))
 have C:=Lib.hid (fun w=>Gu n (size n) hn (iw n (by omega)) w)
 have hm:=iw n (by omega)
 have hl:=eZ (size n) n
 have hq:Lib.bitLen n≤64:=Lib.bitLen_le n 64 (by omega) (by omega)
 have M:max (1:Int) (((Lib.bitLen n:Int)+7) / 8)=(size n:Int):=by
  have:=D3 n hn
  omega
 have D:=Lib.hid hn
 rw [Int.toNat_natCast] at B
 unfold num
 generalize spell (size n) n=l at C hl ⊢
 generalize Lib.bitLen n=q at B hq M
 generalize size n=k at C hl hm M ⊢
 have hv:=JF k (by omega)
 have hcat:¬ (9223372036854775807<1+k):=by omega
 go_enter Tryz.func221,Tryz.ntmps221
 go_wp2_with fail
 refine (B.out _).mono ?_
 rintro e w' ⟨rfl,rfl⟩
 go_wp2_with fail
 refine wp_region_noPanic ?_
 refine wp_region_held_drew (S:=fun w'=>Below w.heap.size w w') (by kernel_rfl) (Below.refl _ _).drew (fun hHeld=>?_)
 refine wpAnyH_take (i:=0) (v:=?_) rfl (by kernel_rfl) (by kernel_rfl) (by kernel_rfl) (fun _ _ _ h=>h) (Or.inl ⟨rfl,?_⟩) (by assumption) ?_
 rotate_left
 ·intro w hSw
  go_simp
  try with_reducible rfl
 try simp only [Act.put,aj]
 refine wpAnyH_take (i:=1) (v:=?_) rfl (by kernel_rfl) (by kernel_rfl) (by kernel_rfl) (fun _ _ _ h=>h) (Or.inl ⟨rfl,?_⟩) (by assumption) ?_
 rotate_left
 ·intro w hSw
  go_simp
  try with_reducible rfl
 try simp only [Act.put,aj]
 refine wpAnyH_take (i:=4) (v:=?_) rfl (by kernel_rfl) (by kernel_rfl) (by kernel_rfl) (fun _ _ _ h=>h) (Or.inl ⟨rfl,?_⟩) (by assumption) ?_
 rotate_left
 ·intro w hSw
  go_simp
  try with_reducible rfl
 try simp only [Act.put,aj]
 refine wpAnyH_take (i:=5) (v:=?_) rfl (by kernel_rfl) (by kernel_rfl) (by kernel_rfl) (fun _ _ _ h=>h) (Or.inl ⟨rfl,?_⟩) (by assumption) ?_
 rotate_left
 ·intro w hSw
  go_simp
  try with_reducible rfl
 try simp only [Act.put,aj]
 refine wpAnyH_ready (rs:=[2,6]) (by kernel_rfl) (by simp) ?_
 refine AllReadyH.cons rfl (fun K hK=>?_) ?_
 ·go_simp
  refine hK.out _ _ (laid (by assumption) _) (fun hHeld=>?_)
  clear hK K
  try simp only [Act.put,aj]
  refine wpAnyH_ready (rs:=[3,6]) (by kernel_rfl) (by simp) ?_
  refine AllReadyH.cons rfl (fun K hK=>?_) ?_
  ·go_simp
   refine hK.out _ _ (by assumption) (fun hHeld=>?_)
   clear hK K
   try simp only [Act.put,aj]
   refine wpAnyH_ready (rs:=[6]) (by kernel_rfl) (by simp) ?_
   refine AllReadyH.cons rfl (fun K hK=>?_) AllReadyH.nil
   go_simp
   refine (C.out _).mono ?_;rintro e w1 ⟨rfl,hb1⟩
   go_wp2_with fail
   refine hK.out _ _ (later (by assumption) hb1) (fun hHeld=>?_)
   clear hK K
   try simp only [Act.put,aj]
   refine wpAnyH_take (i:=7) (v:=?_) rfl (by kernel_rfl) (by kernel_rfl) (by kernel_rfl) (fun _ _ _ h=>h) (Or.inl ⟨rfl,?_⟩) (by assumption) ?_
   rotate_left
   ·intro w hSw
    go_simp
    try with_reducible rfl
   try simp only [Act.put,aj]
   refine wpAnyH_take (i:=8) (v:=?_) rfl (by kernel_rfl) (by kernel_rfl) (by kernel_rfl) (fun _ _ _ h=>h) (Or.inl ⟨rfl,?_⟩) (by assumption) ?_
   rotate_left
   ·intro w hSw
    go_simp
    try with_reducible rfl
   try simp only [Act.put,aj]
   refine wpAnyH_done (by kernel_rfl) (NoPanic.normal ?_) _
   go_wp2_with fail
   go_ret
   exact ⟨m9 (gV [UInt8.ofNat k] l),hHeld⟩
  refine AllReadyH.cons rfl (fun K hK=>?_) ?_
  ·go_simp
   refine (C.out _).mono ?_;rintro e w1 ⟨rfl,hb1⟩;have hcv:w1.cell? ⟨w.heap.size,0,none⟩=some (.int .u8 (IntKind.u8.wrap (k:Int))):=(hb1.cell (by simp;done)).trans (by simp;done)
   go_wp2_with fail
   refine hK.out _ _ (later (by assumption) hb1) (fun hHeld=>?_)
   clear hK K
   try simp only [Act.put,aj]
   refine wpAnyH_ready (rs:=[3]) (by kernel_rfl) (by simp) ?_
   refine AllReadyH.cons rfl (fun K hK=>?_) AllReadyH.nil
   go_simp
   refine hK.out _ _ (by assumption) (fun hHeld=>?_)
   clear hK K
   try simp only [Act.put,aj]
   refine wpAnyH_take (i:=7) (v:=?_) rfl (by kernel_rfl) (by kernel_rfl) (by kernel_rfl) (fun _ _ _ h=>h) (Or.inl ⟨rfl,?_⟩) (by assumption) ?_
   rotate_left
   ·intro w hSw
    go_simp
    try with_reducible rfl
   try simp only [Act.put,aj]
   refine wpAnyH_take (i:=8) (v:=?_) rfl (by kernel_rfl) (by kernel_rfl) (by kernel_rfl) (fun _ _ _ h=>h) (Or.inl ⟨rfl,?_⟩) (by assumption) ?_
   rotate_left
   ·intro w hSw
    go_simp
    try with_reducible rfl
   try simp only [Act.put,aj]
   refine wpAnyH_done (by kernel_rfl) (NoPanic.normal ?_) _
   go_wp2_with fail
   go_ret
   exact ⟨m9 (gV [UInt8.ofNat k] l),hHeld⟩
  exact AllReadyH.nil
 refine AllReadyH.cons rfl (fun K hK=>?_) ?_
 ·go_simp
  refine (C.out _).mono ?_;rintro e w1 ⟨rfl,hb1⟩
  go_wp2_with fail
  refine hK.out _ _ (later (by assumption) hb1) (fun hHeld=>?_)
  clear hK K
  try simp only [Act.put,aj]
  refine wpAnyH_ready (rs:=[2]) (by kernel_rfl) (by simp) ?_
  refine AllReadyH.cons rfl (fun K hK=>?_) AllReadyH.nil
  go_simp
  refine hK.out _ _ (laid (by assumption) _) (fun hHeld=>?_)
  clear hK K
  try simp only [Act.put,aj]
  refine wpAnyH_ready (rs:=[3]) (by kernel_rfl) (by simp) ?_
  refine AllReadyH.cons rfl (fun K hK=>?_) AllReadyH.nil
  go_simp
  refine hK.out _ _ (by assumption) (fun hHeld=>?_)
  clear hK K
  try simp only [Act.put,aj]
  refine wpAnyH_take (i:=7) (v:=?_) rfl (by kernel_rfl) (by kernel_rfl) (by kernel_rfl) (fun _ _ _ h=>h) (Or.inl ⟨rfl,?_⟩) (by assumption) ?_
  rotate_left
  ·intro w hSw
   go_simp
   try with_reducible rfl
  try simp only [Act.put,aj]
  refine wpAnyH_take (i:=8) (v:=?_) rfl (by kernel_rfl) (by kernel_rfl) (by kernel_rfl) (fun _ _ _ h=>h) (Or.inl ⟨rfl,?_⟩) (by assumption) ?_
  rotate_left
  ·intro w hSw
   go_simp
   try with_reducible rfl
  try simp only [Act.put,aj]
  refine wpAnyH_done (by kernel_rfl) (NoPanic.normal ?_) _
  go_wp2_with fail
  go_ret
  exact ⟨m9 (gV [UInt8.ofNat k] l),hHeld⟩
 exact AllReadyH.nil
def Bn (n:Int) (h:n<0) (w:World) :
  Calls Tryz.prog 221 #[.int .i64 n] w fun e w'=>e=.returned (.string ⟨#[]⟩)∧w=w':=by
 have T:decide (n<0)=true:=by simp;omega
 clear h
 go_enter Tryz.func221,Tryz.ntmps221
 go_wp2_with fail
 go_ret
 exact ⟨rfl,rfl⟩
def yh (n:Int) (w:World) (h:n<9223372036854775808) :
  Calls Tryz.prog 221 #[.int .i64 n] w fun e w'=>e=.returned (.string ⟨(oK n).toArray⟩)∧Below w.heap.size w w':=by
 unfold oK
 by_cases g:n<0
 ·rw [if_pos g]
  exact (Bn n g w).mono fun e w' ⟨he,hw⟩=>⟨he,hw▸Below.refl _ _⟩
 ·rw [if_neg g]
  obtain ⟨m,rfl⟩:=Int.eq_ofNat_of_zero_le (show 0≤n by omega)
  exact Cx m (by omega) w
def ctext (s:ByteArray) (w:World) (h:s.size≤65535) :
  Calls Tryz.prog 222 #[.string s] w fun e w'=>e=.returned (.string ⟨(text s.data.toList).toArray⟩)∧Below w.heap.size w w':=by
 have T:decide (65535<(s.size:Int))=false:=by simp;omega
 have C:=Lib.hid (fun w=>Gu s.size 2 (by omega) (by omega) w)
 have hl:=eZ 2 s.size
 have e:(⟨(text s.data.toList).toArray⟩:ByteArray)=⟨(spell 2 s.size).toArray⟩++s:=by
  apply ByteArray.ext
  simp [text]
 rw [e]
 generalize spell 2 s.size=l at C hl ⊢
 go_enter Tryz.func222,Tryz.ntmps222
 go_wp2_with fail
 refine (C.out _).mono ?_
 rintro e w' ⟨rfl,hb⟩
 go_wp2_with fail
 go_ret
 exact ⟨rfl,hb⟩
end Go.Proofs.YtdbjakibneeeiaaGreatDoor.cE
