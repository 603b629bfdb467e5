/- Layer 3 of the document's own answer (hopperref03: bytes, Number, Text), by contract. -/
import Derived.Test.YtdbjakibneeeiaaGreatDoorChecked
import Derived.Test.YtdbjakibneeeiaaGreatDoorKCodecPlain
import Derived.WalkKit
import Derived.ProofKit
import Derived.WalkLawsBesides
import Derived.WalkSpells
import Derived.WalkMore
import Derived.Lib.Hide
import Derived.Laws.Rows
import Derived.Laws.BytesString
import Derived.Laws.IdiomStrings
import Derived.Laws.Cells
import Derived.OwnWalk
import Derived.Deep.QuietTactic
import Derived.BigQuiet
import Derived.Deep.RegionHeld3
set_option linter.all false
set_option maxHeartbeats 4000000
set_option maxRecDepth 100000
namespace Go.Proofs.YtdbjakibneeeiaaGreatDoor.cE
open Go.RowKit
def Fs (w:World) (t:TypeId) (l:List Value) (m:Nat×Nat) (j:Nat) (hj:j<l.length):(w.alloc (.cells l.toArray t m)).cell? ⟨w.heap.size,j,none⟩=some l[j]:=by
 have B:(w.alloc (.cells l.toArray t m)).heap[w.heap.size]?=some (.cells l.toArray t m):=by show (w.heap.push _)[w.heap.size]?=_;simp
 simp only [World.cell?,B]
 simp [hj]
def built (w:World) (l:List UInt8) (t:TypeId) (m:Nat×Nat) (cap:Nat) :
  (convert 169 9 (.slice (some ⟨w.heap.size,0,none⟩) l.length cap)).run Tryz.prog (w.alloc (.cells (l.map fun b=>Value.int .u8 b.toNat).toArray t m))=.ok (.string ⟨l.toArray⟩) (w.alloc (.cells (l.map fun b=>Value.int .u8 b.toNat).toArray t m)):=by
 refine run_convert_bytes_back _ _ _ 5 _ cap l Tryz.underlying169 Tryz.underlying5 Tryz.underlying9 ?_
 intro j hj
 have e:(⟨w.heap.size,0,none⟩:Addr).add j=⟨w.heap.size,j,none⟩:=by unfold Addr.add;split <;> simp_all
 rw [e,Fs _ _ _ _ j (by simpa using hj)]
 simp
def uC (n:Nat):((UInt8.ofNat n).toNat:Int)=(n:Int) % 256:=by
 rw [UInt8.toNat_ofNat']
 omega
def vQ (n:Nat) (x:Int) (hx:x=(n:Int) % 256) (w:World) :
  (convert 169 9 (.slice (some ⟨w.heap.size,0,none⟩) 1 1)).run Tryz.prog (w.alloc (.cells #[.int .u8 x] 5 (0,0)))=.ok (.string ⟨#[UInt8.ofNat n]⟩) (w.alloc (.cells #[.int .u8 x] 5 (0,0))):=by
 rw [hx,← uC]
 exact built w [UInt8.ofNat n] 5 (0,0) 1
def DB (n:Nat) (h:n≤65535) (w:World) :
  (convert 169 9 (.slice (some ⟨w.heap.size,0,none⟩) 2 2)).run Tryz.prog (w.alloc (.cells #[.int .u8 ((n:Int) / 256),.int .u8 ((n:Int) % 256)] 5 (0,0)))=.ok (.string ⟨(spell 2 n).toArray⟩) (w.alloc (.cells #[.int .u8 ((n:Int) / 256),.int .u8 ((n:Int) % 256)] 5 (0,0))):=by
 have e:(n:Int) / 256=((UInt8.ofNat (n / 256)).toNat:Int):=by rw [UInt8.toNat_ofNat'];omega
 rw [e,← uC]
 exact built w [UInt8.ofNat (n / 256),UInt8.ofNat n] 5 (0,0) 2
def Br (n:Nat) (h:n<256):spell (size n) n=[UInt8.ofNat n]:=by
 have e:size n=1:=by rw [size,if_pos h]
 rw [e]
 rfl
def Dp (n:Nat) (h:¬ n<256):spell (size n) n=spell (size (n / 256)) (n / 256)++[UInt8.ofNat n]:=by
 have e:size n=size (n / 256)+1:=by rw [size,if_neg h]
 rw [e]
 rfl
def m9 {a b:ByteArray} (h:a=b):Ending.returned (.string a)=.returned (.string b):=by rw [h]
def gV (a b:List UInt8):(⟨a.toArray⟩:ByteArray)++⟨b.toArray⟩=⟨(a++b).toArray⟩:=by
 apply ByteArray.ext
 simp
def later {a w w':World} (h:Below a.heap.size a w) (k:Below w.heap.size w w'):Below a.heap.size a w':=h.trans (k.mono h.size)
def laid {a w:World} (h:Below a.heap.size a w) (o:Obj):Below a.heap.size a (w.alloc o):=h.alloc h.size o
def Lb (n:Nat):n<9223372036854775808→∀w:World,
  Calls Tryz.prog 111 #[.int .i64 n] w fun e w'=>e=.returned (.string ⟨(spell (size n) n).toArray⟩)∧Below w.heap.size w w':=by
 induction n using Nat.strongRecOn with
 | ind n ih=>
  intro hn w
  have hv:=vQ n
  by_cases h:n<256
  ·have T:decide (256≤(n:Int))=false:=by simp;omega
   have G:=Lib.hid (Br n h)
   clear ih hn h
   generalize spell (size n) n=l at G ⊢
   go_enter Tryz.func111,Tryz.ntmps111
   go_wp2_with fail
   go_ret
   exact ⟨m9 (by rw [G.out]),(Below.refl _ _).alloc (Nat.le_refl _) _⟩
  ·have T:decide (256≤(n:Int))=true:=by simp;omega
   have IH:=Lib.hid (ih (n / 256) (by omega) (by omega))
   have G:=Lib.hid (Dp n h)
   have W:wrap64 ((n:Int) / 256)=((n / 256:Nat):Int):=by simp only [wrap64];omega
   have L:((spell (size (n / 256)) (n / 256)).length:Int)+1≤100:=by
    have:=iw (n / 256) (by omega)
    rw [eZ]
    omega
   clear ih hn h
   generalize spell (size n) n=l at G ⊢
   go_enter Tryz.func111,Tryz.ntmps111
   go_wp2_with fail
   refine (IH.out _).mono ?_
   rintro e w' ⟨rfl,hb⟩
   go_wp2_with fail
   go_ret
   exact ⟨m9 (by rw [G.out];exact gV _ _),later ((Below.refl _ _).alloc (Nat.le_refl _) _) hb⟩
def Cj (n:Nat) (hn:n<9223372036854775808) (w:World) :
  Calls Tryz.prog 69 #[.int .i64 n] w fun e w'=>e=.returned (.string ⟨(num n).toArray⟩)∧Below w.heap.size w w':=by
 have T:decide ((n:Int)<0)=false:=by simp
 have B:=Lib.hid (Lb n hn w)
 have hv:=fun h w=>vQ (size n) (size n:Int) h w
 have hl:=eZ (size n) n
 have hm:=iw n hn
 unfold num
 generalize spell (size n) n=l at B hl ⊢
 generalize size n=k at hl hm hv ⊢
 have hv:=hv (by omega)
 clear hn
 go_enter Tryz.func69,Tryz.ntmps69
 go_wp2_with fail
 refine B.out.mono ?_
 rintro e w' ⟨rfl,hb⟩
 go_wp2_with fail
 go_ret
 exact ⟨m9 (gV [UInt8.ofNat k] l),laid hb _⟩
def B1 (n:Int) (h:n<0) (w:World) :
  Calls Tryz.prog 69 #[.int .i64 n] w fun e w'=>e=.returned (.string ⟨#[]⟩)∧w=w':=by
 have T:decide (n<0)=true:=by simp;omega
 clear h
 go_enter Tryz.func69,Tryz.ntmps69
 go_wp2_with fail
 go_ret
 exact ⟨rfl,rfl⟩
def A0 (n:Int) (w:World) (h:n<9223372036854775808) :
  Calls Tryz.prog 69 #[.int .i64 n] w fun e w'=>e=.returned (.string ⟨(oK n).toArray⟩)∧Below w.heap.size w w':=by
 unfold oK
 by_cases g:n<0
 ·rw [if_pos g]
  exact (B1 n g w).mono fun e w' ⟨he,hw⟩=>⟨he,hw▸Below.refl _ _⟩
 ·rw [if_neg g]
  obtain ⟨m,rfl⟩:=Int.eq_ofNat_of_zero_le (show 0≤n by omega)
  exact Cj m (by omega) w
def G7 (s:ByteArray) (w:World) (h:s.size≤65535) :
  Calls Tryz.prog 70 #[.string s] w fun e w'=>e=.returned (.string ⟨(text s.data.toList).toArray⟩)∧Below w.heap.size w w':=by
 have T:decide (65535<(s.size:Int))=false:=by simp;omega
 have hv:=DB s.size h
 have hl:=eZ 2 s.size
 have e:(⟨(text s.data.toList).toArray⟩:ByteArray)=⟨(spell 2 s.size).toArray⟩++s:=by
  apply ByteArray.ext
  simp [text]
 rw [e]
 generalize spell 2 s.size=l at hv hl ⊢
 go_enter Tryz.func70,Tryz.ntmps70
 go_wp2_with fail
 go_ret
 exact ⟨rfl,laid (Below.refl _ _) _⟩
def CN (s:ByteArray) (w:World) (h:65535<s.size) (hs:s.size≤maxLen) :
  Calls Tryz.prog 70 #[.string s] w fun e w'=>e=.returned (.string ⟨#[]⟩)∧w=w':=by
 unfold maxLen at hs
 have T:decide (65535<(s.size:Int))=true:=by simp;omega
 go_enter Tryz.func70,Tryz.ntmps70
 go_wp2_with fail
 go_ret
 exact ⟨rfl,rfl⟩
def Be (s:ByteArray) (w:World) (hs:s.size≤maxLen) :
  Calls Tryz.prog 70 #[.string s] w fun e w'=>e=.returned (.string ⟨(xZ s.data.toList).toArray⟩)∧Below w.heap.size w w':=by
 unfold xZ
 have e:s.data.toList.length=s.size:=by simp
 rw [e]
 by_cases g:65535<s.size
 ·rw [if_pos g]
  exact (CN s w g hs).mono fun e w' ⟨he,hw⟩=>⟨he,hw▸Below.refl _ _⟩
 ·rw [if_neg g]
  exact G7 s w (by omega)
end Go.Proofs.YtdbjakibneeeiaaGreatDoor.cE
namespace Go.Proofs.YtdbjakibneeeiaaGreatDoor.cE
open Go.RowKit
def bY:Option (Nat×List UInt8)→Value
 | none=>.tuple #[.int .i64 0,.string ⟨#[]⟩,.bool false]
 | some (n,r)=>.tuple #[.int .i64 n,.string ⟨r.toArray⟩,.bool true]
def iT:Option (List UInt8×List UInt8)→Value
 | none=>.tuple #[.string ⟨#[]⟩,.string ⟨#[]⟩,.bool false]
 | some (t,r)=>.tuple #[.string ⟨t.toArray⟩,.string ⟨r.toArray⟩,.bool true]
def HN (w:World) (n:Nat):Below w.heap.size w (w.drewN n):=by
 induction n with
 | zero=>exact Below.refl _ _
 | succ n ih=>exact ih.drew
def drawn {a w:World} (h:Below a.heap.size a w) (n:Nat):Below a.heap.size a (w.drewN n):=later h (HN w n)
def vA (s:ByteArray) (i j:Nat):s.extract i j=⟨((s.data.toList.take j).drop i).toArray⟩:=by
 apply ByteArray.ext
 apply Array.toList_inj.1
 simp [Array.toList_extract,List.extract,List.drop_take]
def sW (s:ByteArray) (i:Nat) (x:Int) (hx:x=i) (hi:i≤s.size) (w:World) :
  (Instr.slice 9 (.string s) (some (.int .i64 x)) none none).run Tryz.prog w=.ok (.string ⟨(s.data.toList.drop i).toArray⟩) w:=by
 subst hx
 rw [run_slice_string_l (w:=w) 9 s Tryz.underlying9 .i64 i (by omega) (by omega)]
 rw [vA,List.take_of_length_le (by simp)]
 rfl
def lR (s:ByteArray) (j:Nat) (y:Int) (hy:y=j) (hj:j≤s.size) (w:World) :
  (Instr.slice 9 (.string s) none (some (.int .i64 y)) none).run Tryz.prog w=.ok (.string ⟨(s.data.toList.take j).toArray⟩) w:=by
 subst hy
 rw [run_slice_string_h (w:=w) 9 s Tryz.underlying9 .i64 j (by omega) (by omega)]
 rw [vA]
 rfl
end Go.Proofs.YtdbjakibneeeiaaGreatDoor.cE

