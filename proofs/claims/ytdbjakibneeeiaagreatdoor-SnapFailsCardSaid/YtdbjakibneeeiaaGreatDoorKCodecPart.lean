/- Layer 3 (codec: part, whole), by contract. -/
import Derived.Test.YtdbjakibneeeiaaGreatDoorKCodec
import Derived.Laws.BitsAllLaws
set_option linter.all false
set_option maxHeartbeats 4000000
set_option maxRecDepth 100000
namespace Go.Proofs.YtdbjakibneeeiaaGreatDoor.cE
open Go.RowKit
def wM (w:World) (b off:Nat) (l:List UInt8):Prop:=∀j (hj:j<l.length),w.cell? ⟨b,off+j,none⟩=some (.int .u8 (l[j].toNat:Int))
def oL (b off len cap f n:Nat) (hc:len≤cap) (hb:len≤100000) (hf:f≤1000) (hn:n≤100000) (h:len<f+n) (w:World) :
  Calls Tryz.prog 198 #[.slice (some ⟨b,off,none⟩) len cap,.int .i64 f,.int .i64 n] w fun e w'=>e=.returned (.tuple #[.slice none 0 0,.bool false])∧w=w':=by
 have T:decide ((len:Int)<(f:Int)+(n:Int))=true:=by simp;omega
 go_enter Tryz.func198,Tryz.ntmps198
 go_wp2_with fail
 go_ret2
 exact ⟨rfl,rfl⟩
def uv (b off len cap f:Nat) (hc:len≤cap) (hb:len≤100000) (hf:f≤1000) (h:f≤len) (w:World) :
  Calls Tryz.prog 198 #[.slice (some ⟨b,off,none⟩) len cap,.int .i64 f,.int .i64 (0:Nat)] w fun e w'=>e=.returned (.tuple #[.slice (some ⟨b,off,none⟩) 0 0,.bool true])∧w=w':=by
 have T:decide ((len:Int)<(f:Int))=false:=by simp;omega
 go_enter Tryz.func198,Tryz.ntmps198
 go_wp2_with fail
 go_ret2
 exact ⟨rfl,rfl⟩
def jI (b off len cap f n:Nat) (hc:len≤cap) (hb:len≤100000) (hf:f≤1000) (hn:n≤100000) (h:f+n≤len) (w:World) :
  Calls Tryz.prog 198 #[.slice (some ⟨b,off,none⟩) len cap,.int .i64 f,.int .i64 n] w fun e w'=>∃a,e=.returned (.tuple #[.slice a n n,.bool true])∧(0<n→a=some ⟨b,off+f,none⟩)∧w=w':=by
 have T:decide ((len:Int)<(f:Int)+(n:Int))=false:=by simp;omega
 by_cases h0:n=0
 ·subst h0
  go_enter Tryz.func198,Tryz.ntmps198
  go_wp2_with fail
  go_ret2
  exact ⟨_,rfl,fun c=>absurd c (by omega),rfl⟩
 ·have h1:¬ (f+n=f):=by omega
  go_enter Tryz.func198,Tryz.ntmps198
  go_wp2_with fail
  simp only [Nat.add_sub_cancel_left]
  go_ret2
  exact ⟨_,rfl,fun _=>rfl,rfl⟩
def bX (l:List UInt8):Int:=wrap64 (whole l)
def kA (l:List UInt8) (h:whole l<9223372036854775808):bX l=whole l:=by
 unfold bX wrap64
 omega
def A4 (x:Int) (c:Nat) (hc:c<256) (hx:x % 256=0):bits .or .i64 x (c:Int)=wrap64 (x+c):=by
 have e:(BitVec.ofInt 64 x ||| BitVec.ofInt 64 (c:Int)).toNat=(x % 18446744073709551616).toNat+c:=by
  rw [BitVec.toNat_or,BitVec.toNat_ofInt,BitVec.toNat_ofInt]
  have h1:((c:Int) % ((2 ^ 64:Nat):Int)).toNat=c:=by omega
  rw [h1]
  exact nat_join8 _ c (by omega) hc
 show IntKind.i64.wrap ((BitVec.ofInt 64 x ||| BitVec.ofInt 64 (c:Int)).toNat:Int)=_
 rw [e,IntKind.wrap_i64]
 unfold wrap64
 omega
def BA (x:Int) (W c:Nat) (hc:c<256) (hx:x=wrap64 W):bits .or .i64 (wrap64 (x*256)) (c:Int)=wrap64 ((W*256+c:Nat):Int):=by
 rw [A4 _ c hc (by unfold wrap64;omega),hx]
 unfold wrap64
 omega
def Bb (a:Option Addr) (c:Nat) (w:World) :
  Calls Tryz.prog 199 #[.slice a 0 c] w fun e w'=>e=.returned (.int .i64 0)∧w=w':=by
 go_enter Tryz.func199,Tryz.ntmps199
 go_wp2_with fail
 go_loop [3,8] (fun x i=>x=.int .i64 0∧i=.int .i64 0) (fun _ i=>(0:Nat))
 case atStart=>exact ⟨rfl,rfl⟩
 case round=>
  obtain ⟨rfl,rfl⟩:=hrel
  go_wp2_with fail
  go_ret
  exact ⟨rfl,rfl⟩
def Df (b off cap:Nat) (l:List UInt8) (h:l.length≤8) (h0:0<l.length) (w:World) (hw:wM w b off l) :
  Calls Tryz.prog 199 #[.slice (some ⟨b,off,none⟩) l.length cap] w fun e w'=>e=.returned (.int .i64 (bX l))∧w=w':=by
 have H:=hw
 have S:=r9 l
 obtain ⟨k8,hk8⟩:∃k,l.length=k:=⟨_,rfl⟩
 have HH:=Lib.hid hk8
 rw [hk8] at h h0 ⊢
 go_enter Tryz.func199,Tryz.ntmps199
 go_wp2_with fail
 go_loop [3,8] (fun x i=>∃(k:Nat),k≤k8∧i=.int .i64 k∧x=.int .i64 (bX (l.take k))) (fun _ i=>k8 - (intOf i).toNat)
 case atStart=>exact ⟨0,by omega,rfl,by simp [bX,whole,wrap64]⟩
 case round=>
  obtain ⟨k,hk,rfl,rfl⟩:=hrel
  by_cases hlt:k<k8
  ·have c0:=H k (by omega)
   have S0:=S k (by omega)
   have hc:=l[k].toNat_lt
   generalize l[k].toNat=c at c0 S0 hc
   have V:=Lib.hid (BA (bX (l.take k)) (whole (l.take k)) c hc rfl)
   have S1:=Lib.hid S0
   clear H hw S S0 hk8
   generalize bX (l.take k)=x at V ⊢
   go_wp2_with fail
   go_round
   case rel=>exact ⟨k+1,by omega,by go_num,congrArg (Value.int .i64) (V.out.trans (by rw [← S1.out];rfl))⟩
   case measure=>simp [intOf];omega
  ·have ek:k=k8:=by omega
   subst ek
   rw [← hk8,List.take_length]
   clear H hw hlt S
   have hk8:=Lib.hid hk8
   go_wp2_with fail
   go_ret
   exact ⟨rfl,rfl⟩
def xR (a:Option Addr) (b off cap:Nat) (l:List UInt8) (h:l.length≤8) (w:World) (ha:0<l.length→a=some ⟨b,off,none⟩) (hw:wM w b off l) :
  Calls Tryz.prog 199 #[.slice a l.length cap] w fun e w'=>e=.returned (.int .i64 (bX l))∧w=w':=by
 cases l with
 | nil=>
  have e:bX []=0:=by simp [bX,whole,wrap64]
  rw [e]
  exact Bb a cap w
 | cons c l=>
  rw [ha (by simp)]
  exact Df b off cap _ h (by simp) w hw
end Go.Proofs.YtdbjakibneeeiaaGreatDoor.cE
