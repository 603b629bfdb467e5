/- Layer 3 (codec: TakeText), by contract. -/
import Derived.Test.YtdbjakibneeeiaaGreatDoorKCodecTake
set_option linter.all false
set_option maxHeartbeats 4000000
set_option maxRecDepth 100000
namespace Go.Proofs.YtdbjakibneeeiaaGreatDoor.cE
open Go.RowKit
def kG (s:ByteArray) (m:Int) (h:s.size<2) (w:World) :
  Calls Tryz.prog 162 #[.string s,.int .i64 m] w fun e w'=>e=.returned (iT none)∧Below w.heap.size w w':=by
 have S0:=lR s s.size (min (s.size:Int) 65537) (by omega) (by omega)
 rw [List.take_of_length_le (by simp)] at S0
 obtain ⟨cap,w0,hv,hcap,hb,hbel,hz⟩:=kV s.data.toList w
 have hlen:s.data.toList.length=s.size:=by simp
 rw [hlen] at hv hcap
 have P:Hid (Calls Tryz.prog 198 #[.slice (some ⟨w.heap.size,0,none⟩) s.size cap,.int .i64 0,.int .i64 2] w0 fun e w'=>e=.returned (.tuple #[.slice none 0 0,.bool false])∧w0=w'):=
  Lib.hid (oL w.heap.size 0 s.size cap 0 2 hcap (by omega) (by omega) (by omega) (by omega) w0)
 have hs:s.size≤10:=by omega
 clear h hb hlen hz
 go_enter Tryz.func162,Tryz.ntmps162
 go_wp2_with fail
 refine P.out.mono ?_
 rintro e w' ⟨rfl,rfl⟩
 go_wp2_with fail
 go_ret3
 exact ⟨rfl,hbel⟩
def eW (b off k:Nat):(⟨b,off,none⟩:Addr).add k=⟨b,off+k,none⟩:=by
 unfold Addr.add
 split <;> simp_all
def uV (s:ByteArray) (m:Int) (a b:UInt8) (r:List UInt8) (n:Nat) (hl:s.data.toList=a::b::r) (hn:256*a.toNat+b.toNat=n) (hs2:s.size≤maxLen) (w:World) :
  Calls Tryz.prog 162 #[.string s,.int .i64 m] w fun e w'=>e=.returned (iT (if (n:Int)≤m∧n≤r.length then some (r.take n,r.drop n) else none))∧Below w.heap.size w w':=by
 have ha8:=a.toNat_lt
 have hb8:=b.toNat_lt
 have hn16:n≤65535:=by omega
 have hsz:s.size=r.length+2:=by
  have:s.data.toList.length=s.size:=by simp
  rw [hl] at this
  simp at this
  omega
 have S0:=lR s (min s.size 65537) (min (s.size:Int) 65537) (by omega) (by omega)
 rw [hl] at S0
 obtain ⟨q,hq⟩:∃k,min s.size 65537=k+2:=⟨min s.size 65537 - 2,by omega⟩
 rw [hq,List.take_succ_cons,List.take_succ_cons] at S0
 obtain ⟨cap,w0,hv,hcap,hb,hbel,hz⟩:=kV (a::b::r.take q) w
 have hlen:(a::b::r.take q).length=q+2:=by simp;omega
 rw [hlen] at hv hcap
 have P:Hid (Calls Tryz.prog 198 #[.slice (some ⟨w.heap.size,0,none⟩) (q+2) cap,.int .i64 0,.int .i64 2] w0 fun e w'=>e=.returned (.tuple #[.slice (some ⟨w.heap.size,0,none⟩) 2 2,.bool true])∧w0=w'):=by
  refine Lib.hid ((jI w.heap.size 0 (q+2) cap 0 2 hcap (by omega) (by omega) (by omega) (by omega) w0).mono ?_)
  rintro e w' ⟨a,rfl,ha,rfl⟩
  rw [ha (by omega)]
  exact ⟨rfl,rfl⟩
 have ew:whole [a,b]=n:=by
  simp only [whole,List.foldl_cons,List.foldl_nil]
  omega
 have ewb:bX [a,b]=(n:Int):=by
  rw [kA _ (by rw [ew];omega),ew]
 have Wh:Hid (Calls Tryz.prog 199 #[.slice (some ⟨w.heap.size,0,none⟩) 2 2] w0 fun e w'=>e=.returned (.int .i64 (n:Int))∧w0=w'):=by
  refine Lib.hid ?_
  rw [← ewb]
  refine xR _ w.heap.size 0 2 [a,b] (by simp) w0 (fun _=>rfl) ?_
  intro j hj
  have hj2:j<2:=by simpa using hj
  have:=hb j (by rw [hlen];omega)
  rw [this]
  rcases (show j=0∨j=1 by omega) with rfl | rfl <;> rfl
 clear ewb ew
 obtain ⟨V,HV⟩:∃V,Hid (V=iT (if (n:Int)≤m∧n≤r.length then some (r.take n,r.drop n) else none)):=⟨_,Lib.hid rfl⟩
 rw [← HV.out]
 rcases (show m<(n:Int)∨((n:Int)≤m∧r.length<n)∨((n:Int)≤m∧n≤r.length) by omega) with c | ⟨c,c2⟩ | ⟨c,c2⟩
 ·have M1:decide (m<(n:Int))=true:=by simp;omega
  have HV:=Lib.hid (HV.out.trans (by rw [if_neg (by omega)]))
  have D:=Lib.hid (And.intro hq (And.intro hs2 hn16))
  clear hb hl hn ha8 hb8 hsz hq hlen hz c hn16 hs2
  go_enter Tryz.func162,Tryz.ntmps162
  go_wp2_with fail
  refine P.out.mono ?_
  rintro e w' ⟨rfl,rfl⟩
  go_wp2_with fail
  refine Wh.out.mono ?_
  rintro e w' ⟨rfl,rfl⟩
  go_wp2_with fail
  go_ret3
  exact ⟨by rw [HV.out];rfl,hbel⟩
 ·have M1:decide (m<(n:Int))=false:=by simp;omega
  have HV:=Lib.hid (HV.out.trans (by rw [if_neg (by omega)]))
  have P2:Hid (Calls Tryz.prog 198 #[.slice (some ⟨w.heap.size,0,none⟩) (q+2) cap,.int .i64 2,.int .i64 (n:Int)] w0 fun e w'=>e=.returned (.tuple #[.slice none 0 0,.bool false])∧w0=w'):=
   Lib.hid (oL w.heap.size 0 (q+2) cap 2 n hcap (by omega) (by omega) (by omega) (by omega) w0)
  clear hb hl hn ha8 hb8 hsz hq hlen hz c c2 hs2
  go_enter Tryz.func162,Tryz.ntmps162
  go_wp2_with fail
  refine P.out.mono ?_
  rintro e w' ⟨rfl,rfl⟩
  go_wp2_with fail
  refine Wh.out.mono ?_
  rintro e w' ⟨rfl,rfl⟩
  go_wp2_with fail
  refine Wh.out.mono ?_
  rintro e w' ⟨rfl,rfl⟩
  go_wp2_with fail
  refine P2.out.mono ?_
  rintro e w' ⟨rfl,rfl⟩
  go_wp2_with fail
  go_ret3
  exact ⟨by rw [HV.out];rfl,hbel⟩
 ·have M1:decide (m<(n:Int))=false:=by simp;omega
  have HV:=Lib.hid (HV.out.trans (by rw [if_pos ⟨c,c2⟩]))
  have hdl:(r.take n).length=n:=by rw [List.length_take];omega
  have hkq:n≤q:=by omega
  obtain ⟨a2,P2,ha2⟩:∃a2,Hid (Calls Tryz.prog 198 #[.slice (some ⟨w.heap.size,0,none⟩) (q+2) cap,.int .i64 2,.int .i64 (n:Int)] w0 fun e w'=>e=.returned (.tuple #[.slice (some a2) n n,.bool true])∧w0=w')∧(0<n→a2=⟨w.heap.size,2,none⟩):=by
   by_cases g:0<n
   ·refine ⟨⟨w.heap.size,2,none⟩,Lib.hid ((jI w.heap.size 0 (q+2) cap 2 n hcap (by omega) (by omega) (by omega) (by omega) w0).mono ?_),fun _=>rfl⟩
    rintro e w' ⟨a,rfl,ha,rfl⟩
    rw [ha g]
    exact ⟨rfl,rfl⟩
   ·refine ⟨⟨w.heap.size,0,none⟩,Lib.hid ?_,fun c=>absurd c g⟩
    have e0:n=0:=by omega
    rw [e0]
    exact uv w.heap.size 0 (q+2) cap 2 hcap (by omega) (by omega) (by omega) w0
  have hcv:∀k,(convert 169 9 (.slice (some a2) n n)).run Tryz.prog (w0.drewN k)=.ok (.string ⟨(r.take n).toArray⟩) (w0.drewN k):=by
   intro k
   have:=run_convert_bytes_back (P:=Tryz.prog) (w0.drewN k) 169 9 5 a2 n (r.take n) Tryz.underlying169 Tryz.underlying5 Tryz.underlying9 (by
    intro j hj
    rw [hdl] at hj
    rw [World.cell?_drewN,ha2 (by omega),eW]
    have:=hb (2+j) (by rw [hlen];omega)
    rw [Nat.zero_add] at this
    rw [this]
    simp [Nat.add_comm 2 j])
   rwa [hdl] at this
  have S2:=sW s (n+2) (2+(n:Int)) (by omega) (by omega)
  rw [hl,List.drop_succ_cons,List.drop_succ_cons] at S2
  generalize r.drop n=rd at S2 HV
  generalize r.take n=d at HV hcv
  have D:=Lib.hid (And.intro hq (And.intro hs2 hn16))
  clear hb hl hn ha8 hb8 hsz hq hlen hz c c2 hdl hkq ha2 hs2
  go_enter Tryz.func162,Tryz.ntmps162
  go_wp2_with fail
  refine P.out.mono ?_
  rintro e w' ⟨rfl,rfl⟩
  go_wp2_with fail
  refine Wh.out.mono ?_
  rintro e w' ⟨rfl,rfl⟩
  go_wp2_with fail
  refine Wh.out.mono ?_
  rintro e w' ⟨rfl,rfl⟩
  go_wp2_with fail
  refine P2.out.mono ?_
  rintro e w' ⟨rfl,rfl⟩
  go_wp2_with fail
  go_quiet (fail)
  go_wp2_with fail
  go_ret3
  exact ⟨by rw [HV.out];rfl,drawn hbel _⟩
def fU (s:ByteArray) (m:Int) (w:World) (hs:s.size≤maxLen) :
  Calls Tryz.prog 162 #[.string s,.int .i64 m] w fun e w'=>e=.returned (iT (dU s.data.toList m))∧Below w.heap.size w w':=by
 have hsz:s.data.toList.length=s.size:=by simp
 match hl:s.data.toList with
 | []=>
  rw [hl] at hsz
  exact kG s m (by simp at hsz;omega) w
 | [a]=>
  rw [hl] at hsz
  exact kG s m (by simp at hsz;omega) w
 | a::b::r=>exact uV s m a b r _ hl rfl hs w
end Go.Proofs.YtdbjakibneeeiaaGreatDoor.cE
