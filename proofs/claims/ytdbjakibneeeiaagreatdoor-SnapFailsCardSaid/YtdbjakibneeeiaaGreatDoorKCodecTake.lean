/- Layer 3 (codec: TakeNumber, TakeText), by contract. -/
import Derived.Test.YtdbjakibneeeiaaGreatDoorKCodecPart
set_option linter.all false
set_option maxHeartbeats 4000000
set_option maxRecDepth 100000
namespace Go.Proofs.YtdbjakibneeeiaaGreatDoor.cE
open Go.RowKit
def kV (h:List UInt8) (w:World):∃cap w0,(convert 9 169 (.string ⟨h.toArray⟩)).run Tryz.prog w=.ok (.slice (some ⟨w.heap.size,0,none⟩) h.length cap) w0∧
  h.length≤cap∧wM w0 w.heap.size 0 h∧Below w.heap.size w w0∧w.heap.size<w0.heap.size:=by
 have hr:=run_bytes_of_string (P:=Tryz.prog) w 9 169 5 ⟨h.toArray⟩ Tryz.underlying9 Tryz.underlying169 Tryz.underlying5
 have hs:(⟨h.toArray⟩:ByteArray).size=h.length:=rfl
 rw [hs] at hr
 refine ⟨_,_,hr,?_,?_,(Below.refl _ _).drew.alloc (Nat.le_refl _) _,?_⟩
 ·exact grownCap_ge _ _ _ _
 ·intro j hj
  have B:∀o:Obj,(w.drew.alloc o).heap[w.heap.size]?=some o:=fun o=>by show (w.heap.push o)[w.heap.size]?=_;simp
  simp only [World.cell?,B,Nat.zero_add]
  simp only [bytesRow]
  rw [Array.getElem?_append_left (by simpa using hj)]
  simp [hj]
 ·show w.heap.size<(w.heap.push _).size
  simp
def Dt (l:List UInt8) : -9223372036854775808≤bX l∧bX l≤9223372036854775807:=by
 unfold bX wrap64
 omega
def Dk (l:List UInt8):bX l<9223372036854775808:=by
 unfold bX wrap64
 omega
def o7 (b:UInt8) (r:List UInt8) (m:Int):Option (Nat×List UInt8):=
 if bX (r.take b.toNat)≤m∧oK (bX (r.take b.toNat))=b::r.take b.toNat then some ((bX (r.take b.toNat)).toNat,r.drop b.toNat) else none
def BC (b:UInt8) (r:List UInt8) (m:Int) (h:b.toNat≤8) (hr:b.toNat≤r.length):o7 b r m=aG (b::r) m:=by
 have hlen:(r.take b.toNat).length=b.toNat:=by rw [List.length_take];omega
 unfold o7
 simp only [aG]
 by_cases c:whole (r.take b.toNat)<9223372036854775808
 ·rw [kA _ c]
  have ht:=ED b (r.take b.toNat) hlen.symm (by omega)
  rw [hlen] at ht
  have hp:=size_pos (whole (r.take b.toNat))
  have e:((whole (r.take b.toNat):Int)≤m∧oK (whole (r.take b.toNat):Int)=b::r.take b.toNat)↔(1≤b.toNat∧b.toNat≤8∧b.toNat≤r.length∧size (whole (r.take b.toNat))=b.toNat∧whole (r.take b.toNat)<9223372036854775808∧(whole (r.take b.toNat):Int)≤m):=by
   unfold oK
   rw [if_neg (by omega),Int.toNat_natCast,ht]
   exact ⟨fun ⟨h1,h2⟩=>⟨by omega,h,hr,h2,c,h1⟩,fun ⟨_,_,_,h2,_,h1⟩=>⟨h1,h2⟩⟩
  simp only [e,Int.toNat_natCast]
 ·rw [if_neg ?_,if_neg (fun g=>c g.2.2.2.2.1)]
  intro g
  have hlt:=FK (r.take b.toNat)
  rw [hlen] at hlt
  have:256 ^ b.toNat≤256 ^ 8:=Nat.pow_le_pow_right (by omega) h
  have hneg:bX (r.take b.toNat)<0:=by
   unfold bX wrap64
   omega
  have:=g.2
  unfold oK at this
  rw [if_pos hneg] at this
  cases this
def tN (s:ByteArray) (m:Int) (h:s.size=0) (w:World) :
  Calls Tryz.prog 197 #[.string s,.int .i64 m] w fun e w'=>e=.returned (bY none)∧Below w.heap.size w w':=by
 have S0:=lR s 0 (min (s.size:Int) 9) (by omega) (by omega)
 rw [List.take_zero] at S0
 obtain ⟨cap,w0,hv,hcap,hb,hbel,hsz⟩:=kV [] w
 simp only [List.length_nil] at hv hcap
 have P:=Lib.hid (oL w.heap.size 0 0 cap 0 1 hcap (by omega) (by omega) (by omega) (by omega))
 have hs:s.size≤10:=by omega
 clear h
 go_enter Tryz.func197,Tryz.ntmps197
 go_wp2_with fail
 refine (P.out w0).mono ?_
 rintro e w' ⟨rfl,rfl⟩
 go_wp2_with fail
 go_ret3
 exact ⟨rfl,hbel⟩
def sM (s:ByteArray) (m:Int) (b:UInt8) (r:List UInt8) (hl:s.data.toList=b::r) (hs2:s.size≤maxLen) (h:r.length<b.toNat∨8<b.toNat) (w:World) :
  Calls Tryz.prog 197 #[.string s,.int .i64 m] w fun e w'=>e=.returned (bY none)∧Below w.heap.size w w':=by
 have hsz:s.size=r.length+1:=by
  have:s.data.toList.length=s.size:=by simp
  rw [hl] at this
  simp at this
  omega
 have S0:=lR s (min s.size 9) (min (s.size:Int) 9) (by omega) (by omega)
 rw [hl] at S0
 obtain ⟨n9,hn9⟩:∃k,min s.size 9=k+1:=⟨min s.size 9 - 1,by omega⟩
 rw [hn9,List.take_succ_cons] at S0
 obtain ⟨cap,w0,hv,hcap,hb,hbel,hz⟩:=kV (b::r.take n9) w
 have hlen:(b::r.take n9).length=n9+1:=by simp;omega
 rw [hlen] at hv hcap
 have P:Hid (Calls Tryz.prog 198 #[.slice (some ⟨w.heap.size,0,none⟩) (n9+1) cap,.int .i64 0,.int .i64 1] w0 fun e w'=>e=.returned (.tuple #[.slice (some ⟨w.heap.size,0,none⟩) 1 1,.bool true])∧w0=w'):=by
  refine Lib.hid ((jI w.heap.size 0 (n9+1) cap 0 1 hcap (by omega) (by omega) (by omega) (by omega) w0).mono ?_)
  rintro e w' ⟨a,rfl,ha,rfl⟩
  rw [ha (by omega)]
  exact ⟨rfl,rfl⟩
 have ewb:bX [b]=(b.toNat:Int):=by
  have:=b.toNat_lt
  rw [kA]
  ·simp [whole]
  ·simp [whole];omega
 have Wh:Hid (Calls Tryz.prog 199 #[.slice (some ⟨w.heap.size,0,none⟩) 1 1] w0 fun e w'=>e=.returned (.int .i64 (b.toNat:Int))∧w0=w'):=by
  refine Lib.hid ?_
  rw [← ewb]
  refine xR _ w.heap.size 0 1 [b] (by simp) w0 (fun _=>rfl) ?_
  intro j hj
  have:=hb j (by simp at hj ⊢;omega)
  have hj0:j=0:=by simpa using hj
  subst hj0
  simpa using this
 have hb8:=b.toNat_lt
 have P2:Hid (Calls Tryz.prog 198 #[.slice (some ⟨w.heap.size,0,none⟩) (n9+1) cap,.int .i64 1,.int .i64 (b.toNat:Int)] w0 fun e w'=>e=.returned (.tuple #[.slice none 0 0,.bool false])∧w0=w'):=
  Lib.hid (oL w.heap.size 0 (n9+1) cap 1 b.toNat hcap (by omega) (by omega) (by omega) (by omega) w0)
 generalize b.toNat=k8 at P2 Wh hb8
 unfold maxLen at hs2
 have HC:=Lib.hid hn9
 clear h hl hsz hb hn9 hlen ewb hz
 go_enter Tryz.func197,Tryz.ntmps197
 go_wp2_with fail
 refine P.out.mono ?_
 rintro e w' ⟨rfl,rfl⟩
 go_wp2_with fail
 refine Wh.out.mono ?_
 rintro e w' ⟨rfl,rfl⟩
 go_wp2_with fail
 refine P2.out.mono ?_
 rintro e w' ⟨rfl,rfl⟩
 go_wp2_with fail
 go_ret3
 exact ⟨rfl,hbel⟩
def zh (s:ByteArray) (m:Int) (b:UInt8) (r:List UInt8) (hl:s.data.toList=b::r) (hs2:s.size≤maxLen) (h:b.toNat≤r.length) (h8:b.toNat≤8) (w:World) :
  Calls Tryz.prog 197 #[.string s,.int .i64 m] w fun e w'=>e=.returned (bY (o7 b r m))∧Below w.heap.size w w':=by
 have hsz:s.size=r.length+1:=by
  have:s.data.toList.length=s.size:=by simp
  rw [hl] at this
  simp at this
  omega
 have S0:=lR s (min s.size 9) (min (s.size:Int) 9) (by omega) (by omega)
 rw [hl] at S0
 obtain ⟨n9,hn9⟩:∃k,min s.size 9=k+1:=⟨min s.size 9 - 1,by omega⟩
 rw [hn9,List.take_succ_cons] at S0
 obtain ⟨cap,w0,hv,hcap,hb,hbel,hz⟩:=kV (b::r.take n9) w
 have hlen:(b::r.take n9).length=n9+1:=by simp;omega
 rw [hlen] at hv hcap
 have P:Hid (Calls Tryz.prog 198 #[.slice (some ⟨w.heap.size,0,none⟩) (n9+1) cap,.int .i64 0,.int .i64 1] w0 fun e w'=>e=.returned (.tuple #[.slice (some ⟨w.heap.size,0,none⟩) 1 1,.bool true])∧w0=w'):=by
  refine Lib.hid ((jI w.heap.size 0 (n9+1) cap 0 1 hcap (by omega) (by omega) (by omega) (by omega) w0).mono ?_)
  rintro e w' ⟨a,rfl,ha,rfl⟩
  rw [ha (by omega)]
  exact ⟨rfl,rfl⟩
 have ewb:bX [b]=(b.toNat:Int):=by
  have:=b.toNat_lt
  rw [kA]
  ·simp [whole]
  ·simp [whole];omega
 have Wh:Hid (Calls Tryz.prog 199 #[.slice (some ⟨w.heap.size,0,none⟩) 1 1] w0 fun e w'=>e=.returned (.int .i64 (b.toNat:Int))∧w0=w'):=by
  refine Lib.hid ?_
  rw [← ewb]
  refine xR _ w.heap.size 0 1 [b] (by simp) w0 (fun _=>rfl) ?_
  intro j hj
  have:=hb j (by simp at hj ⊢;omega)
  have hj0:j=0:=by simpa using hj
  subst hj0
  simpa using this
 have hb8:=b.toNat_lt
 clear ewb
 have hdl:(r.take b.toNat).length=b.toNat:=by rw [List.length_take];omega
 have hk9:b.toNat≤n9:=by omega
 obtain ⟨a2,P2,ha2⟩:∃a2,Hid (Calls Tryz.prog 198 #[.slice (some ⟨w.heap.size,0,none⟩) (n9+1) cap,.int .i64 1,.int .i64 (b.toNat:Int)] w0 fun e w'=>e=.returned (.tuple #[.slice a2 b.toNat b.toNat,.bool true])∧w0=w')∧(0<b.toNat→a2=some ⟨w.heap.size,1,none⟩):=by
  by_cases g:0<b.toNat
  ·refine ⟨some ⟨w.heap.size,1,none⟩,Lib.hid ((jI w.heap.size 0 (n9+1) cap 1 b.toNat hcap (by omega) (by omega) (by omega) (by omega) w0).mono ?_),fun _=>rfl⟩
   rintro e w' ⟨a,rfl,ha,rfl⟩
   rw [ha g]
   exact ⟨rfl,rfl⟩
  ·refine ⟨some ⟨w.heap.size,0,none⟩,Lib.hid ?_,fun c=>absurd c g⟩
   have e0:b.toNat=0:=by omega
   rw [e0]
   exact uv w.heap.size 0 (n9+1) cap 1 hcap (by omega) (by omega) (by omega) w0
 have Wd:Hid (Calls Tryz.prog 199 #[.slice a2 b.toNat b.toNat] w0 fun e w'=>e=.returned (.int .i64 (bX (r.take b.toNat)))∧w0=w'):=by
  have:=xR a2 w.heap.size 1 b.toNat (r.take b.toNat) (by omega) w0 (by rw [hdl];exact ha2) (by
   intro j hj
   rw [hdl] at hj
   have:=hb (1+j) (by rw [hlen];omega)
   rw [Nat.zero_add] at this
   rw [this]
   simp [Nat.add_comm 1 j])
  rw [hdl] at this
  exact Lib.hid this
 have hb8:=b.toNat_lt
 have S1:=lR s (b.toNat+1) (1+(b.toNat:Int)) (by omega) (by omega)
 have S2:=sW s (b.toNat+1) (1+(b.toNat:Int)) (by omega) (by omega)
 rw [hl,List.take_succ_cons] at S1
 rw [hl,List.drop_succ_cons] at S2
 have hd1:=Dt (r.take b.toNat)
 have C:=Lib.hid (fun w=>yh (bX (r.take b.toNat)) w (Dk _))
 obtain ⟨V,HV⟩:∃V,Hid (V=bY (o7 b r m)):=⟨_,Lib.hid rfl⟩
 rw [← HV.out]
 unfold o7 at HV
 generalize r.drop b.toNat=rd at S2 HV
 generalize r.take b.toNat=d at S1 HV C Wd hd1
 clear ha2 hdl hk9
 generalize b.toNat=k8 at P2 Wh hb8 Wd S1 S2 h8
 generalize bX d=x at HV Wd C hd1
 unfold maxLen at hs2
 have HC:=Lib.hid hn9
 clear h hl hsz hb hn9 hlen hz
 by_cases c1:x≤m
 ·have M1:decide (m<x)=false:=by simp;omega
  by_cases c2:oK x=b::d
  ·have HV:=Lib.hid (HV.out.trans (by rw [if_pos ⟨c1,c2⟩]))
   have hx0:0≤x:=by
    apply Int.not_lt.1
    intro g
    unfold oK at c2
    rw [if_pos g] at c2
    cases c2
   have ex:((x.toNat:Nat):Int)=x:=by omega
   have EX:=Lib.hid ex
   rw [c2] at C
   clear c1 c2 hx0 ex
   go_enter Tryz.func197,Tryz.ntmps197
   go_wp2_with fail
   refine P.out.mono ?_
   rintro e w' ⟨rfl,rfl⟩
   go_wp2_with fail
   refine Wh.out.mono ?_
   rintro e w' ⟨rfl,rfl⟩
   go_wp2_with fail
   refine P2.out.mono ?_
   rintro e w' ⟨rfl,rfl⟩
   go_wp2_with fail
   refine Wd.out.mono ?_
   rintro e w' ⟨rfl,rfl⟩
   go_wp2_with fail
   refine wp_region_noPanic ?_
   refine wp_region_held_drew (S:=fun w'=>Below w.heap.size w w') (by kernel_rfl) (later hbel (Below.refl _ _).drew) (fun hHeld=>?_)
   refine wpAnyH_take (i:=0) (v:=?_) rfl (by kernel_rfl) (by kernel_rfl) (by kernel_rfl) (fun _ _ _ h=>h) (Or.inl ⟨rfl,?_⟩) (by assumption) ?_
   rotate_left
   ·intro w hSw
    go_simp
    try with_reducible rfl
   try simp only [Act.put,aj]
   refine wpAnyH_take (i:=1) (v:=?_) rfl (by kernel_rfl) (by kernel_rfl) (by kernel_rfl) (fun _ _ _ h=>h) (Or.inl ⟨rfl,?_⟩) (by assumption) ?_
   rotate_left
   ·intro w hSw
    go_simp
    try with_reducible rfl
   try simp only [Act.put,aj]
   refine wpAnyH_take (i:=2) (v:=?_) rfl (by kernel_rfl) (by kernel_rfl) (by kernel_rfl) (fun _ _ _ h=>h) (Or.inl ⟨rfl,?_⟩) (by assumption) ?_
   rotate_left
   ·intro w hSw
    go_simp
    try with_reducible rfl
   try simp only [Act.put,aj]
   refine wpAnyH_take (i:=3) (v:=?_) rfl (by kernel_rfl) (by kernel_rfl) (by kernel_rfl) (fun _ _ _ h=>h) (Or.inl ⟨rfl,?_⟩) (by assumption) ?_
   rotate_left
   ·intro w hSw
    go_simp
    try with_reducible rfl
   try simp only [Act.put,aj]
   refine wpAnyH_take (i:=4) (v:=?_) rfl (by kernel_rfl) (by kernel_rfl) (by kernel_rfl) (fun _ _ _ h=>h) (Or.inl ⟨rfl,?_⟩) (by assumption) ?_
   rotate_left
   ·intro w hSw
    go_simp
    try with_reducible rfl
   try simp only [Act.put,aj]
   refine wpAnyH_take (i:=6) (v:=?_) rfl (by kernel_rfl) (by kernel_rfl) (by kernel_rfl) (fun _ _ _ h=>h) (Or.inl ⟨rfl,?_⟩) (by assumption) ?_
   rotate_left
   ·intro w hSw
    go_simp
    try with_reducible rfl
   try simp only [Act.put,aj]
   refine wpAnyH_take (i:=7) (v:=?_) rfl (by kernel_rfl) (by kernel_rfl) (by kernel_rfl) (fun _ _ _ h=>h) (Or.inl ⟨rfl,?_⟩) (by assumption) ?_
   rotate_left
   ·intro w hSw
    go_simp
    try with_reducible rfl
   try simp only [Act.put,aj]
   refine wpAnyH_take (i:=8) (v:=?_) rfl (by kernel_rfl) (by kernel_rfl) (by kernel_rfl) (fun _ _ _ h=>h) (Or.inl ⟨rfl,?_⟩) (by assumption) ?_
   rotate_left
   ·intro w hSw
    go_simp
    try with_reducible rfl
   try simp only [Act.put,aj]
   refine wpAnyH_ready (rs:=[5]) (by kernel_rfl) (by simp) ?_
   refine AllReadyH.cons rfl (fun K hK=>?_) AllReadyH.nil
   go_simp
   refine (C.out _).mono ?_;rintro e w1 ⟨rfl,hb1⟩
   go_wp2_with fail
   refine hK.out _ _ (later (by assumption) hb1) (fun hHeld=>?_)
   clear hK K
   try simp only [Act.put,aj]
   refine wpAnyH_take (i:=9) (v:=?_) rfl (by kernel_rfl) (by kernel_rfl) (by kernel_rfl) (fun _ _ _ h=>h) (Or.inl ⟨rfl,?_⟩) (by assumption) ?_
   rotate_left
   ·intro w hSw
    go_simp
    try with_reducible rfl
   try simp only [Act.put,aj]
   refine wpAnyH_take (i:=10) (v:=?_) rfl (by kernel_rfl) (by kernel_rfl) (by kernel_rfl) (fun _ _ _ h=>h) (Or.inl ⟨rfl,?_⟩) (by assumption) ?_
   rotate_left
   ·intro w hSw
    go_simp
    try with_reducible rfl
   try simp only [Act.put,aj]
   refine wpAnyH_done (by kernel_rfl) (NoPanic.normal ?_) _
   have hf:Below w.heap.size w w1:=by assumption
   go_wp2_with fail
   go_quiet (fail)
   go_wp2_with fail
   go_ret3
   exact ⟨by rw [HV.out];simp only [bY,EX.out];rfl,drawn hf _⟩
  ·have HV:=Lib.hid (HV.out.trans (by rw [if_neg (fun g=>c2 g.2)]))
   generalize oK x=L at C c2
   have hB:(L==b::d)=false:=by simpa using c2
   clear c1 c2
   go_enter Tryz.func197,Tryz.ntmps197
   go_wp2_with fail
   refine P.out.mono ?_
   rintro e w' ⟨rfl,rfl⟩
   go_wp2_with fail
   refine Wh.out.mono ?_
   rintro e w' ⟨rfl,rfl⟩
   go_wp2_with fail
   refine P2.out.mono ?_
   rintro e w' ⟨rfl,rfl⟩
   go_wp2_with fail
   refine Wd.out.mono ?_
   rintro e w' ⟨rfl,rfl⟩
   go_wp2_with fail
   refine wp_region_noPanic ?_
   refine wp_region_held_drew (S:=fun w'=>Below w.heap.size w w') (by kernel_rfl) (later hbel (Below.refl _ _).drew) (fun hHeld=>?_)
   refine wpAnyH_take (i:=0) (v:=?_) rfl (by kernel_rfl) (by kernel_rfl) (by kernel_rfl) (fun _ _ _ h=>h) (Or.inl ⟨rfl,?_⟩) (by assumption) ?_
   rotate_left
   ·intro w hSw
    go_simp
    try with_reducible rfl
   try simp only [Act.put,aj]
   refine wpAnyH_take (i:=1) (v:=?_) rfl (by kernel_rfl) (by kernel_rfl) (by kernel_rfl) (fun _ _ _ h=>h) (Or.inl ⟨rfl,?_⟩) (by assumption) ?_
   rotate_left
   ·intro w hSw
    go_simp
    try with_reducible rfl
   try simp only [Act.put,aj]
   refine wpAnyH_take (i:=2) (v:=?_) rfl (by kernel_rfl) (by kernel_rfl) (by kernel_rfl) (fun _ _ _ h=>h) (Or.inl ⟨rfl,?_⟩) (by assumption) ?_
   rotate_left
   ·intro w hSw
    go_simp
    try with_reducible rfl
   try simp only [Act.put,aj]
   refine wpAnyH_take (i:=3) (v:=?_) rfl (by kernel_rfl) (by kernel_rfl) (by kernel_rfl) (fun _ _ _ h=>h) (Or.inl ⟨rfl,?_⟩) (by assumption) ?_
   rotate_left
   ·intro w hSw
    go_simp
    try with_reducible rfl
   try simp only [Act.put,aj]
   refine wpAnyH_take (i:=4) (v:=?_) rfl (by kernel_rfl) (by kernel_rfl) (by kernel_rfl) (fun _ _ _ h=>h) (Or.inl ⟨rfl,?_⟩) (by assumption) ?_
   rotate_left
   ·intro w hSw
    go_simp
    try with_reducible rfl
   try simp only [Act.put,aj]
   refine wpAnyH_take (i:=6) (v:=?_) rfl (by kernel_rfl) (by kernel_rfl) (by kernel_rfl) (fun _ _ _ h=>h) (Or.inl ⟨rfl,?_⟩) (by assumption) ?_
   rotate_left
   ·intro w hSw
    go_simp
    try with_reducible rfl
   try simp only [Act.put,aj]
   refine wpAnyH_take (i:=7) (v:=?_) rfl (by kernel_rfl) (by kernel_rfl) (by kernel_rfl) (fun _ _ _ h=>h) (Or.inl ⟨rfl,?_⟩) (by assumption) ?_
   rotate_left
   ·intro w hSw
    go_simp
    try with_reducible rfl
   try simp only [Act.put,aj]
   refine wpAnyH_take (i:=8) (v:=?_) rfl (by kernel_rfl) (by kernel_rfl) (by kernel_rfl) (fun _ _ _ h=>h) (Or.inl ⟨rfl,?_⟩) (by assumption) ?_
   rotate_left
   ·intro w hSw
    go_simp
    try with_reducible rfl
   try simp only [Act.put,aj]
   refine wpAnyH_ready (rs:=[5]) (by kernel_rfl) (by simp) ?_
   refine AllReadyH.cons rfl (fun K hK=>?_) AllReadyH.nil
   go_simp
   refine (C.out _).mono ?_;rintro e w1 ⟨rfl,hb1⟩
   go_wp2_with fail
   refine hK.out _ _ (later (by assumption) hb1) (fun hHeld=>?_)
   clear hK K
   try simp only [Act.put,aj]
   refine wpAnyH_take (i:=9) (v:=?_) rfl (by kernel_rfl) (by kernel_rfl) (by kernel_rfl) (fun _ _ _ h=>h) (Or.inl ⟨rfl,?_⟩) (by assumption) ?_
   rotate_left
   ·intro w hSw
    go_simp
    try with_reducible rfl
   try simp only [Act.put,aj]
   refine wpAnyH_take (i:=10) (v:=?_) rfl (by kernel_rfl) (by kernel_rfl) (by kernel_rfl) (fun _ _ _ h=>h) (Or.inl ⟨rfl,?_⟩) (by assumption) ?_
   rotate_left
   ·intro w hSw
    go_simp
    try with_reducible rfl
   try simp only [Act.put,aj]
   refine wpAnyH_done (by kernel_rfl) (NoPanic.normal ?_) _
   have hf:Below w.heap.size w w1:=by assumption
   go_wp2_with fail
   go_ret3
   exact ⟨by rw [HV.out];rfl,hf⟩
 ·have M1:decide (m<x)=true:=by simp;omega
  have HV:=Lib.hid (HV.out.trans (by rw [if_neg (fun g=>c1 g.1)]))
  clear c1 C
  go_enter Tryz.func197,Tryz.ntmps197
  go_wp2_with fail
  refine P.out.mono ?_
  rintro e w' ⟨rfl,rfl⟩
  go_wp2_with fail
  refine Wh.out.mono ?_
  rintro e w' ⟨rfl,rfl⟩
  go_wp2_with fail
  refine P2.out.mono ?_
  rintro e w' ⟨rfl,rfl⟩
  go_wp2_with fail
  refine Wd.out.mono ?_
  rintro e w' ⟨rfl,rfl⟩
  go_wp2_with fail
  refine wp_region_noPanic ?_
  refine wp_region_held_drew (S:=fun w'=>Below w.heap.size w w') (by kernel_rfl) (later hbel (Below.refl _ _).drew) (fun hHeld=>?_)
  refine wpAnyH_take (i:=0) (v:=?_) rfl (by kernel_rfl) (by kernel_rfl) (by kernel_rfl) (fun _ _ _ h=>h) (Or.inl ⟨rfl,?_⟩) (by assumption) ?_
  rotate_left
  ·intro w hSw
   go_simp
   try with_reducible rfl
  try simp only [Act.put,aj]
  refine wpAnyH_take (i:=1) (v:=?_) rfl (by kernel_rfl) (by kernel_rfl) (by kernel_rfl) (fun _ _ _ h=>h) (Or.inl ⟨rfl,?_⟩) (by assumption) ?_
  rotate_left
  ·intro w hSw
   go_simp
   try with_reducible rfl
  try simp only [Act.put,aj]
  refine wpAnyH_take (i:=2) (v:=?_) rfl (by kernel_rfl) (by kernel_rfl) (by kernel_rfl) (fun _ _ _ h=>h) (Or.inl ⟨rfl,?_⟩) (by assumption) ?_
  rotate_left
  ·intro w hSw
   go_simp
   try with_reducible rfl
  try simp only [Act.put,aj]
  refine wpAnyH_take (i:=3) (v:=?_) rfl (by kernel_rfl) (by kernel_rfl) (by kernel_rfl) (fun _ _ _ h=>h) (Or.inl ⟨rfl,?_⟩) (by assumption) ?_
  rotate_left
  ·intro w hSw
   go_simp
   try with_reducible rfl
  try simp only [Act.put,aj]
  refine wpAnyH_take (i:=4) (v:=undef) rfl (by kernel_rfl) (by kernel_rfl) (by kernel_rfl) (fun _ _ _ h=>h) (Or.inr ⟨rfl,rfl⟩) (by assumption) ?_
  try simp only [Act.put,aj]
  refine wpAnyH_take (i:=5) (v:=undef) rfl (by kernel_rfl) (by kernel_rfl) (by kernel_rfl) (fun _ _ _ h=>h) (Or.inr ⟨rfl,rfl⟩) (by assumption) ?_
  try simp only [Act.put,aj]
  refine wpAnyH_take (i:=6) (v:=undef) rfl (by kernel_rfl) (by kernel_rfl) (by kernel_rfl) (fun _ _ _ h=>h) (Or.inr ⟨rfl,rfl⟩) (by assumption) ?_
  try simp only [Act.put,aj]
  refine wpAnyH_take (i:=7) (v:=undef) rfl (by kernel_rfl) (by kernel_rfl) (by kernel_rfl) (fun _ _ _ h=>h) (Or.inr ⟨rfl,rfl⟩) (by assumption) ?_
  try simp only [Act.put,aj]
  refine wpAnyH_take (i:=8) (v:=undef) rfl (by kernel_rfl) (by kernel_rfl) (by kernel_rfl) (fun _ _ _ h=>h) (Or.inr ⟨rfl,rfl⟩) (by assumption) ?_
  try simp only [Act.put,aj]
  refine wpAnyH_take (i:=9) (v:=undef) rfl (by kernel_rfl) (by kernel_rfl) (by kernel_rfl) (fun _ _ _ h=>h) (Or.inr ⟨rfl,rfl⟩) (by assumption) ?_
  try simp only [Act.put,aj]
  refine wpAnyH_take (i:=10) (v:=?_) rfl (by kernel_rfl) (by kernel_rfl) (by kernel_rfl) (fun _ _ _ h=>h) (Or.inl ⟨rfl,?_⟩) (by assumption) ?_
  rotate_left
  ·intro w hSw
   go_simp
   try with_reducible rfl
  try simp only [Act.put,aj]
  refine wpAnyH_done (by kernel_rfl) (NoPanic.normal ?_) _
  have hf:Below w.heap.size w w0.drew:=by assumption
  go_wp2_with fail
  go_ret3
  exact ⟨by rw [HV.out];rfl,hf⟩
def aJ (s:ByteArray) (m:Int) (w:World) (hs:s.size≤maxLen) :
  Calls Tryz.prog 197 #[.string s,.int .i64 m] w fun e w'=>e=.returned (bY (aG s.data.toList m))∧Below w.heap.size w w':=by
 have hsz:s.data.toList.length=s.size:=by simp
 match hl:s.data.toList with
 | []=>
  rw [hl] at hsz
  exact tN s m (by simp at hsz;omega) w
 | b::r=>
  by_cases c:r.length<b.toNat∨8<b.toNat
  ·have e:aG (b::r) m=none:=by
    simp only [aG]
    rw [if_neg (fun g=>by omega)]
   rw [e]
   exact sM s m b r hl hs c w
  ·rw [← BC b r m (by omega) (by omega)]
   exact zh s m b r hl hs (by omega) (by omega) w
end Go.Proofs.YtdbjakibneeeiaaGreatDoor.cE
