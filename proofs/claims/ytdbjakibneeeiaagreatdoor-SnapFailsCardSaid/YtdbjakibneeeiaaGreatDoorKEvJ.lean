/- What is wanted of ShAll besides. -/
import Derived.Test.YtdbjakibneeeiaaGreatDoorKG34TkS5
import Derived.Test.YtdbjakibneeeiaaGreatDoorKG25TkEnv
import Derived.Shelf.SlIterI.Nil
import Derived.Shelf.SortM.Plain
import Derived.Shelf.SortM.SortNone
set_option linter.all false
set_option maxHeartbeats 4000000
set_option maxRecDepth 100000
namespace Go.Proofs.YtdbjakibneeeiaaGreatDoor.ax
section
variable {α β : Type}
def Hw (f:α→Int) (x:α) (k:Int) {l:List α} (h:l.Pairwise (fun a b=>f a≤f b)):iq f k (ins f x l)=iq f k l++iq f k [x]:=by
 induction l with
 | nil=>rfl
 | cons y l ih=>
  rw [List.pairwise_cons] at h
  unfold ins
  split
  ·rename_i hlt
   rw [show x::y::l=[x]++(y::l) from rfl,fW,rF]
   by_cases hx:f x=k
   ·have:iq f k (y::l)=[]:=rR fun z hz=>by
     rcases List.mem_cons.1 hz with rfl | hz
     ·omega
     ·have:=h.1 z hz;omega
    rw [this];simp
   ·simp [hx]
  ·rw [show y::ins f x l=[y]++ins f x l from rfl,fW,ih h.2,show y::l=[y]++l from rfl,fW,List.append_assoc]
def GD (f:α→Int) (L:List α) (k:Int):iq f k (zu f L)=iq f k L:=by
 unfold zu
 have:∀(a:List α),a.Pairwise (fun a b=>f a≤f b)→iq f k (L.foldl (fun a x=>ins f x a) a)=iq f k a++iq f k L:=by
  induction L with
  | nil=>intro a h;simp [iq]
  | cons x L ih=>intro a h;rw [List.foldl_cons,ih _ (sP f x h),Hw f x k h,List.append_assoc,← fW];rfl
 have:=this [] List.Pairwise.nil
 simpa [iq] using this
def ve (f:α→Int):∀{X Y:List α},X.Pairwise (fun a b=>f a≤f b)→Y.Pairwise (fun a b=>f a≤f b)→(∀k,iq f k X=iq f k Y)→X=Y
 | [],Y,_,_,h=>by
  cases Y with
  | nil=>rfl
  | cons y Y=>have:=h (f y);simp [iq] at this
 | x::X,[],_,_,h=>by have:=h (f x);simp [iq] at this
 | x::X,y::Y,hX,hY,h=>by
  rw [List.pairwise_cons] at hX hY
  have h1:f y≤f x:=by
   have hm:x∈iq f (f x) (y::Y):=by rw [← h];simp [iq]
   rcases List.mem_cons.1 (iK hm).1 with e | hm
   ·rw [e];exact Int.le_refl _
   ·exact hY.1 x hm
  have h2:f x≤f y:=by
   have hm:y∈iq f (f y) (x::X):=by rw [h];simp [iq]
   rcases List.mem_cons.1 (iK hm).1 with e | hm
   ·rw [e];exact Int.le_refl _
   ·exact hX.1 y hm
  have he:f x=f y:=Int.le_antisymm h2 h1
  have h3:=h (f x)
  rw [show x::X=[x]++X from rfl,show y::Y=[y]++Y from rfl,fW,fW,rF,rF,if_pos rfl,if_pos he.symm] at h3
  have hxy:x=y:=(List.cons.inj h3).1
  subst hxy
  have:=ve f hX.2 hY.2 (fun k=>by
   have h4:=h k
   rw [show x::X=[x]++X from rfl,show x::Y=[x]++Y from rfl,fW,fW] at h4
   exact List.append_cancel_left h4)
  rw [this]
def uI (f:α→Int) (ks:List Int) (L:List α):List α:=ks.flatMap fun k=>iq f k L
def B9 (f:α→Int) {ks:List Int} (L:List α) (h:ks.Pairwise (fun a b=>a≤b)):(uI f ks L).Pairwise (fun a b=>f a≤f b):=by
 unfold uI
 induction ks with
 | nil=>simp
 | cons k ks ih=>
  rw [List.pairwise_cons] at h
  rw [List.flatMap_cons,List.pairwise_append]
  refine ⟨?_,ih h.2,fun a ha b hb=>?_⟩
  ·refine List.Pairwise.imp_of_mem (R:=fun _ _=>True) (fun {a b} ha hb _=>?_) (List.pairwise_of_forall fun _ _=>trivial)
   rw [(iK ha).2,(iK hb).2];exact Int.le_refl _
  ·obtain ⟨k',hk',hb⟩:=List.mem_flatMap.1 hb
   rw [(iK ha).2,(iK hb).2]
   exact h.1 k' hk'
def HQ (f:α→Int) (k k':Int) (L:List α):iq f k (iq f k' L)=if k'=k then iq f k L else []:=by
 unfold iq
 rw [List.filter_filter]
 by_cases h:k'=k
 ·subst h;simp
 ·rw [if_neg h,List.filter_eq_nil_iff]
  intro x hx
  simp only [Bool.and_eq_true,beq_iff_eq,not_and]
  intro e1 e2
  exact h (e2.symm.trans e1)
def GL (f:α→Int) {ks:List Int} (L:List α) (hn:ks.Nodup) (hk:∀x∈L,f x∈ks) (k:Int):iq f k (uI f ks L)=iq f k L:=by
 have h1:iq f k (uI f ks L)=if k∈ks then iq f k L else []:=by
  clear hk
  unfold uI
  induction ks with
  | nil=>simp [iq]
  | cons k' ks ih=>
   rw [List.nodup_cons] at hn
   rw [List.flatMap_cons,fW,ih hn.2,HQ]
   by_cases h:k'=k
   ·subst h;simp [hn.1]
   ·simp [h,Ne.symm h]
 rw [h1]
 by_cases h:k∈ks
 ·rw [if_pos h]
 ·rw [if_neg h]
  exact (rR fun x hx e=>h (by rw [← e];exact hk x hx)).symm
def HZ (f:α→Int) {ks:List Int} (L:List α) (hs:ks.Pairwise (fun a b=>a≤b)) (hn:ks.Nodup) (hk:∀x∈L,f x∈ks):uI f ks L=zu f L:=
 ve f (B9 f L hs) (Ay f L) fun k=>by rw [GL f L hn hk,GD]
end
end Go.Proofs.YtdbjakibneeeiaaGreatDoor.ax
namespace Go.Proofs.YtdbjakibneeeiaaGreatDoor.ax
open Go.RowKit Sx txn queue aL
def yL:∀(L:List Ac) (ks:List Int),(L.foldl jo ks).length≤ks.length+L.length
 | [],ks=>Nat.le_refl _
 | x::L,ks=>by
  rw [List.foldl_cons]
  have:=yL L (jo ks x)
  have h2:(jo ks x).length≤ks.length+1:=by unfold jo;split <;> simp
  rw [List.length_cons];omega
def FL (L:List Ac):(aI L).length≤L.length:=by have:=yL L [];simpa [aI] using this
end Go.Proofs.YtdbjakibneeeiaaGreatDoor.ax
namespace Go.Proofs.YtdbjakibneeeiaaGreatDoor.ax
open Go.RowKit Go.Maps Go.Shelf Go.WideElems Sx txn queue aL
def vL:Go.Shelf.Ren:=⟨fun | 7=>193 | 10=>219 | n=>n,fun | 23=>211 | 26=>3 | 3=>69 | 28=>241 | 0=>0 | 27=>240 | 33=>114 | 4=>4 | n=>n,fun | n=>n⟩
def IL:Go.Proofs.SlLaysZI.n7 Tryz.prog vL where
 mixed:=by kernel_rfl
 f7:=⟨"maps.Keys[hopper/shard.book,int,[]hopper/api.Account]",by decide,Tryz.func193.trans (congrArg some (by kernel_rfl))⟩
 f10:=⟨"maps.Keys[hopper/shard.book,int,[]hopper/api.Account]$1",by decide,Tryz.func219.trans (congrArg some (by kernel_rfl))⟩
 t0:=Tryz.underlying0
 a0:=Tryz.isAgg0
 z0:=Tryz.sizeOf0
 v0:=Tryz.zeroValue0
 t4:=Tryz.underlying4
 a4:=Tryz.isAgg4
 z4:=Tryz.sizeOf4
 v4:=Tryz.zeroValue4
 t23:=Tryz.underlying211
 a23:=Tryz.isAgg211
 z23:=Tryz.sizeOf211
 v23:=Tryz.zeroValue211
 t26:=Tryz.underlying3
 a26:=Tryz.isAgg3
 z26:=Tryz.sizeOf3
 v26:=Tryz.zeroValue3
 t27:=Tryz.underlying240
 a27:=Tryz.isAgg240
 z27:=Tryz.sizeOf240
 v27:=Tryz.zeroValue240
 t28:=Tryz.underlying241
 a28:=Tryz.isAgg241
 z28:=Tryz.sizeOf241
 v28:=Tryz.zeroValue241
 t33:=Tryz.underlying114
 a33:=Tryz.isAgg114
 z33:=Tryz.sizeOf114
 v33:=Tryz.zeroValue114
def qV:Go.Shelf.Ren:=⟨fun | 6=>192 | 8=>217 | 9=>218 | 11=>227 | 13=>229 | 12=>228 | 23=>242 | 24=>243 | 14=>233 | 15=>234 | 16=>235 | 17=>236 | 18=>237 | 19=>238 | 20=>239 | 21=>240 | 22=>241 | 25=>244 | 26=>245 | 27=>246 | 28=>247 | 29=>248 | 30=>249 | 31=>250 | n=>n,fun | 26=>3 | 28=>241 | 24=>22 | 0=>0 | 3=>3 | 37=>260 | 48=>274 | 50=>177 | 4=>4 | 40=>268 | 39=>267 | 45=>194 | 5=>5 | 9=>9 | 51=>277 | 55=>281 | 57=>283 | 58=>284 | 33=>114 | n=>n,fun | n=>n⟩
def HL:Go.Proofs.SlLaysZI.n6 Tryz.prog qV where
 mixed:=by kernel_rfl
 f6:=⟨"slices.Sorted[int]",by decide,Tryz.func192.trans (congrArg some (by kernel_rfl))⟩
 f8:=⟨"slices.Collect[int]",by decide,Tryz.func217.trans (congrArg some (by kernel_rfl))⟩
 f11:=⟨"slices.AppendSeq[[]int,int]",by decide,Tryz.func227.trans (congrArg some (by kernel_rfl))⟩
 t0:=Tryz.underlying0
 a0:=Tryz.isAgg0
 z0:=Tryz.sizeOf0
 v0:=Tryz.zeroValue0
 t24:=Tryz.underlying22
 a24:=Tryz.isAgg22
 z24:=Tryz.sizeOf22
 v24:=Tryz.zeroValue22
 t26:=Tryz.underlying3
 a26:=Tryz.isAgg3
 z26:=Tryz.sizeOf3
 v26:=Tryz.zeroValue3
 t28:=Tryz.underlying241
 a28:=Tryz.isAgg241
 z28:=Tryz.sizeOf241
 v28:=Tryz.zeroValue241
 i26:=by kernel_rfl
def DC:Go.Shelf.Ren:=⟨fun | 5=>218 | 8=>229 | 7=>228 | 19=>242 | 20=>243 | 10=>233 | 11=>234 | 12=>235 | 13=>236 | 14=>237 | 15=>238 | 16=>239 | 17=>240 | 18=>241 | 30=>244 | 31=>245 | 32=>246 | 33=>247 | 34=>248 | 35=>249 | 40=>250 | n=>n,fun | 23=>22 | 25=>3 | 3=>3 | 32=>260 | 22=>22 | 0=>0 | 44=>274 | 46=>177 | 4=>4 | 36=>268 | 35=>267 | 41=>194 | 5=>5 | 9=>9 | 53=>277 | 57=>281 | 63=>283 | 64=>284 | n=>n,fun | n=>n⟩
def Jg:Go.Proofs.SlLaysM.n5 Tryz.prog DC where
 mixed:=by kernel_rfl
 f5:=⟨"slices.Sort[[]int,int]",by decide,Tryz.func218.trans (congrArg some (by kernel_rfl))⟩
 f7:=⟨"slices.pdqsortOrdered[int]",by decide,Tryz.func228.trans (congrArg some (by kernel_rfl))⟩
 f8:=Tryz.func229.trans (congrArg some (by kernel_rfl))
 f10:=⟨"slices.insertionSortOrdered[int]",by decide,Tryz.func233.trans (congrArg some (by kernel_rfl))⟩
 f11:=⟨"slices.heapSortOrdered[int]",by decide,Tryz.func234.trans (congrArg some (by kernel_rfl))⟩
 f12:=⟨"slices.breakPatternsOrdered[int]",by decide,Tryz.func235.trans (congrArg some (by kernel_rfl))⟩
 f13:=⟨"slices.choosePivotOrdered[int]",by decide,Tryz.func236.trans (congrArg some (by kernel_rfl))⟩
 f14:=⟨"slices.reverseRangeOrdered[int]",by decide,Tryz.func237.trans (congrArg some (by kernel_rfl))⟩
 f15:=⟨"slices.partialInsertionSortOrdered[int]",by decide,Tryz.func238.trans (congrArg some (by kernel_rfl))⟩
 f16:=⟨"cmp.Less[int]",by decide,Tryz.func239.trans (congrArg some (by kernel_rfl))⟩
 f17:=⟨"slices.partitionEqualOrdered[int]",by decide,Tryz.func240.trans (congrArg some (by kernel_rfl))⟩
 f18:=⟨"slices.partitionOrdered[int]",by decide,Tryz.func241.trans (congrArg some (by kernel_rfl))⟩
 f19:=Tryz.func242.trans (congrArg some (by kernel_rfl))
 f20:=Tryz.func243.trans (congrArg some (by kernel_rfl))
 f30:=⟨"slices.siftDownOrdered[int]",by decide,Tryz.func244.trans (congrArg some (by kernel_rfl))⟩
 f31:=Tryz.func245.trans (congrArg some (by kernel_rfl))
 f32:=Tryz.func246.trans (congrArg some (by kernel_rfl))
 f33:=⟨"slices.medianAdjacentOrdered[int]",by decide,Tryz.func247.trans (congrArg some (by kernel_rfl))⟩
 f34:=⟨"slices.medianOrdered[int]",by decide,Tryz.func248.trans (congrArg some (by kernel_rfl))⟩
 f35:=⟨"cmp.isNaN[int]",by decide,Tryz.func249.trans (congrArg some (by kernel_rfl))⟩
 f40:=⟨"slices.order2Ordered[int]",by decide,Tryz.func250.trans (congrArg some (by kernel_rfl))⟩
 t0:=Tryz.underlying0
 a0:=Tryz.isAgg0
 z0:=Tryz.sizeOf0
 v0:=Tryz.zeroValue0
 t3:=Tryz.underlying3
 a3:=Tryz.isAgg3
 z3:=Tryz.sizeOf3
 v3:=Tryz.zeroValue3
 t4:=Tryz.underlying4
 a4:=Tryz.isAgg4
 z4:=Tryz.sizeOf4
 v4:=Tryz.zeroValue4
 t5:=Tryz.underlying5
 a5:=Tryz.isAgg5
 z5:=Tryz.sizeOf5
 v5:=Tryz.zeroValue5
 t9:=Tryz.underlying9
 a9:=Tryz.isAgg9
 z9:=Tryz.sizeOf9
 v9:=Tryz.zeroValue9
 t22:=Tryz.underlying22
 a22:=Tryz.isAgg22
 z22:=Tryz.sizeOf22
 v22:=Tryz.zeroValue22
 t23:=Tryz.underlying22
 a23:=Tryz.isAgg22
 z23:=Tryz.sizeOf22
 v23:=Tryz.zeroValue22
 t25:=Tryz.underlying3
 a25:=Tryz.isAgg3
 z25:=Tryz.sizeOf3
 v25:=Tryz.zeroValue3
 t32:=Tryz.underlying260
 a32:=Tryz.isAgg260
 z32:=Tryz.sizeOf260
 v32:=Tryz.zeroValue260
 t35:=Tryz.underlying267
 a35:=Tryz.isAgg267
 z35:=Tryz.sizeOf267
 v35:=Tryz.zeroValue267
 t36:=Tryz.underlying268
 a36:=Tryz.isAgg268
 z36:=Tryz.sizeOf268
 v36:=Tryz.zeroValue268
 t41:=Tryz.underlying194
 a41:=Tryz.isAgg194
 z41:=Tryz.sizeOf194
 v41:=Tryz.zeroValue194
 t44:=Tryz.underlying274
 a44:=Tryz.isAgg274
 z44:=Tryz.sizeOf274
 v44:=Tryz.zeroValue274
 t46:=Tryz.underlying177
 a46:=Tryz.isAgg177
 z46:=Tryz.sizeOf177
 v46:=Tryz.zeroValue177
 t53:=Tryz.underlying277
 a53:=Tryz.isAgg277
 z53:=Tryz.sizeOf277
 v53:=Tryz.zeroValue277
 t57:=Tryz.underlying281
 a57:=Tryz.isAgg281
 z57:=Tryz.sizeOf281
 v57:=Tryz.zeroValue281
 t63:=Tryz.underlying283
 a63:=Tryz.isAgg283
 z63:=Tryz.sizeOf283
 v63:=Tryz.zeroValue283
 t64:=Tryz.underlying284
 a64:=Tryz.isAgg284
 z64:=Tryz.sizeOf284
 v64:=Tryz.zeroValue284
def JT (m:Nat):AnyZI.SortsIn Tryz.prog qV Fence.wide m:=
 ⟨fun blk off cap ss W hH hblk hsz=>callsIn_wide.2 (AnyM.slices_Sort_int Jg blk off cap ss W hH hblk hsz),
   fun p cap W=>callsIn_wide.2 (AnyM.slices_Sort_int_none Jg p cap W)⟩
def yF (b:Nat) (v:Value):Fact:=⟨some b,fun o=>∃ty,o=.cells #[v] ty (0,0)⟩
def PU (g:Nat) (w:World):Calls Tryz.prog 193 (List.toArray [.map (some g)]) w fun e w'=>∃b:Nat,w.heap.size≤b∧dy w w' e (.func (.func 219) #[] #[.pointer (some ⟨b,0,none⟩)]) [yF b (.map (some g))]:=by
 have cK:CallsIn Fence.wide 5 Tryz.prog 193 #[.map (some g)] w fun e w'=>e=.returned (.func (.func 219) #[] #[.pointer (some ⟨w.heap.size,0,none⟩)])∧w'=w.alloc (.cells #[.map (some g)] 211):=AnyZI.keys_in IL Fence.wide 5 trivial rfl (some g) w
 refine (callsIn_wide.1 cK).mono ?_
 rintro e w' ⟨rfl,rfl⟩
 refine ⟨w.heap.size,Nat.le_refl _,rfl,(Below.refl _ w).alloc (Nat.le_refl _) _,fun φ hφ g' hg'=>?_⟩
 simp only [List.mem_singleton] at hφ
 subst hφ
 cases hg'
 exact ⟨Nat.le_refl _,_,heap_alloc_new w _,_,rfl⟩
def L4 {P:Program} {k:TypeId} (hk:P.underlying k=some (.int .i64)) {e:MapEntry} {p:Int×Value} (h:Ht e=JD p) (hf:Fits p.1):rd (H:=Unit) P k (fun _=>some (.nil,[])) e=some (.int .i64 p.1,.nil):=by
 have h1:e.key=.int .i64 p.1:=congrArg Prod.fst h
 have hw:(Lit.int .i64 p.1).wf=true:=by unfold Fits at hf;simp [Lit.wf,IntKind.min,IntKind.max,IntKind.signed,IntKind.bits];omega
 have hkey:keyOf P k e.key=some (.int .i64 p.1):=by rw [h1];simp [keyOf,hk,mapKey,hw]
 simp [rd,hkey]
def BD {P:Program} {k:TypeId} (hk:P.underlying k=some (.int .i64)) {w:World} {g:Nat} {l:List (Int×Value)} (h:∃o,w.heap[g]?=some o∧(bL g l).holds o) (hf:∀p∈l,Fits p.1) (hl:l.length≤maxLen) :
  ∃D:DataW Unit,w.ownsMap P k (fun _=>some (.nil,[])) g l.length D∧(intKeys D).Perm (l.map (·.1))∧Maps.size D=l.length:=by
 obtain ⟨o,ho,es,c,rfl,he,hst⟩:=h
 have H:∀(es:List MapEntry) (l:List (Int×Value)),gx l es→(∀p∈l,Fits p.1)→(∀x∈es,∃y,rd (H:=Unit) P k (fun _=>some (.nil,[])) x=some y)∧es.map (rg (H:=Unit) P k (fun _=>some (.nil,[])))=l.map (fun p=>(.int .i64 p.1,.nil)):=by
  intro es
  induction es with
  | nil=>intro l h _;cases l with | nil=>exact ⟨by simp,rfl⟩ | cons p l=>cases h
  | cons e es ih=>
   intro l h hf
   cases l with
   | nil=>cases h
   | cons p l=>
    unfold gx at h
    rw [List.map_cons,List.map_cons] at h
    have h1:=L4 hk (List.cons.inj h).1 (hf p (List.mem_cons_self ..))
    obtain ⟨h2,h3⟩:=ih l (List.cons.inj h).2 fun q hq=>hf q (List.mem_cons_of_mem _ hq)
    refine ⟨fun x hx=>?_,by rw [List.map_cons,List.map_cons,h3,rg_of h1]⟩
    rcases List.mem_cons.1 hx with rfl | hx
    ·exact ⟨_,h1⟩
    ·exact h2 x hx
 obtain ⟨h1,h2⟩:=H es.toList l he hf
 have hsz:es.size=l.length:=by rw [← qC he,Array.length_toList]
 refine ⟨_,⟨es,c,ho,⟨by omega,hst,h1⟩,Nat.le_of_eq hsz,rfl⟩,?_,?_⟩
 ·have hp:=(WideShapes.sorted_perm (es.toList.map (rg (H:=Unit) P k (fun _=>some (.nil,[]))))).map (fun p=>Go.intOf p.1)
  have hp2:(intKeys (DataW.map ((es.toList.map (rg (H:=Unit) P k (fun _=>some (.nil,[])))).foldr DataW.insert []))).Perm ((es.toList.map (rg (H:=Unit) P k (fun _=>some (.nil,[])))).map (fun p=>Go.intOf p.1)):=hp
  refine hp2.trans ?_
  rw [h2,List.map_map]
  exact List.Perm.of_eq (List.map_congr_left fun p _=>rfl)
 ·simp [Maps.size,length_sorted,hsz]
def HU (b g:Nat) (l:List (Int×Value)) (w:World) (hb:∃o,w.heap[b]?=some o∧(yF b (.map (some g))).holds o) (hm:∃o,w.heap[g]?=some o∧(bL g l).holds o) (hf:∀p∈l,Fits p.1) (hl:l.length≤1000000) :
  Calls Tryz.prog 192 (List.toArray [.func (.func 219) #[] #[.pointer (some ⟨b,0,none⟩)]]) w fun e w'=>∃i:One,Sl i.1 l.length i.2∧dy w w' e (.slice i.1 l.length i.2) [ay (pt i.1 l.length) (((l.map (·.1)).mergeSort leI).map encZ)]:=by
 obtain ⟨D,hown,hperm,hsz⟩:=BD (P:=Tryz.prog) (k:=3) Tryz.underlying3 hm hf (by unfold maxLen;omega)
 obtain ⟨ob,hob,ty,rfl⟩:=hb
 have hbl:b<w.heap.size:=(Array.getElem?_eq_some_iff.1 hob).1
 have hseq:SeqGives Fence.wide 2 Tryz.prog 219 #[.pointer (some ⟨b,0,none⟩)] encZ (fun ss=>ss.Perm (intKeys D)) (Maps.size D) w:=
  AnyZI.keys_gives (ρ:=vL) { IL with } Fence.wide _ trivial rfl (by omega) b g l.length D w hbl (by simp [World.cell?,hob]) hown
 have cS:=AnyZI.sorted_in HL Fence.wide 5 trivial trivial trivial trivial rfl (by omega) (JT _) (enters_of Tryz.func218 (by kernel_rfl) rfl) 219 #[.pointer (some ⟨b,0,none⟩)] trivial (enters_of Tryz.func219 (by kernel_rfl) rfl) _ _ (by rw [hsz];unfold maxLen;omega) (by rw [hsz];omega) w hseq
 change CallsIn _ _ Tryz.prog 192 _ _ _ at cS
 refine (callsIn_wide.1 cS).mono ?_
 rintro e w' ⟨v,ss,rfl,hS,hrow,hnil,hbel⟩
 have hlen:ss.length=l.length:=by rw [(hS.trans hperm).length_eq,List.length_map]
 have hms:ss.mergeSort leI=(l.map (·.1)).mergeSort leI:=mergeSort_of_perm_i (hS.trans hperm)
 change w'.ownsRow w.heap.size 3 1 v ss.length ((ss.mergeSort leI).map encZ) at hrow
 rw [hlen,hms] at hrow
 obtain ⟨a,c,rfl,h3,h4,h5⟩:=queue.oO hrow
 refine ⟨(a,c),h3,rfl,hbel,fun φ hφ g' hg'=>?_⟩
 simp only [List.mem_singleton] at hφ
 subst hφ
 refine ⟨?_,h5 g' hg'⟩
 have h6:(pt a l.length).map (·.block)=some g':=hg'
 unfold pt at h6
 split at h6
 ·cases h6
 ·obtain ⟨ad,had,rfl⟩:=Option.map_eq_some_iff.1 h6
  exact h4 ad had
end Go.Proofs.YtdbjakibneeeiaaGreatDoor.ax
namespace Go.Proofs.YtdbjakibneeeiaaGreatDoor.ax
open Go.RowKit Sx txn queue aL
def GU {w:World} {a n c S} (h:QH w a n c S):∀x∈dS S,x.fit∧At w (pt x.a x.n) (ah x.l):=by
 intro x hx
 obtain ⟨q,hq,hx⟩:=List.mem_flatMap.1 hx
 exact (h.2.2.2 q hq).2.2.2 x hx
def kq (L:List Ac):List Int:=(aI L).mergeSort leI
def l6 (L:List Ac):(kq L).Perm (aI L):=List.mergeSort_perm _ _
def Bg (L:List Ac):(kq L).Pairwise (fun a b=>a≤b):=by
 have tr:∀a b c:Int,leI a b=true→leI b c=true→leI a c=true:=fun a b c h1 h2=>by simp only [leI,decide_eq_true_eq] at *;exact Int.le_trans h1 h2
 have to:∀a b:Int,(leI a b||leI b a)=true:=fun a b=>by simp only [leI,Bool.or_eq_true,decide_eq_true_eq];exact Int.le_total a b
 exact (List.pairwise_mergeSort tr to (aI L)).imp fun h=>by simpa [leI] using h
def tS (L:List Ac):(uI (fun x:Ac=>x.s) (kq L) L)=zu (fun x:Ac=>x.s) L:=HZ _ L (Bg L) ((l6 L).nodup_iff.2 (qX L)) fun x hx=>(l6 L).mem_iff.2 ((mh L _).2 ⟨x,hx,rfl⟩)
def Fj {ks:List Int} {j:Nat} {s:Int} (L:List Ac) (h:ks[j]?=some s):uI (fun x:Ac=>x.s) (ks.take (j+1)) L=uI (fun x:Ac=>x.s) (ks.take j) L++cH s L:=by unfold uI;rw [List.take_add_one,h,List.flatMap_append];simp
def Ll (ks:List Int) (L:List Ac) (j:Nat):(uI (fun x:Ac=>x.s) (ks.take j) L).length≤(uI (fun x:Ac=>x.s) ks L).length:=by
 have:uI (fun x:Ac=>x.s) ks L=uI (fun x:Ac=>x.s) (ks.take j) L++uI (fun x:Ac=>x.s) (ks.drop j) L:=by unfold uI;rw [← List.flatMap_append,List.take_append_drop]
 rw [this,List.length_append];omega
structure Mk (w:World) (Ls:List Ac):Prop where
 fit:∀x∈Ls,x.fit
 fr:∀φ∈Ls.map HB,∀g,φ.g=some g→w.heap.size≤g
def Mk.nil (w:World):Mk w []:=⟨by simp,by simp⟩
def Mk.snoc {w:World} {Ls:List Ac} {x:Ac} (h:Mk w Ls) (hx:x.fit) (hg:∀g,(HB x).g=some g→w.heap.size≤g):Mk w (Ls++[x]):=by
 constructor
 ·intro z hz
  rcases List.mem_append.1 hz with hz | hz
  ·exact h.fit z hz
  ·obtain rfl:=List.mem_singleton.1 hz;exact hx
 ·intro φ hφ g hg'
  rw [List.map_append] at hφ
  rcases List.mem_append.1 hφ with hφ | hφ
  ·exact h.fr φ hφ g hg'
  ·obtain rfl:=List.mem_singleton.1 hφ;exact hg g hg'
def join (S:List yg) (a:Option Addr) (n c:Nat) (w:World) (hS:QH w a n c S) (hn1:n≤100000) (hall:(dS S).length≤100000) (fN:∀x∈dS S,Fits x.s) :
  Calls Tryz.prog 153 (List.toArray [.slice a n c]) w fun e w'=>∃(i:One) (Ls:List Ac),Ls.map jg=(zu (fun x:Ac=>x.s) (dS S)).map jg∧(∀x∈Ls,x.fit)∧Sl i.1 Ls.length i.2∧dy w w' e (.slice i.1 Ls.length i.2) (dm i.1 Ls.length Ls):=by
 have hs:=hS.1
 have hn:=hS.2.1
 have hn63:=hs.le
 refine au D2.aq.keeps Tryz.func153 rfl [] (aQ _ _ (by kernel_rfl)) (Au a n S) hS.facts ?_
 conv=>arg 5;whnf
 refine gf 3 90 3 rfl ?_
 refine eV D2.aq.keeps [] (aQ _ _ (by kernel_rfl)) [0] (fun k:Nat=>k≤n) (fun k=>(⟨[],[some ⟨90,3,(dS (S.take k)).length,aF (dS (S.take k))⟩],Au a n S⟩,[.any,.any,.any,.r 0,.any,.any,.any,.any,.any,.any,.any,.any,.v (.slice a n c),.v (.int .i64 n),.v (.int .i64 k),.any,.any,.any,.any,.any,.any,.any,.any,.any,.any,.any,.any,.any,.any,.any,.any,.any,.any,.any,.any,.any,.any,.any,.any,.any,.any,.any,.any,.any,.any,.any,.any,.any,.any])) (fun k=>n - k) 0 (Nat.zero_le _) ⟨by repeat' first | exact trivial | refine ⟨.inl rfl,?_⟩ | refine ⟨.inr rfl,?_⟩,⟨by repeat' first | exact trivial | refine ⟨.inl rfl,?_⟩ | refine ⟨.inr rfl,?_⟩,by repeat' first | exact trivial | refine ⟨.inl rfl,?_⟩ | refine ⟨.inr rfl,?_⟩,fun _ h=>h⟩,rfl⟩ ?_
 intro k hk
 conv=>arg 5;whnf
 refine bk (fun h1=>?_) (fun h1=>?_)
 ·have hlt:k<n:=by have h3:=of_decide_eq_true (show decide ((k:Int)<(n:Int))=true from h1);omega
  obtain ⟨q,hq⟩:∃q,S[k]?=some q:=⟨_,List.getElem?_eq_getElem (by omega)⟩
  have hqm:q∈S:=List.mem_of_getElem? hq
  obtain ⟨qs,qn,qa,_⟩:=hS.2.2.2 q hqm
  have htk:=Dl hq
  have hc1:aF (dS (S.take (k+1)))=aF (dS (S.take k))++aF q.L:=by rw [htk,Aw]
  have hl1:=congrArg List.length htk
  rw [List.length_append,← qn] at hl1
  have hb1:=Ir S (k+1)
  conv=>arg 5;whnf
  refine ai ⟨by omega,by show (k:Int)<(n:Int);omega,hs.some hlt⟩ ?_
  conv=>arg 5;whnf
  refine C9 D2.aq (vs:=q.cs) (sz:=2) (k:=k) rfl rfl (.head _) hlt (hs.some hlt) (Dr hq) rfl ?_
  conv=>arg 5;whnf
  refine ⟨aF q.L,by rw [jb,qn],B6 q.L,fun β ρ w' hM' ad' had j u hu=>?_,?_⟩
  ·have hmem:ay (pt q.a q.n) (aF q.L)∈Au a n S:=.tail _ (List.mem_flatMap.2 ⟨q,hqm,.head _⟩)
   rw [had,dR (k:=0) (by have:=AP hu;omega)] at hmem
   exact (hM'.at_ hmem).cell hu
  conv=>arg 5;whnf
  refine ai ⟨by show (dS (S.take k)).length+q.n≤maxLen;unfold maxLen;omega,by show ((dS (S.take k)).length+q.n)*40≤140737488355328;omega,fun ha=>qs.2.2 ha⟩ ?_
  conv=>arg 5;whnf
  refine ai ⟨by show -9223372036854775808≤(k:Int)+1;omega,by show (k:Int)+1≤9223372036854775807;omega⟩ ?_
  conv=>arg 5;whnf
  refine aO ⟨k+1,hlt,⟨by repeat' first | exact trivial | refine ⟨.inl rfl,?_⟩ | refine ⟨.inr rfl,?_⟩,⟨by repeat' first | exact trivial | refine ⟨.inl rfl,?_⟩ | refine ⟨.inr rfl,?_⟩,by rw [hc1,hl1];repeat' first | exact trivial | refine ⟨.inl rfl,?_⟩ | refine ⟨.inr rfl,?_⟩,fun _ h=>h⟩,rfl⟩,by show n - (k+1)<n - k;omega⟩
 ·have hkn:k=n:=by have h3:=of_decide_eq_false (show decide ((k:Int)<(n:Int))=false from h1);omega
  have e:S.take k=S:=List.take_of_length_le (by omega)
  rw [e]
  clear h1 hk hkn e
  have hL:=GU hS
  have hAF:∀x∈dS S,HB x∈Au a n S:=fun x hx=>GR hx
  have hjs:=tS (dS S)
  rw [← hjs]
  have hkl:(kq (dS S)).length≤100000:=by rw [(l6 _).length_eq];exact Nat.le_trans (FL _) hall
  have hkm:∀s,s∈kq (dS S)→s∈aI (dS S):=fun s h=>(l6 _).mem_iff.1 h
  have hgl:(uI (fun x:Ac=>x.s) (kq (dS S)) (dS S)).length≤100000:=by rw [hjs,Cb];exact hall
  have hfk:∀s,s∈aI (dS S)→Fits s:=fun s h=>by obtain ⟨x,hx,e⟩:=(mh _ s).1 h;exact e▸fN x hx
  have hks:(aI (dS S)).mergeSort leI=kq (dS S):=rfl
  have hkle:(kq (dS S)).length=(aI (dS S)).length:=(l6 _).length_eq
  clear hjs
  generalize Au a n S=sF at *
  generalize hLL:dS S=L at *
  conv=>arg 5;whnf
  refine bV fun u c_u h_u f_u=>?_
  have hAcs:∀{β ρ w' own rows fs},Mem w none ⟨own,rows,fs⟩ β ρ w'→(∀φ∈ay u (aF L)::sF,φ∈fs)→zB w' u L.length c_u L:=fun hM' hfs=>⟨h_u,rfl,LC _ (hM'.at_ (hfs _ (.head _))),fun x hx=>⟨(hL x hx).1,hM'.at_ (hfs _ (.tail _ (hAF x hx)))⟩⟩
  conv=>arg 5;whnf
  refine Er (f:=164) L rfl (by kernel_rfl) (fun β ρ w' hM'=>Gm L u L.length c_u w' (hAcs hM' fun φ hφ=>hφ) (by omega)) (fun g o ho=>?_)
  conv=>arg 5;whnf
  refine rX (ι:=Nat) (ok:=fun _=>True) (v:=fun b=>.func (.func 219) #[] #[.pointer (some ⟨b,0,none⟩)]) (fs:=fun b=>[yF b (.map (some g))]) (by kernel_rfl) (fun β ρ w' vs hM' hr=>by rw [aE _ [.map (some g)] _ rfl hr];exact (PU g w').mono fun e w'' ⟨b,_,hg⟩=>⟨b,trivial,hg⟩) (fun bx _=>?_)
  conv=>arg 5;whnf
  refine nv (f:=192) (n:=(kq L).length) (v:=fun a1 c1=>.slice a1 (kq L).length c1) (xs:=(kq L).map encZ) rfl (by kernel_rfl) (fun β ρ w' hM'=>?_) (fun p c_p h_p f_p=>?_)
  ·have h1:=HU bx g (gJ (aI L) fun s=>.slice (o s).1 (cH s L).length (o s).2) w' (hM'.fact _ (.head _) bx rfl).2 (hM'.fact _ (.tail _ (.head _)) g rfl).2 (fun p hp=>by obtain ⟨s,hs,rfl⟩:=List.mem_map.1 hp;exact hfk s hs) (by show (List.map _ _).length≤_;rw [List.length_map,← hkle];omega)
   have e1:(gJ (aI L) fun s=>.slice (o s).1 (cH s L).length (o s).2).map (·.1)=aI L:=by unfold gJ;rw [List.map_map];exact List.map_id' _
   have e2:(gJ (aI L) fun s=>.slice (o s).1 (cH s L).length (o s).2).length=(kq L).length:=by show (List.map _ _).length=_;rw [List.length_map,hkle]
   rw [e1,e2,hks] at h1
   exact h1
  have hbkm:bL g (gJ (aI L) fun s=>.slice (o s).1 (cH s L).length (o s).2)∈(yF bx (.map (some g))::(kT g o L++ay u (aF L)::sF)):=.tail _ (List.mem_append_left _ (.head _))
  have hrow:∀s,s∈aI L→ay (pt (o s).1 (cH s L).length) (aF (cH s L))∈(yF bx (.map (some g))::(kT g o L++ay u (aF L)::sF)):=fun s hs=>.tail _ (List.mem_append_left _ (.tail _ (List.mem_map.2 ⟨s,hs,rfl⟩)))
  have hacf:∀x∈L,HB x∈(yF bx (.map (some g))::(kT g o L++ay u (aF L)::sF)):=fun x hx=>.tail _ (List.mem_append_right _ (.tail _ (hAF x hx)))
  have hp63:=h_p.le
  conv=>arg 5;whnf
  refine gf 7 90 3 rfl ?_
  refine cL D2.aq.keeps [] (aQ _ _ (by kernel_rfl)) (fun i:Nat×List Ac=>i.1≤(kq L).length∧i.2.map jg=(uI (fun x:Ac=>x.s) ((kq L).take i.1) L).map jg∧Mk w i.2) (fun i=>(⟨[],[none,some ⟨90,3,i.2.length,aF i.2⟩],ay (pt p (kq L).length) ((kq L).map encZ)::(i.2.map HB++(yF bx (.map (some g))::(kT g o L++ay u (aF L)::sF)))⟩,[.any,.any,.any,.any,.any,.any,.v (.map (some g)),.r 1,.any,.any,.any,.any,.any,.any,.any,.any,.any,.any,.any,.any,.any,.any,.any,.any,.any,.any,.any,.v (.slice p (kq L).length c_p),.v (.int .i64 (kq L).length),.v (.int .i64 i.1),.any,.any,.any,.any,.any,.any,.any,.any,.any,.any,.any,.any,.any,.any,.any,.any,.any,.any,.any])) (fun i=>(kq L).length - i.1) (0,[]) ⟨Nat.zero_le _,rfl,Mk.nil w⟩ ⟨by repeat' first | exact trivial | refine ⟨.inl rfl,?_⟩ | refine ⟨.inr rfl,?_⟩,⟨by repeat' first | exact trivial | refine ⟨.inl rfl,?_⟩ | refine ⟨.inr rfl,?_⟩,by repeat' first | exact trivial | refine ⟨.inl rfl,?_⟩ | refine ⟨.inr rfl,?_⟩,fun _ h=>h⟩,rfl⟩ ?_
  rintro ⟨j,Ls⟩ ⟨hj,hLs,hmk⟩
  have hj:j≤(kq L).length:=hj
  have hLs:Ls.map jg=(uI (fun x:Ac=>x.s) ((kq L).take j) L).map jg:=hLs
  have hmk:Mk w Ls:=hmk
  conv=>arg 5;whnf
  refine bk (fun h1=>?_) (fun h1=>?_)
  ·have hlt:j<(kq L).length:=by have h3:=of_decide_eq_true (show decide ((j:Int)<((kq L).length:Int))=true from h1);omega
   obtain ⟨s,hsj⟩:∃s,(kq L)[j]?=some s:=⟨_,List.getElem?_eq_getElem hlt⟩
   have hsk:=hkm s (List.mem_of_getElem? hsj)
   have hgt:=Fj L hsj
   have hgle:=Ll (kq L) L (j+1)
   have hlk:(ez (gJ (aI L) fun s=>.slice (o s).1 (cH s L).length (o s).2) s).getD (.slice none 0 0)=.slice (o s).1 (cH s L).length (o s).2:=by rw [x8,if_pos hsk];rfl
   have hos:=ho s
   have hrs:=hrow s hsk
   have hom:∀x∈cH s L,x∈L:=fun x hx=>(iK hx).1
   conv=>arg 5;whnf
   refine ai ⟨by omega,by show (j:Int)<((kq L).length:Int);omega,h_p.some hlt⟩ ?_
   conv=>arg 5;whnf
   refine KN (a:=p) (n:=(kq L).length) (k:=j) (j:=j) (xs:=(kq L).map encZ) (.int .i64 s) rfl (.head _) hlt (h_p.some hlt) (by rw [List.getElem?_map,hsj];rfl) (by rw [Nat.mul_one];rfl) ?_
   conv=>arg 5;whnf
   refine ct (z:=.slice none 0 0) (l:=gJ (aI L) fun s=>.slice (o s).1 (cH s L).length (o s).2) Tryz.underlying211 Tryz.underlying3 (fun w=>by kernel_rfl) (by exact .tail _ (List.mem_append_right _ hbkm)) ?_
   rw [show (if false=true then Value.tuple #[(ez (gJ (aI L) fun s=>.slice (o s).1 (cH s L).length (o s).2) s).getD (.slice none 0 0),.bool (ez (gJ (aI L) fun s=>.slice (o s).1 (cH s L).length (o s).2) s).isSome] else (ez (gJ (aI L) fun s=>.slice (o s).1 (cH s L).length (o s).2) s).getD (.slice none 0 0))=.slice (o s).1 (cH s L).length (o s).2 from hlk]
   conv=>arg 5;whnf
   refine eV D2.aq.keeps [] (aQ _ _ (by kernel_rfl)) [0,0] (fun i:Nat×List Ac=>i.1≤(cH s L).length∧i.2.map jg=(uI (fun x:Ac=>x.s) ((kq L).take j) L++(cH s L).take i.1).map jg∧Mk w i.2) (fun i=>(⟨[],[none,some ⟨90,3,i.2.length,aF i.2⟩],ay (pt p (kq L).length) ((kq L).map encZ)::(i.2.map HB++(yF bx (.map (some g))::(kT g o L++ay u (aF L)::sF)))⟩,[.any,.any,.any,.any,.any,.any,.v (.map (some g)),.r 1,.any,.any,.any,.any,.any,.any,.any,.any,.any,.any,.any,.any,.any,.any,.any,.any,.any,.any,.any,.v (.slice p (kq L).length c_p),.v (.int .i64 (kq L).length),.v (.int .i64 j),.any,.any,.any,.any,.any,.v (.slice (o s).1 (cH s L).length (o s).2),.v (.int .i64 (cH s L).length),.v (.int .i64 i.1),.any,.any,.any,.any,.any,.any,.any,.any,.any,.any,.any])) (fun i=>(cH s L).length - i.1) (0,Ls) ⟨Nat.zero_le _,by show _=List.map jg (_++[]);rw [List.append_nil];exact hLs,hmk⟩ ⟨by repeat' first | exact trivial | refine ⟨.inl rfl,?_⟩ | refine ⟨.inr rfl,?_⟩,⟨by repeat' first | exact trivial | refine ⟨.inl rfl,?_⟩ | refine ⟨.inr rfl,?_⟩,by repeat' first | exact trivial | refine ⟨.inl rfl,?_⟩ | refine ⟨.inr rfl,?_⟩,fun _ h=>h⟩,rfl⟩ ?_
   rintro ⟨t,Lt⟩ ⟨ht,hLt,hmt⟩
   have ht:t≤(cH s L).length:=ht
   have hLt:Lt.map jg=(uI (fun x:Ac=>x.s) ((kq L).take j) L++(cH s L).take t).map jg:=hLt
   have hmt:Mk w Lt:=hmt
   have hlent:Lt.length≤100000:=by
    have h5:=congrArg List.length hLt
    have h6:=congrArg List.length hgt
    simp only [List.length_map,List.length_append,List.length_take] at h5 h6
    omega
   conv=>arg 5;whnf
   refine bk (fun h2=>?_) (fun h2=>?_)
   ·have hlt2:t<(cH s L).length:=by have h3:=of_decide_eq_true (show decide ((t:Int)<((cH s L).length:Int))=true from h2);omega
    obtain ⟨x,hx⟩:∃x,(cH s L)[t]?=some x:=⟨_,List.getElem?_eq_getElem hlt2⟩
    have hxL:x∈L:=hom x (List.mem_of_getElem? hx)
    obtain ⟨⟨xs,xn,xl,xd⟩,_⟩:=hL x hxL
    have CP:=fun w hr=>copied x.s x.b x.l x.a x.n x.c w xs xn hr xl
    have htt:(cH s L).take (t+1)=(cH s L).take t++[x]:=by rw [List.take_add_one,hx];rfl
    have ho63:=hos.le
    conv=>arg 5;whnf
    refine ai ⟨by omega,by show (t:Int)<((cH s L).length:Int);omega,hos.some hlt2⟩ ?_
    conv=>arg 5;whnf
    refine C9 D2.aq (vs:=x.cs) (sz:=3) (k:=t) rfl rfl (by exact .tail _ (List.mem_append_right _ hrs)) hlt2 (hos.some hlt2) (fQ hx) rfl ?_
    conv=>arg 5;whnf
    refine nv (f:=165) (n:=x.n) (v:=fun a1 c1=>acc x.s x.b a1 x.n c1) (xs:=ah x.l) rfl (by kernel_rfl) (fun β ρ w' hM'=>CP w' (hM'.at_ (by exact .tail _ (List.mem_append_right _ (hacf x hxL))))) (fun y c_y h_y f_y=>?_)
    conv=>arg 5;whnf
    refine ai ⟨by show Lt.length+1≤maxLen;unfold maxLen;omega,by show (Lt.length+1)*40≤140737488355328;omega⟩ ?_
    conv=>arg 5;whnf
    refine ai ⟨by show -9223372036854775808≤(t:Int)+1;omega,by show (t:Int)+1≤9223372036854775807;omega⟩ ?_
    have ec:aF (Lt++[⟨x.s,x.b,y,x.n,c_y,x.l⟩])=aF Lt++[.int .i64 x.s,.int .i64 x.b,.slice y x.n c_y]:=j7 _ _
    have el:(Lt++[(⟨x.s,x.b,y,x.n,c_y,x.l⟩:Ac)]).length=Lt.length+1:=by simp
    conv=>arg 5;whnf
    refine aO ⟨(t+1,Lt++[⟨x.s,x.b,y,x.n,c_y,x.l⟩]),⟨hlt2,?_,hmt.snoc (x:=⟨x.s,x.b,y,x.n,c_y,x.l⟩) ⟨h_y,xn,xl,xd⟩ f_y⟩,⟨by repeat' first | exact trivial | refine ⟨.inl rfl,?_⟩ | refine ⟨.inr rfl,?_⟩,⟨by repeat' first | exact trivial | refine ⟨.inl rfl,?_⟩ | refine ⟨.inr rfl,?_⟩,by rw [ec,el];repeat' first | exact trivial | refine ⟨.inl rfl,?_⟩ | refine ⟨.inr rfl,?_⟩,fun φ hφ=>by
     simp only [] at hφ
     rcases List.mem_cons.1 hφ with rfl | hφ
     ·exact .tail _ (.head _)
     ·rcases List.mem_append.1 hφ with hφ | hφ
      ·rw [List.map_append] at hφ
       rcases List.mem_append.1 hφ with hφ | hφ
       ·exact .tail _ (.tail _ (List.mem_append_left _ hφ))
       ·obtain rfl:=List.mem_singleton.1 hφ;exact .head _
      ·exact .tail _ (.tail _ (List.mem_append_right _ hφ))⟩,rfl⟩,by show (cH s L).length - (t+1)<(cH s L).length - t;omega⟩
    show (Lt++[(⟨x.s,x.b,y,x.n,c_y,x.l⟩:Ac)]).map jg=(uI (fun x:Ac=>x.s) ((kq L).take j) L++(cH s L).take (t+1)).map jg
    rw [htt,← List.append_assoc,List.map_append,List.map_append,← hLt];rfl
   ·have hte:t=(cH s L).length:=by have h3:=of_decide_eq_false (show decide ((t:Int)<((cH s L).length:Int))=false from h2);omega
    rw [hte,List.take_length,← hgt] at hLt
    conv=>arg 5;whnf
    refine ai ⟨by show -9223372036854775808≤(j:Int)+1;omega,by show (j:Int)+1≤9223372036854775807;omega⟩ ?_
    conv=>arg 5;whnf
    refine aO ⟨(j+1,Lt),⟨hlt,hLt,hmt⟩,⟨by repeat' first | exact trivial | refine ⟨.inl rfl,?_⟩ | refine ⟨.inr rfl,?_⟩,⟨by repeat' first | exact trivial | refine ⟨.inl rfl,?_⟩ | refine ⟨.inr rfl,?_⟩,by repeat' first | exact trivial | refine ⟨.inl rfl,?_⟩ | refine ⟨.inr rfl,?_⟩,fun _ h=>h⟩,rfl⟩,by show (kq L).length - (j+1)<(kq L).length - j;omega⟩
  ·have hje:j=(kq L).length:=by have h3:=of_decide_eq_false (show decide ((j:Int)<((kq L).length:Int))=false from h1);omega
   rw [hje,List.take_length] at hLs
   conv=>arg 5;whnf
   refine bV fun z c_z h_z f_z=>?_
   conv=>arg 5;whnf
   refine av fun β ρ w' hM'=>⟨(z,c_z),Ls,hLs,hmk.fit,h_z,rfl,hM'.below,fun φ hφ g' hg'=>?_⟩
   rcases List.mem_cons.1 hφ with rfl | hφ
   ·exact lU _ hM' (.head _) f_z g' hg'
   ·exact ⟨hmk.fr φ hφ g' hg',(hM'.fact φ (.tail _ (.tail _ (List.mem_append_left _ hφ))) g' hg').2⟩
end Go.Proofs.YtdbjakibneeeiaaGreatDoor.ax
