/- Layer 5 (queue): the document's Place and Put. -/
import Derived.Test.YtdbjakibneeeiaaGreatDoorKG21QueueT
set_option linter.all false
set_option maxHeartbeats 4000000
set_option maxRecDepth 100000
namespace Go.Proofs.YtdbjakibneeeiaaGreatDoor.queue
open Go.RowKit Sx txn
def jv (is:Bool) (t:Tx):List Tx→Bool→List Tx
 | [],laid=>bif laid then [] else [t]
 | x::l,laid=>bif !laid&&(x.n==t.n) then t::jv is t l true else bif !laid && !is&&decide (x.n>t.n) then t::x::jv is t l true else x::jv is t l laid
def kJ (t:Tx) (l:List Tx):List Tx:=jv (qF l t.n).2 t l false
end Go.Proofs.YtdbjakibneeeiaaGreatDoor.queue
namespace Go.Proofs.YtdbjakibneeeiaaGreatDoor.queue
open Go.RowKit Sx txn
def zR {w:World} {e:TypeId} {size n:Nat} {v:Value} {xs:List Value} (ho:w.ownsRow 0 e size v n xs):Mem w v.ownBlock ⟨[],[some ⟨e,size,n,xs⟩],[]⟩ [] [v] w where
 grown:=⟨rfl,rfl,rfl,Nat.le_refl _,fun _ _ _=>rfl⟩
 nd:=List.nodup_nil
 bl:=rfl
 lo g hg:=by cases hg
 own b cs ty hb:=by simp at hb
 rl:=rfl
 row i r hi:=by
  cases i with
  | zero=>
   simp at hi
   subst hi
   exact ⟨v,rfl,ho⟩
  | succ i=>simp at hi
 rb u hu g hg:=by
  simp only [List.mem_singleton] at hu
  subst hu
  refine ⟨by simp,.inr hg.symm,?_⟩
  rcases ho.2 with ⟨rfl,_⟩ | ⟨g',cap,cur,rfl,_,hw,_⟩
  ·simp [Value.ownBlock] at hg
  ·simp [Value.ownBlock] at hg
   subst hg
   exact (Array.getElem?_eq_some_iff.1 hw).1
 rows i j u u' g hij hi hj hu:=by
  cases i with
  | zero=>
   cases j with
   | zero=>exact absurd rfl hij
   | succ j=>simp at hj
  | succ i=>simp at hi
 fact φ hφ:=by cases hφ
def Gi {w:World} {a:Option Addr} {xs:List Value} (n:Nat) (h:At w a xs):At w (pt a n) xs:=by
 by_cases h0:n=0
 ·rw [show pt a n=none from if_pos h0]
  intro g hg
  cases hg
 ·rwa [show pt a n=a from if_neg h0]
def iN (p:Tx→Bool) (l:List Tx):List Tx:=l.filter fun x=>!p x
def lY (p:Tx→Bool):∀(l:List Tx) (k:Nat),idx p l k = -1→iN p l=l
 | [],k,_=>rfl
 | x::l,k,h=>by
  unfold idx at h
  cases hp:p x with
  | true=>rw [hp] at h;simp at h
  | false=>
   rw [hp] at h
   simp only [Bool.false_eq_true,if_false] at h
   have:=lY p l (k+1) h
   unfold iN at this ⊢
   rw [List.filter_cons,hp,this]
   rfl
def ig (p:Tx→Bool):∀(l:List Tx) (k:Nat),idx p l k≠-1→∃i:Nat,idx p l k=(k+i:Nat)∧i<l.length∧iN p (l.take (i+1))=l.take i
 | [],k,h=>absurd rfl h
 | x::l,k,h=>by
  unfold idx at h ⊢
  cases hp:p x with
  | true=>exact ⟨0,by simp,by simp,by simp [iN,hp]⟩
  | false=>
   rw [hp] at h
   simp only [Bool.false_eq_true,if_false] at h ⊢
   obtain ⟨i,h1,h2,h3⟩:=ig p l (k+1) h
   refine ⟨i+1,by rw [h1];congr 1;omega,by simp;omega,?_⟩
   unfold iN at h3 ⊢
   rw [List.take_succ_cons,List.filter_cons,hp,h3]
   rfl
def jJ (l:List Tx) (i:Nat) (x:Tx) (h:i<l.length):fI (ah l) (i*6) (bQ x)=ah (l.set i x):=by
 unfold fI
 rw [← kg,List.set_eq_take_append_cons_drop,if_pos h]
 have e:(ah l).drop (i*6+(bQ x).length)=ah (l.drop (i+1)):=by
  have h1:ah l=ah (l.take (i+1))++ah (l.drop (i+1)):=by rw [← fX,List.take_append_drop]
  have h2:(ah (l.take (i+1))).length=i*6+(bQ x).length:=by rw [a0W,List.length_take];simp [bQ];omega
  rw [h1,← h2,List.drop_left]
 rw [e]
 simp [ah]
def AE (l:List Tx) (v:Value) (n:Nat) (g:FuncId) (cs:List Value) (p:Tx→Bool) (w:World) (hn:n=l.length) (hown:w.ownsRow 0 26 6 v n (ah l)) (hl:l.length≤1000000) (hg:aP Tryz.prog g=true)
  (hp:∀(x:Tx) (w':World),w.grownBy w' v.ownBlock→Calls Tryz.prog g (List.toArray ([x.val]++cs)) w' fun e w''=>e=.returned (.bool (p x))∧Below w'.heap.size w' w'') :
  Calls Tryz.prog 208 (List.toArray [v,.func (.func g) #[] cs.toArray]) w fun e w'=>∃u,e=.returned u∧w.grownBy w' v.ownBlock∧w'.ownsRow 0 26 6 u (iN p l).length (ah (iN p l))∧∀g,u.ownBlock=some g→v.ownBlock=some g∨w.heap.size≤g:=by
 refine bH aq Tryz.func208 rfl [] (by kernel_rfl) (n:=4) (G:=v.ownBlock) rfl [.r 0,.v (.func (.func g) #[] cs.toArray)] ⟨[],[some ⟨26,6,n,ah l⟩],[]⟩ [v] (zR hown) (ak.cons rfl (ak.cons rfl ak.nil)) ?_
 conv=>arg 5;whnf
 refine meet (.int .i64 (idx p l 0)) (by kernel_rfl) (fun β ρ w' vs hM hR=>?_) ?_
 ·obtain ⟨y1,y2,rfl,h1,h2⟩:=ak.two hR
  obtain rfl:=h2
  obtain ⟨a,c,rfl,hsl,hat⟩:=hM.Fw (i:=0) rfl h1
  exact vC l a n c g cs p w' hsl hn (Gi n hat) hg fun x w2 _ hb=>hp x w2 (lS hM.grown hb)
 conv=>arg 5;whnf
 refine bk (fun h=>?_) (fun h=>?_)
 ·have hk:=lY p l 0 (by simpa using h)
  rw [hk,← hn]
  conv=>arg 5;whnf
  refine aO (fun β ρ w' u hM hu=>?_)
  obtain ⟨u',hu',ho⟩:=hM.row 0 _ rfl
  rw [hu] at hu'
  cases hu'
  exact ⟨u,rfl,hM.grown,ho,fun g hg=>(hM.rb u (List.mem_of_getElem? hu) g hg).2.1.elim .inr fun e=>.inl e.symm⟩
 ·obtain ⟨i0,hi0,hi1,hi2⟩:=ig p l 0 (by simpa using h)
  rw [Nat.zero_add] at hi0
  rw [hi0]
  clear hi0 h
  conv=>arg 5;whnf
  refine ai ⟨by first | omega | (dsimp only;omega),by first | omega | (dsimp only;omega)⟩ ?_
  conv=>arg 5;whnf
  refine cL aq [] (by kernel_rfl) (fun q:Nat×Nat×List Tx=>q.1<q.2.1∧q.2.1≤n∧q.2.2.length=n∧q.2.2.take q.1=iN p (l.take q.2.1)∧q.2.2.drop q.2.1=l.drop q.2.1∧q.1<n) (fun q=>(⟨[],[some ⟨26,6,n,ah q.2.2⟩],[]⟩,sl 42 [(0,.r 0),(1,.v (.func (.func g) #[] cs.toArray)),(4,.v (.slice none 0 0)),(5,.v (.int .i64 q.1)),(6,.v (.int .i64 q.2.1))])) (fun q=>n - q.2.1) (i0,i0+1,l) ⟨by first | omega | (dsimp only;omega),by first | omega | (dsimp only;omega),hn.symm,hi2.symm,rfl,by first | omega | (dsimp only;omega)⟩ ⟨by repeat' first | exact trivial | refine ⟨.inl rfl,?_⟩ | refine ⟨.inr rfl,?_⟩,⟨by repeat' first | exact trivial | refine ⟨.inl rfl,?_⟩ | refine ⟨.inr rfl,?_⟩,by repeat' first | exact trivial | refine ⟨.inl rfl,?_⟩ | refine ⟨.inr rfl,?_⟩,fun _ h=>h⟩,rfl⟩ ?_
  rintro ⟨i,j,r⟩ ⟨hij,hjn,hrl,hrt,hrd,hin⟩
  simp only [] at hij hjn hrl hrt hrd hin
  conv=>arg 5;whnf
  refine bk (fun h1=>?_) (fun h1=>?_)
  ·have hlt:j<n:=by dsimp only at h1;simp at h1;omega
   have hx:l[j]?=some l[j]:=List.getElem?_eq_getElem (by omega)
   generalize l[j]=x at hx
   have hrx:r[j]?=some x:=by
    have h3:=congrArg (fun L=>L[0]?) hrd
    simp only [List.getElem?_drop,Nat.add_zero] at h3
    rw [h3,hx]
   have hkt:iN p (l.take (j+1))=iN p (l.take j)++(if (!p x)=true then [x] else []):=by unfold iN;exact DA _ l j x hx
   have hdd:r.drop (j+1)=l.drop (j+1):=by
    have h3:=congrArg (fun L=>L.drop 1) hrd
    simpa [List.drop_drop] using h3
   conv=>arg 5;whnf
   refine ai ⟨by first | omega | (dsimp only;omega),by first | omega | (dsimp only;omega)⟩ ?_
   conv=>arg 5;whnf
   refine ⟨bQ x,rfl,fun jj u hu=>jt hrx jj u hu,?_⟩
   conv=>arg 5;whnf
   refine meet (.bool (p x)) hg (fun β ρ w' vs hM hR=>?_) ?_
   ·obtain rfl:=ak.iX (l:=[x.val]++cs) hR
    exact hp x w' hM.grown
   conv=>arg 5;whnf
   refine bk (fun h2=>?_) (fun h2=>?_)
   ·rw [if_pos h2] at hkt
    have hs1:(r.set i x).take (i+1)=iN p (l.take (j+1)):=by
     rw [hkt,← hrt,List.take_set,List.take_add_one]
     have hri:r[i]?=some r[i]:=List.getElem?_eq_getElem (by omega)
     rw [hri]
     simp only [Option.toList_some]
     rw [List.set_append_right _ _ (by rw [List.length_take];omega),List.length_take,show i - min i r.length=0 from by omega]
     rfl
    have hs2:(r.set i x).drop (j+1)=l.drop (j+1):=by rw [List.drop_set_of_lt (by omega),hdd]
    have hcs:=jJ r i x (by omega)
    conv=>arg 5;whnf
    refine ai ⟨by first | omega | (dsimp only;omega),by first | omega | (dsimp only;omega)⟩ ?_
    conv=>arg 5;whnf
    refine ai (by rw [a0W,hrl];show (i:Int).toNat*6+6≤n*6;omega) ?_
    conv=>arg 5;whnf
    refine ai ⟨by first | omega | (dsimp only;omega),by first | omega | (dsimp only;omega)⟩ ?_
    conv=>arg 5;whnf
    refine ai ⟨by first | omega | (dsimp only;omega),by first | omega | (dsimp only;omega)⟩ ?_
    conv=>arg 5;whnf
    refine aO ⟨(i+1,j+1,r.set i x),⟨by first | omega | (dsimp only;omega),hlt,by simp [hrl],hs1,hs2,by first | omega | (dsimp only;omega)⟩,⟨by repeat' first | exact trivial | refine ⟨.inl rfl,?_⟩ | refine ⟨.inr rfl,?_⟩,⟨trivial,by show GX (α:=Row) _ [some ⟨26,6,n,ah (r.set i x)⟩];rw [← hcs];repeat' first | exact trivial | refine ⟨.inl rfl,?_⟩ | refine ⟨.inr rfl,?_⟩,fun _ h=>h⟩,rfl⟩,by show n - (j+1)<n - j;omega⟩
   ·rw [if_neg (by rw [h2];simp),List.append_nil] at hkt
    conv=>arg 5;whnf
    refine ai ⟨by first | omega | (dsimp only;omega),by first | omega | (dsimp only;omega)⟩ ?_
    conv=>arg 5;whnf
    refine aO ⟨(i,j+1,r),⟨by first | omega | (dsimp only;omega),hlt,hrl,by rw [hkt];exact hrt,hdd,hin⟩,⟨by repeat' first | exact trivial | refine ⟨.inl rfl,?_⟩ | refine ⟨.inr rfl,?_⟩,⟨trivial,by show GX (α:=Row) _ [some ⟨26,6,n,ah (r)⟩];repeat' first | exact trivial | refine ⟨.inl rfl,?_⟩ | refine ⟨.inr rfl,?_⟩,fun _ h=>h⟩,rfl⟩,by show n - (j+1)<n - j;omega⟩
  ·have hje:j=n:=by dsimp only at h1;simp at h1;omega
   subst hje
   rw [show l.take j=l from List.take_of_length_le (by omega)] at hrt
   have hlen:(iN p l).length=i:=by rw [← hrt,List.length_take];omega
   conv=>arg 5;whnf
   refine ai ⟨by first | omega | (dsimp only;omega),by first | omega | (dsimp only;omega)⟩ ?_
   conv=>arg 5;whnf
   intro ys hys
   conv=>arg 5;whnf
   refine ai ⟨by first | omega | (dsimp only;omega),by first | omega | (dsimp only;omega)⟩ ?_
   conv=>arg 5;whnf
   refine aO (fun β ρ w' u hM hu=>?_)
   obtain ⟨u',hu',ho⟩:=hM.row 0 _ rfl
   rw [hu] at hu'
   cases hu'
   refine ⟨u,rfl,hM.grown,?_,fun g hg=>(hM.rb u (List.mem_of_getElem? hu) g hg).2.1.elim .inr fun e=>.inl e.symm⟩
   have hfin:((ah r).take ((i:Int).toNat*6)++ys).take ((i:Int).toNat*6)=ah (iN p l):=by
    rw [Int.toNat_natCast,List.take_append_of_le_length (by rw [List.length_take,a0W];omega),List.take_take,Nat.min_self,← kg,hrt]
   rw [hlen,← hfin]
   exact ho
def MS (x:Tx) (q:Addr) (v:Int) (w:World) (hq:At w (some q) [.int .i64 v]):Calls Tryz.prog 209 (List.toArray [x.val,.pointer (some q)]) w fun e w'=>e=.returned (.bool (x.n==v))∧Below w.heap.size w w':=by
 refine au aq Tryz.func209 rfl [] (by kernel_rfl) [ay (some q) [.int .i64 v]] (ru hq) ?_
 conv=>arg 5;whnf
 refine oq (.int .i64 v) rfl (List.mem_cons_self) (j:=0) rfl (by unfold Addr.add;simp) ?_
 conv=>arg 5;whnf
 exact av fun β ρ w' hM=>⟨rfl,hM.below⟩
def At.grown {w w':World} {g:Nat} {xs:List Value} {row:Option Nat} (h:At w (some ⟨g,0,none⟩) xs) (k:w.grownBy w' row) (hne:row≠some g):At w' (some ⟨g,0,none⟩) xs:=by
 intro g' hg'
 cases hg'
 obtain ⟨o,ho,hp⟩:=h g rfl
 exact ⟨o,(k.block g (Array.getElem?_eq_some_iff.1 ho).1 (fun e=>hne e.symm)).trans ho,hp⟩
def drop (s b:Int) (l:List Tx) (a:Option Addr) (n c:Nat) (v:Int) (w:World) (hs:Sl a n c) (hn:n=l.length) (hrow:At w (pt a n) (ah l)) (hl:l.length≤1000000) :
  Calls Tryz.prog 172 (List.toArray [acc s b a n c,.int .i64 v]) w fun e w'=>∃i:One,Sl i.1 (mR v l).length i.2∧dy w w' e (acc s b i.1 (mR v l).length i.2) [ay (pt i.1 (mR v l).length) (ah (mR v l))]:=by
 have hn63:=hs.le
 refine au aq Tryz.func172 rfl [] (by kernel_rfl) [ay (pt a n) (ah l)] (ru hrow) ?_
 conv=>arg 5;whnf
 refine E0 n (ah l) rfl (by kernel_rfl) (fun β ρ w' hM'=>clone l a n c w' hs hn (hM'.at_ (List.mem_cons_self)) hl) ?_
 conv=>arg 5;whnf
 refine ⟨by kernel_rfl,fun β ρ w' vs u hM hR hu ho=>?_⟩
 obtain ⟨y1,y2,rfl,h1,h2⟩:=ak.two hR
 have h1:ρ[0]?=some y1:=h1
 rw [hu] at h1
 cases h1
 obtain ⟨g,hg,rfl⟩:=Rel.Qj h2
 have hbox:=hM.box (b:=1) (l:=[.int .i64 v]) rfl hg
 have hne:u.ownBlock≠some g:=fun e=>(hM.rb u (List.mem_of_getElem? hu) g e).1 (List.mem_of_getElem? hg)
 refine (AE l u n _ [.pointer (some ⟨g,0,none⟩)] (fun x=>x.n==v) w' hn ho hl (by kernel_rfl) (fun x w2 hgr=>MS x _ v w2 (At.grown hbox hgr hne))).mono ?_
 rintro e w2 ⟨u2,rfl,hgr,ho2,hw2⟩
 refine ⟨true,u2,[],(mR v l).length,ah (mR v l),rfl,hgr,ho2,fun _=>.inr ⟨rfl,hw2⟩,(fun φ hφ=>by cases hφ),?_⟩
 conv=>arg 5;whnf
 refine bV fun a1 c1 hs1 hf1=>?_
 conv=>arg 5;whnf
 refine av fun β ρ w' hM'=>⟨(a1,c1),hs1,rfl,hM'.below,?_⟩
 intro φ hφ
 simp only [List.mem_cons,List.not_mem_nil,or_false] at hφ
 subst hφ
 exact lU _ hM' List.mem_cons_self hf1
end Go.Proofs.YtdbjakibneeeiaaGreatDoor.queue
namespace Go.Proofs.YtdbjakibneeeiaaGreatDoor.queue
open Go.RowKit Sx txn
def kj (a:Option Addr) (n c j:Nat) (w:World) (h:j≤n) (hc:n≤c):(do pure (Next.value (← Instr.sliceAt 27 (.slice a n c) (some (.int .i64 j)) none none)):Sem Next).run Tryz.prog w=.ok (.value (.slice (if c=j then a else a.map fun x=>x.add (j*6)) (n - j) (c - j))) w:=by
 have h2:(j:Int)≤n:=by omega
 have h3:(n:Int)≤c:=by omega
 by_cases h4:c=j
 ·have h5:(c:Int)=j:=by omega
  simp [Instr.sliceAt,Instr.slice,run_underlying Tryz.underlying27,Sem.run_bind,go_sem,h2,h3,h4,h5]
 ·simp [Instr.sliceAt,Instr.slice,run_underlying Tryz.underlying27,Sem.run_bind,go_sem,h2,h3,h4]
def jW (l:List Tx) (j:Nat):ah (l.drop j)=(ah l).drop (j*6):=by
 induction l generalizing j with
 | nil=>simp [ah]
 | cons x l ih=>
  cases j with
  | zero=>simp [ah]
  | succ j=>
   have:=ih j
   simp only [ah] at this
   simp only [ah,List.drop_succ_cons,List.flatMap_cons]
   rw [this,show (j+1)*6=(bQ x).length+j*6 from by simp [bQ];omega,List.drop_length_add_append]
def wN {w:World} {a:Option Addr} {n c:Nat} {l:List Tx} (h:At w (pt a n) (ah l)) (j:Nat) (hj:j≤n) (hc:n≤c):At w (pt (if c=j then a else a.map fun x=>x.add (j*6)) (n - j)) (ah (l.drop j)):=by
 by_cases h0:n - j=0
 ·rw [show pt _ (n - j)=none from if_pos h0]
  intro g hg
  cases hg
 ·rw [show pt a n=a from if_neg (by omega)] at h
  rw [show pt _ (n - j)=_ from if_neg h0,if_neg (by omega),jW]
  exact C8 h _
def oO {w:World} {base:Nat} {e:TypeId} {size:Nat} {v:Value} {n:Nat} {xs:List Value} (h:w.ownsRow base e size v n xs):∃a c,v=.slice a n c∧Sl a n c∧(∀ad,a=some ad→base≤ad.block)∧At w (pt a n) xs:=by
 obtain ⟨hl,⟨rfl,rfl⟩ | ⟨g,cap,cur,rfl,hb,hg,hn,hc,hsz,hx⟩⟩:=h
 ·exact ⟨none,0,rfl,⟨Nat.le_refl _,Nat.zero_le _,fun _=>⟨rfl,rfl⟩⟩,fun ad h=>(by cases h),fun g hg=>(by cases hg)⟩
 ·refine ⟨_,cap,rfl,⟨hn,hc,fun h=>(by cases h)⟩,fun ad h=>(by cases h;exact hb),?_⟩
  by_cases h0:n=0
  ·rw [show pt _ n=none from if_pos h0]
   intro g hg
   cases hg
  ·rw [show pt _ n=_ from if_neg h0]
   intro g' hg'
   cases hg'
   refine ⟨_,hg,fun ad had=>?_⟩
   cases had
   refine ⟨rfl,cur,e,_,rfl,fun j u hu=>?_⟩
   have hj:j<n*size:=by
    have:=(List.getElem?_eq_some_iff.1 hu).1
    omega
   rw [← hx,List.getElem?_take,if_pos hj,Array.getElem?_toList] at hu
   simpa using hu
def IU {P:Program} {W:World} {Q:Ending→World→Prop} {ds:List Deferred} {f:FuncId} {args:List T} {e:TypeId} {size:Nat} {m:M} {k:Value→List Fact→Tree} {l:List Value} (n:Nat) (ys:List Value) (hv:aH args=some l) (hc:aP P f=true)
  (hC:∀β ρ w,Mem W none m β ρ w→Calls P f (List.toArray l) w fun e' w'=>∃v,e'=.returned v∧Below w.heap.size w w'∧w'.ownsRow w.heap.size e size v n ys)
  (h:∀a c,Sl a n c→sE W none a→(k (.slice a n c) [ay (pt a n) ys]).aD P W none Q ds):(Tree.call f args m k).aD P W none Q ds:=
 ⟨hc,fun β ρ w vs hm hr=>by
  rw [aE _ _ _ hv hr]
  refine (hC β ρ w hm).mono fun e' w' ⟨v,he,hb,ho⟩=>?_
  obtain ⟨a,c,rfl,hsl,hfr,hat⟩:=oO ho
  have hWw:=hm.below.size
  refine ⟨_,[ay (pt a n) ys],he,hb,?_,h a c hsl fun ad had=>.inl (Nat.le_trans hWw (hfr ad had))⟩
  intro φ hφ g hg
  simp only [List.mem_singleton] at hφ
  subst hφ
  refine ⟨.inr (.inl ?_),hat g hg⟩
  by_cases h0:n=0
  ·rw [show pt a n=none from if_pos h0] at hg
   cases hg
  ·rw [show pt a n=a from if_neg h0] at hg
   cases a with
   | none=>cases hg
   | some ad=>cases hg;exact hfr ad rfl⟩
def suffix {a:Option Addr} {n c:Nat} (hs:Sl a n c) (j:Nat) (hj:j≤n):Sl (if c=j then a else a.map fun x=>x.add (j*6)) (n - j) (c - j):=by
 have h1:=hs.1
 have h2:=hs.2.1
 refine ⟨by omega,by omega,fun ha=>?_⟩
 have h0:n=0∧c=0:=by
  apply hs.2.2
  split at ha
  ·exact ha
  ·cases a with
   | none=>rfl
   | some x=>cases ha
 omega
def Jc {W:World} {m:M} {β ρ} {w':World} {a:Option Addr} {xs:List Value} (n:Nat) (hM:Mem W none m β ρ w') (hm:ay (pt a n) xs∈m.facts) (hf:sE W none a) :
  ∀g,(ay (pt a n) xs).g=some g→W.heap.size≤g∧∃o,w'.heap[g]?=some o∧(ay (pt a n) xs).holds o:=fun g hg=>by
 refine ⟨?_,hM.at_ hm g hg⟩
 by_cases h:n=0
 ·rw [show pt a n=none from if_pos h] at hg
  cases hg
 ·rw [show pt a n=a from if_neg h] at hg
  cases a with
  | none=>cases hg
  | some ad=>
   cases hg
   rcases hf ad rfl with h1 | h1
   ·exact h1
   ·cases h1
def ny (p:Int→Bool):∀(l:List Tx) (k:Nat),bZ (fun _ m=>p m) l k=k+bZ (fun _ m=>p m) l 0
 | [],k=>rfl
 | x::l,k=>by
  show (bif p x.n then k else bZ _ l (k+1))=k+(bif p x.n then 0 else bZ _ l (0+1))
  cases p x.n with
  | true=>rfl
  | false=>
   simp only [cond_false]
   rw [ny p l (k+1),ny p l (0+1)]
   omega
def pE (p:Int→Bool) (x:Tx) (l:List Tx):bZ (fun _ m=>p m) (x::l) 0=bif p x.n then 0 else bZ (fun _ m=>p m) l 0+1:=by
 show (bif p x.n then 0 else bZ _ l (0+1))=_
 rw [ny p l (0+1),Nat.add_comm]
def nQ (is:Bool) (t:Tx):∀l:List Tx,jv is t l true=l
 | []=>rfl
 | x::l=>by simp [jv,nQ is t l]
def yB (t:Tx):∀l:List Tx,bZ (fun _ m=>m==t.n) l 0<l.length→jv true t l false=l.take (bZ (fun _ m=>m==t.n) l 0)++[t]++l.drop (bZ (fun _ m=>m==t.n) l 0+1)
 | [],h=>by simp at h
 | x::l,h=>by
  rw [pE (fun m=>m==t.n)] at h ⊢
  cases e:x.n==t.n with
  | true=>simp [jv,e,nQ]
  | false=>
   rw [e] at h
   simp only [cond_false,List.length_cons] at h
   have:=yB t l (by omega)
   simp [jv,e,this]
def vB (t:Tx):∀l:List Tx,bZ (fun _ m=>m==t.n) l 0=l.length→jv false t l false=l.take (bZ (fun _ m=>decide (m>t.n)) l 0)++[t]++l.drop (bZ (fun _ m=>decide (m>t.n)) l 0)
 | [],h=>by simp [jv,bZ]
 | x::l,h=>by
  rw [pE (fun m=>m==t.n)] at h
  rw [pE (fun m=>decide (m>t.n))]
  cases e:x.n==t.n with
  | true=>rw [e] at h;simp at h
  | false=>
   rw [e] at h
   simp only [cond_false,List.length_cons] at h
   have:=vB t l (by omega)
   cases e2:decide (x.n>t.n) with
   | true=>simp [jv,e,e2,nQ]
   | false=>simp [jv,e,e2,this]
def Iz {t:Tx} {l:List Tx} (h:bZ (fun _ m=>m==t.n) l 0<l.length):kJ t l=l.take (bZ (fun _ m=>m==t.n) l 0)++[t]++l.drop (bZ (fun _ m=>m==t.n) l 0+1):=by
 unfold kJ qF
 rw [List.getElem?_eq_getElem h]
 exact yB t l h
def Eb {t:Tx} {l:List Tx} (h:bZ (fun _ m=>m==t.n) l 0=l.length):kJ t l=l.take (bZ (fun _ m=>decide (m>t.n)) l 0)++[t]++l.drop (bZ (fun _ m=>decide (m>t.n)) l 0):=by
 unfold kJ qF
 rw [List.getElem?_eq_none (by omega)]
 exact vB t l h
def put (s b:Int) (l:List Tx) (a:Option Addr) (n c:Nat) (t:Tx) (w:World) (hs:Sl a n c) (hn:n=l.length) (hrow:At w (pt a n) (ah l)) (hl:l.length≤100000) :
  Calls Tryz.prog 141 (List.toArray [acc s b a n c,t.val]) w fun e w'=>∃i:One,Sl i.1 (kJ t l).length i.2∧dy w w' e (acc s b i.1 (kJ t l).length i.2) [ay (pt i.1 (kJ t l).length) (ah (kJ t l))]:=by
 have hle:=om (fun _ m=>m==t.n) l 0
 have hle2:=om (fun _ m=>decide (m>t.n)) l 0
 have hin:=Iz (t:=t) (l:=l)
 have hout:=Eb (t:=t) (l:=l)
 have hnc:=hs.1
 have hn63:=hs.le
 have H1:=fun w' hr=>placeOf l a n c t.n w' hs hn hr
 have H2:=fun w' hr=>AL l a n c t.n w' hs hn hr
 generalize bZ (fun _ m=>m==t.n) l 0=p at *
 generalize bZ (fun _ m=>decide (m>t.n)) l 0=q at *
 refine au aq Tryz.func141 rfl [(6,(Jp [0,1,2,3,4,6,7,8,9,5,10,11,12] 13,[]))] (by kernel_rfl) [ay (pt a n) (ah l)] (ru hrow) ?_
 conv=>arg 5;whnf
 refine iA rfl (by kernel_rfl) (fun β ρ w' hM'=>H1 w' (hM'.at_ List.mem_cons_self)) ?_
 conv=>arg 5;whnf
 refine ai ⟨by omega,by omega⟩ ?_
 conv=>arg 5;whnf
 refine bk (fun h1=>?_) (fun h1=>?_)
 ·have hpn:p=l.length:=by simp at h1;omega
  have hpv:=hout hpn
  clear hin hout h1
  conv=>arg 5;whnf
  refine iA rfl (by kernel_rfl) (fun β ρ w' hM'=>H2 w' (hM'.at_ List.mem_cons_self)) ?_
  conv=>arg 5;whnf
  refine b8 (.slice a q c) (fun w=>lp a n c q w (by omega)) ?_
  conv=>arg 5;whnf
  refine b8 (.slice (if c=q then a else a.map fun x=>x.add (q*6)) (n - (q)) (c - (q))) (fun w=>kj a n c (q) w (by omega) (by omega)) ?_
  conv=>arg 5;whnf
  refine bV fun A1 C1 hS1 hF1=>?_
  conv=>arg 5;whnf
  refine bV fun A2 C2 hS2 hF2=>?_
  conv=>arg 5;whnf
  refine IU (e:=26) (size:=6) (kJ t l).length (ah (kJ t l)) rfl (by kernel_rfl) (fun β ρ w' hM'=>?_) (fun a1 c1 hs1 hf1=>?_)
  ·have hr0:=hM'.at_ (a:=pt a n) (xs:=ah l) (List.mem_cons_of_mem _ (List.mem_cons_of_mem _ List.mem_cons_self))
   have h1:=concat [⟨a,q,c,l.take (q)⟩,⟨A1,1,C1,[t]⟩,⟨if c=q then a else a.map fun x=>x.add ((q)*6),n - (q),c - (q),l.drop (q)⟩] A2 3 C2 w' hS2 rfl (hM'.at_ (List.mem_cons_self)) (by
    intro x hx
    simp only [List.mem_cons,List.not_mem_nil,or_false] at hx
    rcases hx with rfl | rfl | rfl
    ·exact ⟨⟨by show q≤c;omega,hs.2.1,fun ha=>⟨by have:=(hs.2.2 ha).1;show q=0;omega,(hs.2.2 ha).2⟩⟩,by show q=(l.take (q)).length;rw [List.length_take];omega,lN hr0 (q) (by omega)⟩
    ·exact ⟨hS1,rfl,hM'.at_ (List.mem_cons_of_mem _ List.mem_cons_self)⟩
    ·exact ⟨suffix hs (q) (by omega),by show n - (q)=(l.drop (q)).length;rw [List.length_drop];omega,wN hr0 (q) (by omega) (by omega)⟩) (by simp [flat];omega)
   rw [show flat _=kJ t l from by rw [hpv];simp [flat]] at h1
   exact h1
  conv=>arg 5;whnf
  refine av fun β ρ w' hM'=>⟨(a1,c1),hs1,rfl,hM'.below,?_⟩
  intro φ hφ
  simp only [List.mem_cons,List.not_mem_nil,or_false] at hφ
  subst hφ
  exact Jc _ hM' List.mem_cons_self hf1
 ·have hpn:p<l.length:=by simp at h1;omega
  have hpv:=hin hpn
  clear hin hout h1
  have hp1:(p:Int)+1=((p+1:Nat):Int):=by omega
  rw [hp1]
  conv=>arg 5;whnf
  refine b8 (.slice a p c) (fun w=>lp a n c p w (by omega)) ?_
  conv=>arg 5;whnf
  refine b8 (.slice (if c=(p+1) then a else a.map fun x=>x.add ((p+1)*6)) (n - ((p+1))) (c - ((p+1)))) (fun w=>kj a n c ((p+1)) w (by omega) (by omega)) ?_
  conv=>arg 5;whnf
  refine bV fun A1 C1 hS1 hF1=>?_
  conv=>arg 5;whnf
  refine bV fun A2 C2 hS2 hF2=>?_
  conv=>arg 5;whnf
  refine IU (e:=26) (size:=6) (kJ t l).length (ah (kJ t l)) rfl (by kernel_rfl) (fun β ρ w' hM'=>?_) (fun a1 c1 hs1 hf1=>?_)
  ·have hr0:=hM'.at_ (a:=pt a n) (xs:=ah l) (List.mem_cons_of_mem _ (List.mem_cons_of_mem _ List.mem_cons_self))
   have h1:=concat [⟨a,p,c,l.take (p)⟩,⟨A1,1,C1,[t]⟩,⟨if c=(p+1) then a else a.map fun x=>x.add (((p+1))*6),n - ((p+1)),c - ((p+1)),l.drop ((p+1))⟩] A2 3 C2 w' hS2 rfl (hM'.at_ (List.mem_cons_self)) (by
    intro x hx
    simp only [List.mem_cons,List.not_mem_nil,or_false] at hx
    rcases hx with rfl | rfl | rfl
    ·exact ⟨⟨by show p≤c;omega,hs.2.1,fun ha=>⟨by have:=(hs.2.2 ha).1;show p=0;omega,(hs.2.2 ha).2⟩⟩,by show p=(l.take (p)).length;rw [List.length_take];omega,lN hr0 (p) (by omega)⟩
    ·exact ⟨hS1,rfl,hM'.at_ (List.mem_cons_of_mem _ List.mem_cons_self)⟩
    ·exact ⟨suffix hs ((p+1)) (by omega),by show n - ((p+1))=(l.drop ((p+1))).length;rw [List.length_drop];omega,wN hr0 ((p+1)) (by omega) (by omega)⟩) (by simp [flat];omega)
   rw [show flat _=kJ t l from by rw [hpv];simp [flat]] at h1
   exact h1
  conv=>arg 5;whnf
  refine av fun β ρ w' hM'=>⟨(a1,c1),hs1,rfl,hM'.below,?_⟩
  intro φ hφ
  simp only [List.mem_cons,List.not_mem_nil,or_false] at hφ
  subst hφ
  exact Jc _ hM' List.mem_cons_self hf1
end Go.Proofs.YtdbjakibneeeiaaGreatDoor.queue
