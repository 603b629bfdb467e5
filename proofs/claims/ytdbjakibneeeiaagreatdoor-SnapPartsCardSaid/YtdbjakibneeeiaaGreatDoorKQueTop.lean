/- Layer 5 (queue): the document's Place and Put. -/
import Derived.Test.YtdbjakibneeeiaaGreatDoorKG21QueueT
set_option linter.all false
set_option maxHeartbeats 4000000
set_option maxRecDepth 100000
namespace Go.Proofs.YtdbjakibneeeiaaGreatDoor.queue
open Go.RowKit Sx txn
def putGo (is:Bool) (t:Tx):List Tx→Bool→List Tx
 | [],laid=>bif laid then [] else [t]
 | x::l,laid=>bif !laid&&(x.n==t.n) then t::putGo is t l true else bif !laid && !is&&decide (x.n>t.n) then t::x::putGo is t l true else x::putGo is t l laid
def putV (t:Tx) (l:List Tx):List Tx:=putGo (findV l t.n).2 t l false
end Go.Proofs.YtdbjakibneeeiaaGreatDoor.queue
namespace Go.Proofs.YtdbjakibneeeiaaGreatDoor.queue
open Go.RowKit Sx txn
theorem mem_granted {w:World} {e:TypeId} {size n:Nat} {v:Value} {xs:List Value} (ho:w.ownsRow 0 e size v n xs):Mem w v.ownBlock ⟨[],[some ⟨e,size,n,xs⟩],[]⟩ [] [v] w where
 grown:=⟨rfl,rfl,rfl,Nat.le_refl _,fun _ _ _=>rfl⟩
 nd:=List.nodup_nil
 bl:=rfl
 lo g hg:=by cases hg
 own b cs ty hb:=by simp at hb
 rl:=rfl
 row i r hi:=by
  cases i with
  | zero=>
   simp at hi
   subst hi
   exact ⟨v,rfl,ho⟩
  | succ i=>simp at hi
 rb u hu g hg:=by
  simp only [List.mem_singleton] at hu
  subst hu
  refine ⟨by simp,.inr hg.symm,?_⟩
  rcases ho.2 with ⟨rfl,_⟩ | ⟨g',cap,cur,rfl,_,hw,_⟩
  ·simp [Value.ownBlock] at hg
  ·simp [Value.ownBlock] at hg
   subst hg
   exact (Array.getElem?_eq_some_iff.1 hw).1
 rows i j u u' g hij hi hj hu:=by
  cases i with
  | zero=>
   cases j with
   | zero=>exact absurd rfl hij
   | succ j=>simp at hj
  | succ i=>simp at hi
 fact φ hφ:=by cases hφ
theorem at_whole {w:World} {a:Option Addr} {xs:List Value} (n:Nat) (h:At w a xs):At w (pt a n) xs:=by
 by_cases h0:n=0
 ·rw [show pt a n=none from if_pos h0]
  intro g hg
  cases hg
 ·rwa [show pt a n=a from if_neg h0]
def keepV (p:Tx→Bool) (l:List Tx):List Tx:=l.filter fun x=>!p x
theorem idx_none (p:Tx→Bool):∀(l:List Tx) (k:Nat),idx p l k = -1→keepV p l=l
 | [],k,_=>rfl
 | x::l,k,h=>by
  unfold idx at h
  cases hp:p x with
  | true=>rw [hp] at h;simp at h
  | false=>
   rw [hp] at h
   simp only [Bool.false_eq_true,if_false] at h
   have:=idx_none p l (k+1) h
   unfold keepV at this ⊢
   rw [List.filter_cons,hp,this]
   rfl
theorem idx_some (p:Tx→Bool):∀(l:List Tx) (k:Nat),idx p l k≠-1→∃i:Nat,idx p l k=(k+i:Nat)∧i<l.length∧keepV p (l.take (i+1))=l.take i
 | [],k,h=>absurd rfl h
 | x::l,k,h=>by
  unfold idx at h ⊢
  cases hp:p x with
  | true=>exact ⟨0,by simp,by simp,by simp [keepV,hp]⟩
  | false=>
   rw [hp] at h
   simp only [Bool.false_eq_true,if_false] at h ⊢
   obtain ⟨i,h1,h2,h3⟩:=idx_some p l (k+1) h
   refine ⟨i+1,by rw [h1];congr 1;omega,by simp;omega,?_⟩
   unfold keepV at h3 ⊢
   rw [List.take_succ_cons,List.filter_cons,hp,h3]
   rfl
theorem cells_set (l:List Tx) (i:Nat) (x:Tx) (h:i<l.length):spl (cellsL l) (i*6) (cellsX x)=cellsL (l.set i x):=by
 unfold spl
 rw [← cellsL_takes,List.set_eq_take_append_cons_drop,if_pos h]
 have e:(cellsL l).drop (i*6+(cellsX x).length)=cellsL (l.drop (i+1)):=by
  have h1:cellsL l=cellsL (l.take (i+1))++cellsL (l.drop (i+1)):=by rw [← cellsL_append,List.take_append_drop]
  have h2:(cellsL (l.take (i+1))).length=i*6+(cellsX x).length:=by rw [cellsL_length,List.length_take];simp [cellsX];omega
  rw [h1,← h2,List.drop_left]
 rw [e]
 simp [cellsL]
theorem deleteFunc (l:List Tx) (v:Value) (n:Nat) (g:FuncId) (cs:List Value) (p:Tx→Bool) (w:World) (hn:n=l.length) (hown:w.ownsRow 0 26 6 v n (cellsL l)) (hl:l.length≤1000000) (hg:callable Tryz.prog g=true)
  (hp:∀(x:Tx) (w':World),w.grownBy w' v.ownBlock→Calls Tryz.prog g (List.toArray ([x.val]++cs)) w' fun e w''=>e=.returned (.bool (p x))∧Below w'.heap.size w' w'') :
  Calls Tryz.prog 208 (List.toArray [v,.func (.func g) #[] cs.toArray]) w fun e w'=>∃u,e=.returned u∧w.grownBy w' v.ownBlock∧w'.ownsRow 0 26 6 u (keepV p l).length (cellsL (keepV p l))∧∀g,u.ownBlock=some g→v.ownBlock=some g∨w.heap.size≤g:=by
 refine calls_of_row env_ok Tryz.func208 rfl [] (by kernel_rfl) (n:=4) (G:=v.ownBlock) rfl [.r 0,.v (.func (.func g) #[] cs.toArray)] ⟨[],[some ⟨26,6,n,cellsL l⟩],[]⟩ [v] (mem_granted hown) (Rels.cons rfl (Rels.cons rfl Rels.nil)) ?_
 conv=>arg 5;whnf
 refine meet (.int .i64 (idx p l 0)) (by kernel_rfl) (fun β ρ w' vs hM hR=>?_) ?_
 ·obtain ⟨y1,y2,rfl,h1,h2⟩:=Rels.two hR
  obtain rfl:=h2
  obtain ⟨a,c,rfl,hsl,hat⟩:=hM.at_own (i:=0) rfl h1
  exact indexFunc l a n c g cs p w' hsl hn (at_whole n hat) hg fun x w2 _ hb=>hp x w2 (grown_below hM.grown hb)
 conv=>arg 5;whnf
 refine wp_br (fun h=>?_) (fun h=>?_)
 ·have hk:=idx_none p l 0 (by simpa using h)
  rw [hk,← hn]
  conv=>arg 5;whnf
  refine wp_end (fun β ρ w' u hM hu=>?_)
  obtain ⟨u',hu',ho⟩:=hM.row 0 _ rfl
  rw [hu] at hu'
  cases hu'
  exact ⟨u,rfl,hM.grown,ho,fun g hg=>(hM.rb u (List.mem_of_getElem? hu) g hg).2.1.elim .inr fun e=>.inl e.symm⟩
 ·obtain ⟨i0,hi0,hi1,hi2⟩:=idx_some p l 0 (by simpa using h)
  rw [Nat.zero_add] at hi0
  rw [hi0]
  clear hi0 h
  conv=>arg 5;whnf
  refine wp_must ⟨by first | omega | (dsimp only;omega),by first | omega | (dsimp only;omega)⟩ ?_
  conv=>arg 5;whnf
  refine loop_rule env_ok [] (by kernel_rfl) (fun q:Nat×Nat×List Tx=>q.1<q.2.1∧q.2.1≤n∧q.2.2.length=n∧q.2.2.take q.1=keepV p (l.take q.2.1)∧q.2.2.drop q.2.1=l.drop q.2.1∧q.1<n) (fun q=>(⟨[],[some ⟨26,6,n,cellsL q.2.2⟩],[]⟩,sl 42 [(0,.r 0),(1,.v (.func (.func g) #[] cs.toArray)),(4,.v (.slice none 0 0)),(5,.v (.int .i64 q.1)),(6,.v (.int .i64 q.2.1))])) (fun q=>n - q.2.1) (i0,i0+1,l) ⟨by first | omega | (dsimp only;omega),by first | omega | (dsimp only;omega),hn.symm,hi2.symm,rfl,by first | omega | (dsimp only;omega)⟩ ⟨by repeat' first | exact trivial | refine ⟨.inl rfl,?_⟩ | refine ⟨.inr rfl,?_⟩,⟨by repeat' first | exact trivial | refine ⟨.inl rfl,?_⟩ | refine ⟨.inr rfl,?_⟩,by repeat' first | exact trivial | refine ⟨.inl rfl,?_⟩ | refine ⟨.inr rfl,?_⟩,fun _ h=>h⟩,rfl⟩ ?_
  rintro ⟨i,j,r⟩ ⟨hij,hjn,hrl,hrt,hrd,hin⟩
  simp only [] at hij hjn hrl hrt hrd hin
  conv=>arg 5;whnf
  refine wp_br (fun h1=>?_) (fun h1=>?_)
  ·have hlt:j<n:=by dsimp only at h1;simp at h1;omega
   have hx:l[j]?=some l[j]:=List.getElem?_eq_getElem (by omega)
   generalize l[j]=x at hx
   have hrx:r[j]?=some x:=by
    have h3:=congrArg (fun L=>L[0]?) hrd
    simp only [List.getElem?_drop,Nat.add_zero] at h3
    rw [h3,hx]
   have hkt:keepV p (l.take (j+1))=keepV p (l.take j)++(if (!p x)=true then [x] else []):=by unfold keepV;exact filt_take _ l j x hx
   have hdd:r.drop (j+1)=l.drop (j+1):=by
    have h3:=congrArg (fun L=>L.drop 1) hrd
    simpa [List.drop_drop] using h3
   conv=>arg 5;whnf
   refine wp_must ⟨by first | omega | (dsimp only;omega),by first | omega | (dsimp only;omega)⟩ ?_
   conv=>arg 5;whnf
   refine ⟨cellsX x,rfl,fun jj u hu=>cellsL_at hrx jj u hu,?_⟩
   conv=>arg 5;whnf
   refine meet (.bool (p x)) hg (fun β ρ w' vs hM hR=>?_) ?_
   ·obtain rfl:=Rels.vals_eq (l:=[x.val]++cs) hR
    exact hp x w' hM.grown
   conv=>arg 5;whnf
   refine wp_br (fun h2=>?_) (fun h2=>?_)
   ·rw [if_pos h2] at hkt
    have hs1:(r.set i x).take (i+1)=keepV p (l.take (j+1)):=by
     rw [hkt,← hrt,List.take_set,List.take_add_one]
     have hri:r[i]?=some r[i]:=List.getElem?_eq_getElem (by omega)
     rw [hri]
     simp only [Option.toList_some]
     rw [List.set_append_right _ _ (by rw [List.length_take];omega),List.length_take,show i - min i r.length=0 from by omega]
     rfl
    have hs2:(r.set i x).drop (j+1)=l.drop (j+1):=by rw [List.drop_set_of_lt (by omega),hdd]
    have hcs:=cells_set r i x (by omega)
    conv=>arg 5;whnf
    refine wp_must ⟨by first | omega | (dsimp only;omega),by first | omega | (dsimp only;omega)⟩ ?_
    conv=>arg 5;whnf
    refine wp_must (by rw [cellsL_length,hrl];show (i:Int).toNat*6+6≤n*6;omega) ?_
    conv=>arg 5;whnf
    refine wp_must ⟨by first | omega | (dsimp only;omega),by first | omega | (dsimp only;omega)⟩ ?_
    conv=>arg 5;whnf
    refine wp_must ⟨by first | omega | (dsimp only;omega),by first | omega | (dsimp only;omega)⟩ ?_
    conv=>arg 5;whnf
    refine wp_end ⟨(i+1,j+1,r.set i x),⟨by first | omega | (dsimp only;omega),hlt,by simp [hrl],hs1,hs2,by first | omega | (dsimp only;omega)⟩,⟨by repeat' first | exact trivial | refine ⟨.inl rfl,?_⟩ | refine ⟨.inr rfl,?_⟩,⟨trivial,by show LeO (α:=Row) _ [some ⟨26,6,n,cellsL (r.set i x)⟩];rw [← hcs];repeat' first | exact trivial | refine ⟨.inl rfl,?_⟩ | refine ⟨.inr rfl,?_⟩,fun _ h=>h⟩,rfl⟩,by show n - (j+1)<n - j;omega⟩
   ·rw [if_neg (by rw [h2];simp),List.append_nil] at hkt
    conv=>arg 5;whnf
    refine wp_must ⟨by first | omega | (dsimp only;omega),by first | omega | (dsimp only;omega)⟩ ?_
    conv=>arg 5;whnf
    refine wp_end ⟨(i,j+1,r),⟨by first | omega | (dsimp only;omega),hlt,hrl,by rw [hkt];exact hrt,hdd,hin⟩,⟨by repeat' first | exact trivial | refine ⟨.inl rfl,?_⟩ | refine ⟨.inr rfl,?_⟩,⟨trivial,by show LeO (α:=Row) _ [some ⟨26,6,n,cellsL (r)⟩];repeat' first | exact trivial | refine ⟨.inl rfl,?_⟩ | refine ⟨.inr rfl,?_⟩,fun _ h=>h⟩,rfl⟩,by show n - (j+1)<n - j;omega⟩
  ·have hje:j=n:=by dsimp only at h1;simp at h1;omega
   subst hje
   rw [show l.take j=l from List.take_of_length_le (by omega)] at hrt
   have hlen:(keepV p l).length=i:=by rw [← hrt,List.length_take];omega
   conv=>arg 5;whnf
   refine wp_must ⟨by first | omega | (dsimp only;omega),by first | omega | (dsimp only;omega)⟩ ?_
   conv=>arg 5;whnf
   intro ys hys
   conv=>arg 5;whnf
   refine wp_must ⟨by first | omega | (dsimp only;omega),by first | omega | (dsimp only;omega)⟩ ?_
   conv=>arg 5;whnf
   refine wp_end (fun β ρ w' u hM hu=>?_)
   obtain ⟨u',hu',ho⟩:=hM.row 0 _ rfl
   rw [hu] at hu'
   cases hu'
   refine ⟨u,rfl,hM.grown,?_,fun g hg=>(hM.rb u (List.mem_of_getElem? hu) g hg).2.1.elim .inr fun e=>.inl e.symm⟩
   have hfin:((cellsL r).take ((i:Int).toNat*6)++ys).take ((i:Int).toNat*6)=cellsL (keepV p l):=by
    rw [Int.toNat_natCast,List.take_append_of_le_length (by rw [List.length_take,cellsL_length];omega),List.take_take,Nat.min_self,← cellsL_takes,hrt]
   rw [hlen,← hfin]
   exact ho
theorem drop1 (x:Tx) (q:Addr) (v:Int) (w:World) (hq:At w (some q) [.int .i64 v]):Calls Tryz.prog 209 (List.toArray [x.val,.pointer (some q)]) w fun e w'=>e=.returned (.bool (x.n==v))∧Below w.heap.size w w':=by
 refine calls_of_exec env_ok Tryz.func209 rfl [] (by kernel_rfl) [rowF (some q) [.int .i64 v]] (at1 hq) ?_
 conv=>arg 5;whnf
 refine readC (.int .i64 v) rfl (List.mem_cons_self) (j:=0) rfl (by unfold Addr.add;simp) ?_
 conv=>arg 5;whnf
 exact wp_back fun β ρ w' hM=>⟨rfl,hM.below⟩
theorem At.grown {w w':World} {g:Nat} {xs:List Value} {row:Option Nat} (h:At w (some ⟨g,0,none⟩) xs) (k:w.grownBy w' row) (hne:row≠some g):At w' (some ⟨g,0,none⟩) xs:=by
 intro g' hg'
 cases hg'
 obtain ⟨o,ho,hp⟩:=h g rfl
 exact ⟨o,(k.block g (Array.getElem?_eq_some_iff.1 ho).1 (fun e=>hne e.symm)).trans ho,hp⟩
theorem drop (s b:Int) (l:List Tx) (a:Option Addr) (n c:Nat) (v:Int) (w:World) (hs:Sl a n c) (hn:n=l.length) (hrow:At w (pt a n) (cellsL l)) (hl:l.length≤1000000) :
  Calls Tryz.prog 172 (List.toArray [acc s b a n c,.int .i64 v]) w fun e w'=>∃i:One,Sl i.1 (dropV v l).length i.2∧Gives w w' e (acc s b i.1 (dropV v l).length i.2) [rowF (pt i.1 (dropV v l).length) (cellsL (dropV v l))]:=by
 have hn63:=hs.le
 refine calls_of_exec env_ok Tryz.func172 rfl [] (by kernel_rfl) [rowF (pt a n) (cellsL l)] (at1 hrow) ?_
 conv=>arg 5;whnf
 refine meetM n (cellsL l) rfl (by kernel_rfl) (fun β ρ w' hM'=>clone l a n c w' hs hn (hM'.at_ (List.mem_cons_self)) hl) ?_
 conv=>arg 5;whnf
 refine ⟨by kernel_rfl,fun β ρ w' vs u hM hR hu ho=>?_⟩
 obtain ⟨y1,y2,rfl,h1,h2⟩:=Rels.two hR
 have h1:ρ[0]?=some y1:=h1
 rw [hu] at h1
 cases h1
 obtain ⟨g,hg,rfl⟩:=Rel.fn1 h2
 have hbox:=hM.box (b:=1) (l:=[.int .i64 v]) rfl hg
 have hne:u.ownBlock≠some g:=fun e=>(hM.rb u (List.mem_of_getElem? hu) g e).1 (List.mem_of_getElem? hg)
 refine (deleteFunc l u n _ [.pointer (some ⟨g,0,none⟩)] (fun x=>x.n==v) w' hn ho hl (by kernel_rfl) (fun x w2 hgr=>drop1 x _ v w2 (At.grown hbox hgr hne))).mono ?_
 rintro e w2 ⟨u2,rfl,hgr,ho2,hw2⟩
 refine ⟨true,u2,[],(dropV v l).length,cellsL (dropV v l),rfl,hgr,ho2,fun _=>.inr ⟨rfl,hw2⟩,(fun φ hφ=>by cases hφ),?_⟩
 conv=>arg 5;whnf
 refine wp_share fun a1 c1 hs1 hf1=>?_
 conv=>arg 5;whnf
 refine wp_back fun β ρ w' hM'=>⟨(a1,c1),hs1,rfl,hM'.below,?_⟩
 intro φ hφ
 simp only [List.mem_cons,List.not_mem_nil,or_false] at hφ
 subst hφ
 exact giveF _ hM' List.mem_cons_self hf1
end Go.Proofs.YtdbjakibneeeiaaGreatDoor.queue
namespace Go.Proofs.YtdbjakibneeeiaaGreatDoor.queue
open Go.RowKit Sx txn
theorem slice_from (a:Option Addr) (n c j:Nat) (w:World) (h:j≤n) (hc:n≤c):(do pure (Next.value (← Instr.sliceAt 27 (.slice a n c) (some (.int .i64 j)) none none)):Sem Next).run Tryz.prog w=.ok (.value (.slice (if c=j then a else a.map fun x=>x.add (j*6)) (n - j) (c - j))) w:=by
 have h2:(j:Int)≤n:=by omega
 have h3:(n:Int)≤c:=by omega
 by_cases h4:c=j
 ·have h5:(c:Int)=j:=by omega
  simp [Instr.sliceAt,Instr.slice,run_underlying Tryz.underlying27,Sem.run_bind,go_sem,h2,h3,h4,h5]
 ·simp [Instr.sliceAt,Instr.slice,run_underlying Tryz.underlying27,Sem.run_bind,go_sem,h2,h3,h4]
theorem cellsL_drops (l:List Tx) (j:Nat):cellsL (l.drop j)=(cellsL l).drop (j*6):=by
 induction l generalizing j with
 | nil=>simp [cellsL]
 | cons x l ih=>
  cases j with
  | zero=>simp [cellsL]
  | succ j=>
   have:=ih j
   simp only [cellsL] at this
   simp only [cellsL,List.drop_succ_cons,List.flatMap_cons]
   rw [this,show (j+1)*6=(cellsX x).length+j*6 from by simp [cellsX];omega,List.drop_length_add_append]
theorem at_end {w:World} {a:Option Addr} {n c:Nat} {l:List Tx} (h:At w (pt a n) (cellsL l)) (j:Nat) (hj:j≤n) (hc:n≤c):At w (pt (if c=j then a else a.map fun x=>x.add (j*6)) (n - j)) (cellsL (l.drop j)):=by
 by_cases h0:n - j=0
 ·rw [show pt _ (n - j)=none from if_pos h0]
  intro g hg
  cases hg
 ·rw [show pt a n=a from if_neg (by omega)] at h
  rw [show pt _ (n - j)=_ from if_neg h0,if_neg (by omega),cellsL_drops]
  exact at_drop h _
theorem own_row {w:World} {base:Nat} {e:TypeId} {size:Nat} {v:Value} {n:Nat} {xs:List Value} (h:w.ownsRow base e size v n xs):∃a c,v=.slice a n c∧Sl a n c∧(∀ad,a=some ad→base≤ad.block)∧At w (pt a n) xs:=by
 obtain ⟨hl,⟨rfl,rfl⟩ | ⟨g,cap,cur,rfl,hb,hg,hn,hc,hsz,hx⟩⟩:=h
 ·exact ⟨none,0,rfl,⟨Nat.le_refl _,Nat.zero_le _,fun _=>⟨rfl,rfl⟩⟩,fun ad h=>(by cases h),fun g hg=>(by cases hg)⟩
 ·refine ⟨_,cap,rfl,⟨hn,hc,fun h=>(by cases h)⟩,fun ad h=>(by cases h;exact hb),?_⟩
  by_cases h0:n=0
  ·rw [show pt _ n=none from if_pos h0]
   intro g hg
   cases hg
  ·rw [show pt _ n=_ from if_neg h0]
   intro g' hg'
   cases hg'
   refine ⟨_,hg,fun ad had=>?_⟩
   cases had
   refine ⟨rfl,cur,e,_,rfl,fun j u hu=>?_⟩
   have hj:j<n*size:=by
    have:=(List.getElem?_eq_some_iff.1 hu).1
    omega
   rw [← hx,List.getElem?_take,if_pos hj,Array.getElem?_toList] at hu
   simpa using hu
theorem meetF {P:Program} {W:World} {Q:Ending→World→Prop} {ds:List Deferred} {f:FuncId} {args:List T} {e:TypeId} {size:Nat} {m:M} {k:Value→List Fact→Tree} {l:List Value} (n:Nat) (ys:List Value) (hv:valsOf args=some l) (hc:callable P f=true)
  (hC:∀β ρ w,Mem W none m β ρ w→Calls P f (List.toArray l) w fun e' w'=>∃v,e'=.returned v∧Below w.heap.size w w'∧w'.ownsRow w.heap.size e size v n ys)
  (h:∀a c,Sl a n c→Fresh W none a→(k (.slice a n c) [rowF (pt a n) ys]).wpD P W none Q ds):(Tree.call f args m k).wpD P W none Q ds:=
 ⟨hc,fun β ρ w vs hm hr=>by
  rw [valsOf_spec _ _ _ hv hr]
  refine (hC β ρ w hm).mono fun e' w' ⟨v,he,hb,ho⟩=>?_
  obtain ⟨a,c,rfl,hsl,hfr,hat⟩:=own_row ho
  have hWw:=hm.below.size
  refine ⟨_,[rowF (pt a n) ys],he,hb,?_,h a c hsl fun ad had=>.inl (Nat.le_trans hWw (hfr ad had))⟩
  intro φ hφ g hg
  simp only [List.mem_singleton] at hφ
  subst hφ
  refine ⟨.inr (.inl ?_),hat g hg⟩
  by_cases h0:n=0
  ·rw [show pt a n=none from if_pos h0] at hg
   cases hg
  ·rw [show pt a n=a from if_neg h0] at hg
   cases a with
   | none=>cases hg
   | some ad=>cases hg;exact hfr ad rfl⟩
theorem suffix {a:Option Addr} {n c:Nat} (hs:Sl a n c) (j:Nat) (hj:j≤n):Sl (if c=j then a else a.map fun x=>x.add (j*6)) (n - j) (c - j):=by
 have h1:=hs.1
 have h2:=hs.2.1
 refine ⟨by omega,by omega,fun ha=>?_⟩
 have h0:n=0∧c=0:=by
  apply hs.2.2
  split at ha
  ·exact ha
  ·cases a with
   | none=>rfl
   | some x=>cases ha
 omega
theorem giveP {W:World} {m:M} {β ρ} {w':World} {a:Option Addr} {xs:List Value} (n:Nat) (hM:Mem W none m β ρ w') (hm:rowF (pt a n) xs∈m.facts) (hf:Fresh W none a) :
  ∀g,(rowF (pt a n) xs).g=some g→W.heap.size≤g∧∃o,w'.heap[g]?=some o∧(rowF (pt a n) xs).holds o:=fun g hg=>by
 refine ⟨?_,hM.at_ hm g hg⟩
 by_cases h:n=0
 ·rw [show pt a n=none from if_pos h] at hg
  cases hg
 ·rw [show pt a n=a from if_neg h] at hg
  cases a with
  | none=>cases hg
  | some ad=>
   cases hg
   rcases hf ad rfl with h1 | h1
   ·exact h1
   ·cases h1
theorem srch_shift (p:Int→Bool):∀(l:List Tx) (k:Nat),srch (fun _ m=>p m) l k=k+srch (fun _ m=>p m) l 0
 | [],k=>rfl
 | x::l,k=>by
  show (bif p x.n then k else srch _ l (k+1))=k+(bif p x.n then 0 else srch _ l (0+1))
  cases p x.n with
  | true=>rfl
  | false=>
   simp only [cond_false]
   rw [srch_shift p l (k+1),srch_shift p l (0+1)]
   omega
theorem srch_cons (p:Int→Bool) (x:Tx) (l:List Tx):srch (fun _ m=>p m) (x::l) 0=bif p x.n then 0 else srch (fun _ m=>p m) l 0+1:=by
 show (bif p x.n then 0 else srch _ l (0+1))=_
 rw [srch_shift p l (0+1),Nat.add_comm]
theorem putGo_true (is:Bool) (t:Tx):∀l:List Tx,putGo is t l true=l
 | []=>rfl
 | x::l=>by simp [putGo,putGo_true is t l]
theorem putGo_in (t:Tx):∀l:List Tx,srch (fun _ m=>m==t.n) l 0<l.length→putGo true t l false=l.take (srch (fun _ m=>m==t.n) l 0)++[t]++l.drop (srch (fun _ m=>m==t.n) l 0+1)
 | [],h=>by simp at h
 | x::l,h=>by
  rw [srch_cons (fun m=>m==t.n)] at h ⊢
  cases e:x.n==t.n with
  | true=>simp [putGo,e,putGo_true]
  | false=>
   rw [e] at h
   simp only [cond_false,List.length_cons] at h
   have:=putGo_in t l (by omega)
   simp [putGo,e,this]
theorem putGo_out (t:Tx):∀l:List Tx,srch (fun _ m=>m==t.n) l 0=l.length→putGo false t l false=l.take (srch (fun _ m=>decide (m>t.n)) l 0)++[t]++l.drop (srch (fun _ m=>decide (m>t.n)) l 0)
 | [],h=>by simp [putGo,srch]
 | x::l,h=>by
  rw [srch_cons (fun m=>m==t.n)] at h
  rw [srch_cons (fun m=>decide (m>t.n))]
  cases e:x.n==t.n with
  | true=>rw [e] at h;simp at h
  | false=>
   rw [e] at h
   simp only [cond_false,List.length_cons] at h
   have:=putGo_out t l (by omega)
   cases e2:decide (x.n>t.n) with
   | true=>simp [putGo,e,e2,putGo_true]
   | false=>simp [putGo,e,e2,this]
theorem putV_in {t:Tx} {l:List Tx} (h:srch (fun _ m=>m==t.n) l 0<l.length):putV t l=l.take (srch (fun _ m=>m==t.n) l 0)++[t]++l.drop (srch (fun _ m=>m==t.n) l 0+1):=by
 unfold putV findV
 rw [List.getElem?_eq_getElem h]
 exact putGo_in t l h
theorem putV_out {t:Tx} {l:List Tx} (h:srch (fun _ m=>m==t.n) l 0=l.length):putV t l=l.take (srch (fun _ m=>decide (m>t.n)) l 0)++[t]++l.drop (srch (fun _ m=>decide (m>t.n)) l 0):=by
 unfold putV findV
 rw [List.getElem?_eq_none (by omega)]
 exact putGo_out t l h
theorem put (s b:Int) (l:List Tx) (a:Option Addr) (n c:Nat) (t:Tx) (w:World) (hs:Sl a n c) (hn:n=l.length) (hrow:At w (pt a n) (cellsL l)) (hl:l.length≤100000) :
  Calls Tryz.prog 141 (List.toArray [acc s b a n c,t.val]) w fun e w'=>∃i:One,Sl i.1 (putV t l).length i.2∧Gives w w' e (acc s b i.1 (putV t l).length i.2) [rowF (pt i.1 (putV t l).length) (cellsL (putV t l))]:=by
 have hle:=srch_le (fun _ m=>m==t.n) l 0
 have hle2:=srch_le (fun _ m=>decide (m>t.n)) l 0
 have hin:=putV_in (t:=t) (l:=l)
 have hout:=putV_out (t:=t) (l:=l)
 have hnc:=hs.1
 have hn63:=hs.le
 have H1:=fun w' hr=>placeOf l a n c t.n w' hs hn hr
 have H2:=fun w' hr=>placeAbove l a n c t.n w' hs hn hr
 generalize srch (fun _ m=>m==t.n) l 0=p at *
 generalize srch (fun _ m=>decide (m>t.n)) l 0=q at *
 refine calls_of_exec env_ok Tryz.func141 rfl [(6,(lineB [0,1,2,3,4,6,7,8,9,5,10,11,12] 13,[]))] (by kernel_rfl) [rowF (pt a n) (cellsL l)] (at1 hrow) ?_
 conv=>arg 5;whnf
 refine meetc rfl (by kernel_rfl) (fun β ρ w' hM'=>H1 w' (hM'.at_ List.mem_cons_self)) ?_
 conv=>arg 5;whnf
 refine wp_must ⟨by omega,by omega⟩ ?_
 conv=>arg 5;whnf
 refine wp_br (fun h1=>?_) (fun h1=>?_)
 ·have hpn:p=l.length:=by simp at h1;omega
  have hpv:=hout hpn
  clear hin hout h1
  conv=>arg 5;whnf
  refine meetc rfl (by kernel_rfl) (fun β ρ w' hM'=>H2 w' (hM'.at_ List.mem_cons_self)) ?_
  conv=>arg 5;whnf
  refine wp_prim (.slice a q c) (fun w=>slice_to a n c q w (by omega)) ?_
  conv=>arg 5;whnf
  refine wp_prim (.slice (if c=q then a else a.map fun x=>x.add (q*6)) (n - (q)) (c - (q))) (fun w=>slice_from a n c (q) w (by omega) (by omega)) ?_
  conv=>arg 5;whnf
  refine wp_share fun A1 C1 hS1 hF1=>?_
  conv=>arg 5;whnf
  refine wp_share fun A2 C2 hS2 hF2=>?_
  conv=>arg 5;whnf
  refine meetF (e:=26) (size:=6) (putV t l).length (cellsL (putV t l)) rfl (by kernel_rfl) (fun β ρ w' hM'=>?_) (fun a1 c1 hs1 hf1=>?_)
  ·have hr0:=hM'.at_ (a:=pt a n) (xs:=cellsL l) (List.mem_cons_of_mem _ (List.mem_cons_of_mem _ List.mem_cons_self))
   have h1:=concat [⟨a,q,c,l.take (q)⟩,⟨A1,1,C1,[t]⟩,⟨if c=q then a else a.map fun x=>x.add ((q)*6),n - (q),c - (q),l.drop (q)⟩] A2 3 C2 w' hS2 rfl (hM'.at_ (List.mem_cons_self)) (by
    intro x hx
    simp only [List.mem_cons,List.not_mem_nil,or_false] at hx
    rcases hx with rfl | rfl | rfl
    ·exact ⟨⟨by show q≤c;omega,hs.2.1,fun ha=>⟨by have:=(hs.2.2 ha).1;show q=0;omega,(hs.2.2 ha).2⟩⟩,by show q=(l.take (q)).length;rw [List.length_take];omega,at_begin hr0 (q) (by omega)⟩
    ·exact ⟨hS1,rfl,hM'.at_ (List.mem_cons_of_mem _ List.mem_cons_self)⟩
    ·exact ⟨suffix hs (q) (by omega),by show n - (q)=(l.drop (q)).length;rw [List.length_drop];omega,at_end hr0 (q) (by omega) (by omega)⟩) (by simp [flat];omega)
   rw [show flat _=putV t l from by rw [hpv];simp [flat]] at h1
   exact h1
  conv=>arg 5;whnf
  refine wp_back fun β ρ w' hM'=>⟨(a1,c1),hs1,rfl,hM'.below,?_⟩
  intro φ hφ
  simp only [List.mem_cons,List.not_mem_nil,or_false] at hφ
  subst hφ
  exact giveP _ hM' List.mem_cons_self hf1
 ·have hpn:p<l.length:=by simp at h1;omega
  have hpv:=hin hpn
  clear hin hout h1
  have hp1:(p:Int)+1=((p+1:Nat):Int):=by omega
  rw [hp1]
  conv=>arg 5;whnf
  refine wp_prim (.slice a p c) (fun w=>slice_to a n c p w (by omega)) ?_
  conv=>arg 5;whnf
  refine wp_prim (.slice (if c=(p+1) then a else a.map fun x=>x.add ((p+1)*6)) (n - ((p+1))) (c - ((p+1)))) (fun w=>slice_from a n c ((p+1)) w (by omega) (by omega)) ?_
  conv=>arg 5;whnf
  refine wp_share fun A1 C1 hS1 hF1=>?_
  conv=>arg 5;whnf
  refine wp_share fun A2 C2 hS2 hF2=>?_
  conv=>arg 5;whnf
  refine meetF (e:=26) (size:=6) (putV t l).length (cellsL (putV t l)) rfl (by kernel_rfl) (fun β ρ w' hM'=>?_) (fun a1 c1 hs1 hf1=>?_)
  ·have hr0:=hM'.at_ (a:=pt a n) (xs:=cellsL l) (List.mem_cons_of_mem _ (List.mem_cons_of_mem _ List.mem_cons_self))
   have h1:=concat [⟨a,p,c,l.take (p)⟩,⟨A1,1,C1,[t]⟩,⟨if c=(p+1) then a else a.map fun x=>x.add (((p+1))*6),n - ((p+1)),c - ((p+1)),l.drop ((p+1))⟩] A2 3 C2 w' hS2 rfl (hM'.at_ (List.mem_cons_self)) (by
    intro x hx
    simp only [List.mem_cons,List.not_mem_nil,or_false] at hx
    rcases hx with rfl | rfl | rfl
    ·exact ⟨⟨by show p≤c;omega,hs.2.1,fun ha=>⟨by have:=(hs.2.2 ha).1;show p=0;omega,(hs.2.2 ha).2⟩⟩,by show p=(l.take (p)).length;rw [List.length_take];omega,at_begin hr0 (p) (by omega)⟩
    ·exact ⟨hS1,rfl,hM'.at_ (List.mem_cons_of_mem _ List.mem_cons_self)⟩
    ·exact ⟨suffix hs ((p+1)) (by omega),by show n - ((p+1))=(l.drop ((p+1))).length;rw [List.length_drop];omega,at_end hr0 ((p+1)) (by omega) (by omega)⟩) (by simp [flat];omega)
   rw [show flat _=putV t l from by rw [hpv];simp [flat]] at h1
   exact h1
  conv=>arg 5;whnf
  refine wp_back fun β ρ w' hM'=>⟨(a1,c1),hs1,rfl,hM'.below,?_⟩
  intro φ hφ
  simp only [List.mem_cons,List.not_mem_nil,or_false] at hφ
  subst hφ
  exact giveP _ hM' List.mem_cons_self hf1
end Go.Proofs.YtdbjakibneeeiaaGreatDoor.queue
