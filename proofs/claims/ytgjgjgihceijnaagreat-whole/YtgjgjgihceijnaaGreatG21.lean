import Derived.Test.YtgjgjgihceijnaaGreatG08
import Derived.Test.YtgjgjgihceijnaaGreatG20
open Classical renaming byContradiction->aL
open Int renaming toNat_natCast->aO
open Nat renaming le_refl->aR,lt_or_gt_of_ne->bK,le_of_lt->bN
open Bool renaming and_eq_true->aT
open List renaming replicate->bC,mem_cons_of_mem->bD,mem_cons_self->bM
namespace Go.Stn
theorem tJ {q:Nat->Nat->Bool}{l:List Nat}{s:Nat}:∀d,d<=l.length->aX q l s d=l.length->∀f,l.length - d<=f->f<l.length->q (l.getD f 0) s=false:=by
 intro d
 induction d with
 | zero=>intro _ _ f h1 h2;omega
 | succ k ih=>
  intro hd h f h1 h2;rw[aX]at h;by_cases hq:q (l.getD (l.length - (k+1)) 0) s=true
  ·rw[if_pos hq]at h;omega
  ·rw[if_neg hq]at h;by_cases e:f=l.length - (k+1)
   ·rw[e];simpa using hq
   ·exact ih (by omega) h f (by omega) h2
structure PJ (q:Nat->Nat->Bool)(s:Nat)(fin firsts:List Nat):Prop where
 pi:PI q s fin firsts
 le:∀x,x<s->firsts.getD (fin.getD x 0) 0<=x
 mono:∀f f',f<f'->f'<firsts.length->firsts.getD f 0<firsts.getD f' 0
 no:∀f f',f<f'->f'<firsts.length->q (firsts.getD f 0) (firsts.getD f' 0)=false
 zero:0<s->0<firsts.length/\firsts.getD 0 0=0
theorem L5 {q:Nat->Nat->Bool}:∀d s fin firsts,PJ q s fin firsts->(dL q d s fin firsts).2.length<=100->PJ q (s+d) (dL q d s fin firsts).1 (dL q d s fin firsts).2:=by
 intro d
 induction d with
 | zero=>intro s fin firsts h _;exact h
 | succ k ih=>
  intro s fin firsts h hl;have hpi:=S8 (q:=q) 1 s fin firsts h.pi;rw[dL]at hl ⊢;have hlen:=h.pi.len;by_cases hf:aX q firsts s firsts.length=firsts.length
  ·rw[if_pos hf]at hl ⊢;have hno:=tJ (q:=q) (l:=firsts) (s:=s) firsts.length (aR _) hf;by_cases h100:100<firsts.length+1
   ·rw[if_pos h100]at hl;simp at hl;omega
   ·rw[if_neg h100]at hl ⊢;rw[show s+(k+1)=s+1+k by omega];have hpi':PI q (s+1) (fin++ [firsts.length]) (firsts++ [s]):=by
     have:=hpi (by rw[dL,if_pos hf,if_neg h100,dL];simp;omega);rw[dL,if_pos hf,if_neg h100,dL]at this;exact this
    refine ih (s+1) _ _ ⟨hpi',fun x hx=> ?_,fun f f' hff hf'=> ?_,fun f f' hff hf'=> ?_,fun _=> ?_⟩ hl
    ·by_cases e:x=s
     ·subst e;rw[show(fin++ [firsts.length]).getD x 0=firsts.length by have:= @cC fin firsts.length;rw[hlen]at this;exact this,cC];exact aR _
     ·have hx':x<s:=by omega
      rw[aW (l:=fin) (by rw[hlen];exact hx'),aW (h.pi.cl x hx').1];exact h.le x hx'
    ·simp at hf';by_cases e:f'=firsts.length
     ·subst e;rw[cC,aW hff];exact(h.pi.rep f hff).1
     ·rw[aW (by omega),aW (by omega)];exact h.mono f f' hff (by omega)
    ·simp at hf';by_cases e:f'=firsts.length
     ·subst e;rw[cC,aW hff];exact hno f (by omega) hff
     ·rw[aW (by omega),aW (by omega)];exact h.no f f' hff (by omega)
    ·refine⟨by simp, ?_⟩;by_cases e:s=0
     ·subst e;have:firsts= []:=by
       cases firsts with
       | nil=>rfl
       | cons a r=>have:=(h.pi.rep 0 (by simp)).1;omega
      rw[this];rfl
     ·have:=h.zero (by omega);rw[aW this.1];exact this.2
  ·rw[if_neg hf]at hl ⊢;rw[show s+(k+1)=s+1+k by omega];have hlt:aX q firsts s firsts.length<firsts.length:=by have:=mS q firsts s firsts.length;omega
   have hpi':PI q (s+1) (fin++ [aX q firsts s firsts.length]) firsts:=by
    have:=R7 q k (s+1) (fin++ [aX q firsts s firsts.length]) firsts;have hle:firsts.length<=100:=by
     have hg:∀d s fin firsts,firsts.length<=(dL q d s fin firsts).2.length:=by
      intro d
      induction d with
      | zero=>intro s fin firsts;exact aR _
      | succ j ihj=>
       intro s fin firsts;rw[dL];split
       ·split
        ·simp
        ·have:=ihj (s+1) (fin++ [firsts.length]) (firsts++ [s]);simp at this;omega
       ·exact ihj _ _ _
     have:=hg k (s+1) (fin++ [aX q firsts s firsts.length]) firsts;omega
    have:=hpi (by rw[dL,if_neg hf,dL];exact hle);rw[dL,if_neg hf,dL]at this;exact this
   refine ih (s+1) _ _ ⟨hpi',fun x hx=> ?_,h.mono,h.no,fun _=> ?_⟩ hl
   ·by_cases e:x=s
    ·subst e;rw[show(fin++ [aX q firsts x firsts.length]).getD x 0=aX q firsts x firsts.length by have:= @cC fin (aX q firsts x firsts.length);rw[hlen]at this;exact this];exact bN (h.pi.rep _ hlt).1
    ·have hx':x<s:=by omega
     rw[aW (by rw[hlen];exact hx')];exact h.le x hx'
   ·have:0<s:=by have:=(h.pi.rep _ hlt).1;omega
    exact h.zero this
theorem Qz {n:Nat}{q:Nat->Nat->Bool}(h:(eD n q).2.length<=100):PJ q n (eD n q).1 (eD n q).2:=by
 have:=L5 (q:=q) n 0 [] [] ⟨⟨rfl,fun x hx=>by omega,fun f hf=>by simp at hf⟩,fun x hx=>by omega,fun f f' _ hf=>by simp at hf,fun f f' _ hf=>by simp at hf,fun h=>by omega⟩ h;rw[Nat.zero_add]at this;exact this
theorem PJ.part {q:Nat->Nat->Bool}{s:Nat}{fin firsts:List Nat}(h:PJ q s fin firsts)(hr:∀x,q x x=true)(hs:∀x y,q x y=true->q y x=true)(ht:∀x y z,q x y=true->q y z=true->q x z=true){x y:Nat}(hx:x<s)(hy:y<s):
  fin.getD x 0=fin.getD y 0↔q x y=true:=by
 have cx:q (firsts.getD (fin.getD x 0) 0) x=true:=by
  rcases(h.pi.cl x hx).2 with e | e
  ·rw[e];exact hr x
  ·exact e
 have cy:q (firsts.getD (fin.getD y 0) 0) y=true:=by
  rcases(h.pi.cl y hy).2 with e | e
  ·rw[e];exact hr y
  ·exact e
 constructor
 ·intro e;rw[e]at cx;exact ht _ _ _ (hs _ _ cx) cy
 ·intro e;have hxy:=ht _ _ _ (ht _ _ _ cx e) (hs _ _ cy);rcases Nat.lt_trichotomy (fin.getD x 0) (fin.getD y 0)with hl | hl | hl
  ·have:=h.no _ _ hl (h.pi.cl y hy).1;rw[hxy]at this;cases this
  ·exact hl
  ·have:=h.no _ _ hl (h.pi.cl x hx).1;rw[hs _ _ hxy]at this;cases this
def Eqv (tk:Nat->Nat)(nx:Nat->Nat->Int)(K:Nat):Nat->Nat->Nat->Prop
 | 0,_,_=>True
 | r+1,s,t=>Eqv tk nx K r s t/\tk s=tk t/\∀g,g<K->(nx s g= -1↔nx t g= -1)/\(nx s g≠ -1->Eqv tk nx K r (nx s g).toNat (nx t g).toNat)
section
variable {tk:Nat->Nat} {nx:Nat->Nat->Int} {K:Nat}
theorem Eqv.symm:∀{r s t:Nat},Eqv tk nx K r s t->Eqv tk nx K r t s
 | 0,_,_,_=>trivial
 | _+1,_,_,h=>⟨Eqv.symm h.1,h.2.1.symm,fun g hg=>⟨(h.2.2 g hg).1.symm,fun e=>Eqv.symm ((h.2.2 g hg).2 (fun e2=>e ((h.2.2 g hg).1.1 e2)))⟩⟩
theorem Eqv.trans:∀{r s t u:Nat},Eqv tk nx K r s t->Eqv tk nx K r t u->Eqv tk nx K r s u
 | 0,_,_,_,_,_=>trivial
 | _+1,_,_,_,h,k=>⟨Eqv.trans h.1 k.1,h.2.1.trans k.2.1,fun g hg=>⟨(h.2.2 g hg).1.trans (k.2.2 g hg).1,fun e=>Eqv.trans ((h.2.2 g hg).2 e) ((k.2.2 g hg).2 (fun e2=>e ((h.2.2 g hg).1.2 e2)))⟩⟩
theorem Ly {n:Nat}(hrng:∀s g,s<n->g<K->nx s g= -1\/(0<=nx s g/\nx s g<(n:Int))){parts:List Nat}{r:Nat}(hp:∀s t,s<n->t<n->(parts.getD s 0=parts.getD t 0↔Eqv tk nx K r s t)){s t:Nat}(hs:s<n)(ht:t<n):
  bP (bW parts) tk nx K s t=true↔Eqv tk nx K (r+1) s t:=by
 have hprt:∀g,g<K->(jF (bW parts) (nx s g)=jF (bW parts) (nx t g)↔((nx s g= -1↔nx t g= -1)/\(nx s g≠ -1->Eqv tk nx K r (nx s g).toNat (nx t g).toNat))):=fun g hg=>by
  unfold jF bW;by_cases e1:nx s g= -1<;> by_cases e2:nx t g= -1
  ·rw[if_pos e1,if_pos e2];simp[e1,e2]
  ·rw[if_pos e1,if_neg e2];simp only[e1,e2];constructor
   ·intro h;omega
   ·intro h;exact absurd (h.1.1 trivial) id
  ·rw[if_neg e1,if_pos e2];simp only[e1,e2];constructor
   ·intro h;omega
   ·intro h;exact absurd (h.1.2 trivial) id
  ·rw[if_neg e1,if_neg e2];have r1:=hrng s g hs hg;have r2:=hrng t g ht hg;have:=hp (nx s g).toNat (nx t g).toNat (by omega) (by omega);constructor
   ·intro h;exact⟨by simp[e1,e2],fun _=>this.1 (by omega)⟩
   ·intro h;have:=this.2 (h.2 e1);omega
 unfold bP K9;simp only[aT,decide_eq_true_eq];rw[show bW parts s=((parts.getD s 0:Nat):Int) from rfl,show bW parts t=((parts.getD t 0:Nat):Int) from rfl];constructor
 ·rintro⟨h1,h2,h3⟩;exact⟨(hp s t hs ht).1 (by omega),h2,fun g hg=>(hprt g hg).1 (h3 g hg)⟩
 ·rintro⟨h1,h2,h3⟩;exact⟨by have:=(hp s t hs ht).2 h1;omega,h2,fun g hg=>(hprt g hg).2 (h3 g hg)⟩
end
theorem Rt (k:Nat)(g:Nat->Nat)(hon:∀y,y<k->∃x,x<k/\g x=y)(_hg:∀x,x<k->g x<k):∀i j,i<k->j<k->g i=g j->i=j:=by
 intro i j hi hj he;by_cases e:i=j
 ·exact e
 ·exfalso;have hsec:∃h:Nat->Nat,∀y,y<k->h y<k/\g (h y)=y:=⟨fun y=>if hy:y<k then Classical.choose (hon y hy)else 0,fun y hy=>by simp only[dif_pos hy];exact Classical.choose_spec (hon y hy)⟩
  obtain⟨h,hh⟩:=hsec;obtain⟨y0,hy0,hmiss⟩:∃y0,y0<k/\∀y,y<k->h y≠y0:=by
   by_cases e1:h (g i)=i
   ·refine⟨j,hj,fun y hy e2=> ?_⟩;have e3:y=g i:=by rw[←(hh y hy).2,e2,he]
    rw[e3,e1]at e2;exact e e2
   ·refine⟨i,hi,fun y hy e2=> ?_⟩;have e3:y=g i:=by rw[←(hh y hy).2,e2]
    rw[e3]at e2;exact e1 e2
  have:=Ib (k - 1) k (fun y=>if h y<y0 then h y else h y - 1) (fun y hy=>by
   have h1:=(hh y hy).1;have h2:=hmiss y hy;by_cases c:h y<y0
   ·simp only[if_pos c];omega
   ·simp only[if_neg c];omega) (fun a b ha hb hab=>by
   have a1:=hmiss a ha;have b1:=hmiss b hb;have hab':h a=h b:=by
    by_cases c1:h a<y0<;> by_cases c2:h b<y0
    ·simp only[if_pos c1,if_pos c2]at hab;exact hab
    ·simp only[if_pos c1,if_neg c2]at hab;omega
    ·simp only[if_neg c1,if_pos c2]at hab;omega
    ·simp only[if_neg c1,if_neg c2]at hab;omega
   rw[←(hh a ha).2,←(hh b hb).2,hab'])
  omega
structure dK (n:Nat)(tk:Nat->Nat)(nx:Nat->Nat->Int)(K:Nat)(fin firsts:List Nat)(r:Nat):Prop where
 pj:∃q,PJ q n fin firsts
 few:firsts.length<=100
 rd:r<=firsts.length
 cls:∀s t,s<n->t<n->(fin.getD s 0=fin.getD t 0↔Eqv tk nx K r s t)
 stb:∀s t,s<n->t<n->Eqv tk nx K r s t->Eqv tk nx K (r+1) s t
def Vj (n:Nat)(tk:Nat->Nat)(nx:Nat->Nat->Int)(K:Nat):Prop:=∃(f:Nat->Nat) (r:Nat),(∀i,i<101->f i<n)/\∀i j,i<101->j<101->i≠j->¬Eqv tk nx K r (f i) (f j)
theorem Bt (pt:Nat->Int)(tk:Nat->Nat)(nx:Nat->Nat->Int)(K x:Nat):bP pt tk nx K x x=true:=by
 unfold bP K9;simp
theorem Dh {pt:Nat->Int}{tk:Nat->Nat}{nx:Nat->Nat->Int}{K x y:Nat}(h:bP pt tk nx K x y=true):bP pt tk nx K y x=true:=by
 unfold bP K9 at*;simp only[aT,decide_eq_true_eq]at*;exact⟨h.1.symm,h.2.1.symm,fun g hg=>(h.2.2 g hg).symm⟩
theorem Z5 {pt:Nat->Int}{tk:Nat->Nat}{nx:Nat->Nat->Int}{K x y z:Nat}(h:bP pt tk nx K x y=true)(k:bP pt tk nx K y z=true):bP pt tk nx K x z=true:=by
 unfold bP K9 at*;simp only[aT,decide_eq_true_eq]at*;exact⟨h.1.trans k.1,h.2.1.trans k.2.1,fun g hg=>(h.2.2 g hg).trans (k.2.2 g hg)⟩
theorem El {q:Nat->Nat->Bool}:∀d s fin firsts,PJ q s fin firsts->firsts.length<=100->100<(dL q d s fin firsts).2.length->
  ∃f:Nat->Nat,(∀i,i<101->f i<s+d)/\∀i j,i<j->j<101->q (f i) (f j)=false:=by
 intro d
 induction d with
 | zero=>intro s fin firsts _ h1 h2;rw[dL]at h2;simp only at h2;omega
 | succ k ih=>
  intro s fin firsts h hle hl;by_cases hf:aX q firsts s firsts.length=firsts.length
  ·have hno:=tJ (q:=q) (l:=firsts) (s:=s) firsts.length (aR _) hf;by_cases h100:100<firsts.length+1
   ·have e:firsts.length=100:=by omega
    refine⟨fun i=>if i<100 then firsts.getD i 0 else s,fun i hi=> ?_,fun i j hij hj=> ?_⟩
    ·simp only;split
     ·have:=(h.pi.rep i (by omega)).1;omega
     ·omega
    ·simp only[if_pos (show i<100 by omega)];split
     ·exact h.no i j hij (by omega)
     ·exact hno i (by omega) (by omega)
   ·have hj:=L5 1 s fin firsts h (by rw[dL,if_pos hf,if_neg h100,dL];simp;omega);rw[dL,if_pos hf,if_neg h100,dL]at hj;rw[dL,if_pos hf,if_neg h100]at hl;obtain⟨f,h1,h2⟩:=ih (s+1) _ _ hj (by simp;omega) hl;exact⟨f,fun i hi=>by have:=h1 i hi;omega,h2⟩
  ·have hj:=L5 1 s fin firsts h (by rw[dL,if_neg hf,dL];exact hle);rw[dL,if_neg hf,dL]at hj;rw[dL,if_neg hf]at hl;obtain⟨f,h1,h2⟩:=ih (s+1) _ _ hj hle hl;exact⟨f,fun i hi=>by have:=h1 i hi;omega,h2⟩
theorem Gg {n:Nat}{tk:Nat->Nat}{nx:Nat->Nat->Int}{K:Nat}(hn:0<n)(hrng:∀s g,s<n->g<K->nx s g= -1\/(0<=nx s g/\nx s g<(n:Int))):∀(f:Nat) (parts:List Nat) (count r:Nat),
  (∀s t,s<n->t<n->(parts.getD s 0=parts.getD t 0↔Eqv tk nx K r s t))->r<=count->count<=100->101<=f+count->(count=0->r=0)->(0<count->D0 n parts count/\∀s,s<n->parts.getD s 0<count)->
  (∀x,mJ n tk nx K f parts count=some x->∃r',dK n tk nx K x.1 x.2 r')/\(mJ n tk nx K f parts count=none->Vj n tk nx K):=by
 intro f
 induction f with
 | zero=>intro parts count r _ _ h1 h2;omega
 | succ k ih=>
  intro parts count r hp hr hc hf h0 hok;rw[mJ];have hq:∀s t,s<n->t<n->(bP (bW parts) tk nx K s t=true↔Eqv tk nx K (r+1) s t):=fun s t hs ht=>Ly hrng hp hs ht
  by_cases h100:100<(eD n (bP (bW parts) tk nx K)).2.length
  ·rw[if_pos h100];refine⟨fun x hx=>(by cases hx),fun _=> ?_⟩;obtain⟨g,g1,g2⟩:=El (q:=bP (bW parts) tk nx K) n 0 [] [] ⟨⟨rfl,fun x hx=>by omega,fun f hf=>by simp at hf⟩,fun x hx=>by omega,fun f f' _ hf=>by simp at hf,fun f f' _ hf=>by simp at hf,fun h=>by omega⟩ (by simp) h100;refine⟨g,r+1,fun i hi=>by have:=g1 i hi;omega,fun i j hi hj hij he=> ?_⟩;have gi:g i<n:=by have:=g1 i hi;omega
   have gj:g j<n:=by have:=g1 j hj;omega
   rcases bK hij with hlt | hlt
   ·have:=g2 i j hlt hj;rw[(hq _ _ gi gj).2 he]at this;cases this
   ·have:=g2 j i hlt hi;rw[(hq _ _ gj gi).2 he.symm]at this;cases this
  ·rw[if_neg h100];have hpj:=Qz (n:=n) (q:=bP (bW parts) tk nx K) (by omega);have hpart:∀s t,s<n->t<n->((eD n (bP (bW parts) tk nx K)).1.getD s 0=(eD n (bP (bW parts) tk nx K)).1.getD t 0↔Eqv tk nx K (r+1) s t):=fun s t hs ht=>
    (hpj.part (Bt _ _ _ _) (fun _ _ h=>Dh h) (fun _ _ _ h k=>Z5 h k) hs ht).trans (hq s t hs ht)
   have hpos:0<(eD n (bP (bW parts) tk nx K)).2.length:=(hpj.zero hn).1;have hcl:=fun s (hs:s<n)=>(hpj.pi.cl s hs).1
   generalize hP:eD n (bP (bW parts) tk nx K)=P at*;by_cases he:P.2.length=count
   ·rw[if_pos he];refine⟨fun x hx=> ?_,fun h=>(by cases h)⟩;injection hx with hx;subst hx;obtain⟨ho,hlt⟩:=hok (by omega);have hfirst:∀s,s<n->parts.getD (P.2.getD (P.1.getD s 0) 0) 0=parts.getD s 0:=fun s hs=>by
     rcases(hpj.pi.cl s hs).2 with e | e
     ·rw[e]
     ·have:=tM e;exact this
    have hinj:=Rt count (fun f=>parts.getD (P.2.getD f 0) 0) (fun y hy=>by
      obtain⟨s,hs,e⟩:=ho.2 y hy;refine⟨P.1.getD s 0,by rw[←he];exact hcl s hs, ?_⟩;rw[hfirst s hs,e]) (fun f hf=>hlt _ (hpj.pi.rep f (by omega)).1)
    have hstb:∀s t,s<n->t<n->Eqv tk nx K r s t->Eqv tk nx K (r+1) s t:=fun s t hs ht hE=>by
     refine(hpart s t hs ht).1 (hinj _ _ (by rw[←he];exact hcl s hs) (by rw[←he];exact hcl t ht) ?_);rw[hfirst s hs,hfirst t ht];exact(hp s t hs ht).2 hE
    exact⟨r,⟨_,hpj⟩,by omega,by omega,fun s t hs ht=>⟨fun h=>((hpart s t hs ht).1 h).1,fun h=>(hpart s t hs ht).2 (hstb s t hs ht h)⟩,hstb⟩
   ·rw[if_neg he];have hgrow:count<=P.2.length:=by
     by_cases c0:count=0
     ·omega
     ·have:=H6 (hok (by omega)).1 (fun s t h=>tM (tk:=tk) (nx:=nx) (K:=K) h) (by rw[hP];omega);rw[hP]at this;exact this
    refine ih P.1 P.2.length (r+1) hpart (by omega) (by omega) (by omega) (fun h=>by omega) (fun _=>⟨?_,hcl⟩);have:=xZ (n:=n) (q:=bP (bW parts) tk nx K) (by rw[hP];omega);rw[hP]at this;exact this
theorem An {n:Nat}{tk:Nat->Nat}{nx:Nat->Nat->Int}{K:Nat}(hn:0<n)(hrng:∀s g,s<n->g<K->nx s g= -1\/(0<=nx s g/\nx s g<(n:Int))):
  (∀x,mJ n tk nx K 102 (bC n 0) 0=some x->∃r',dK n tk nx K x.1 x.2 r')/\(mJ n tk nx K 102 (bC n 0) 0=none->Vj n tk nx K):=
 Gg hn hrng 102 (bC n 0) 0 0 (fun s t hs ht=>by simp[Eqv,List.getD_eq_getElem?_getD,hs,ht]) (aR _) (by omega) (by omega) (fun _=>rfl) (fun h=>by omega)
end Go.Stn
namespace Go.Stn
section
variable {n K r:Nat} {tk:Nat->Nat} {nx:Nat->Nat->Int} {fin firsts:List Nat}
def qmk (tk:Nat->Nat)(firsts:List Nat):Nat->Nat:=fun p=>tk (firsts.getD p 0)
def qtr (nx:Nat->Nat->Int)(fin firsts:List Nat):Nat->Nat->Int:=fun p g=>jF (bW fin) (nx (firsts.getD p 0) g)
theorem dK.more (h:dK n tk nx K fin firsts r)(ha:iX n K nx):∀k s t,s<n->t<n->Eqv tk nx K r s t->Eqv tk nx K k s t:=by
 intro k
 induction k with
 | zero=>intro s t _ _ _;trivial
 | succ j ih=>
  intro s t hs ht hE;have h1:=h.stb s t hs ht hE;refine⟨ih s t hs ht hE,h1.2.1,fun g hg=>⟨(h1.2.2 g hg).1,fun e=> ?_⟩⟩;have r1:=ha.rng s g hs hg;have e2:nx t g≠ -1:=fun e2=>e ((h1.2.2 g hg).1.2 e2)
  have r2:=ha.rng t g ht hg;exact ih _ _ (by omega) (by omega) ((h1.2.2 g hg).2 e)
theorem dK.bisim (h:dK n tk nx K fin firsts r)(ha:iX n K nx){s t:Nat}(hs:s<n)(ht:t<n)(he:fin.getD s 0=fin.getD t 0):
  tk s=tk t/\∀g,g<K->(nx s g= -1↔nx t g= -1)/\(nx s g≠ -1->fin.getD (nx s g).toNat 0=fin.getD (nx t g).toNat 0):=by
 have hE:=h.stb s t hs ht ((h.cls s t hs ht).1 he);refine⟨hE.2.1,fun g hg=>⟨(hE.2.2 g hg).1,fun e=> ?_⟩⟩;have r1:=ha.rng s g hs hg;have e2:nx t g≠ -1:=fun e2=>e ((hE.2.2 g hg).1.2 e2)
 have r2:=ha.rng t g ht hg;exact(h.cls _ _ (by omega) (by omega)).2 ((hE.2.2 g hg).2 e)
theorem dK.obs (h:dK n tk nx K fin firsts r)(ha:iX n K nx):∀(z:List Nat) (s t:Nat),s<n->t<n->eE K z->fin.getD s 0=fin.getD t 0->cI tk nx s z=cI tk nx t z
 | [],s,t,hs,ht,_,he=>(h.bisim ha hs ht he).1
 | b::z,s,t,hs,ht,hl,he=>by
  have hb:=hl b bM;obtain⟨h1,h2⟩:=(h.bisim ha hs ht he).2 b hb;by_cases e:nx s b= -1
  ·rw[fB e,fB (h1.1 e)]
  ·have e2:nx t b≠ -1:=fun e2=>e (h1.2 e2)
   have r1:=ha.rng s b hs hb;have r2:=ha.rng t b ht hb;rw[bQ e,bQ e2];exact dK.obs h ha z _ _ (by omega) (by omega) (fun c hc=>hl c (bD _ hc)) (h2 e)
theorem E4 (ha:iX n K nx)(hl:K8 n K tk nx):∀k s t,s<n->t<n->¬Eqv tk nx K k s t->∃z,eE K z/\cI tk nx s z≠cI tk nx t z:=by
 intro k
 induction k with
 | zero=>intro s t _ _ h;exact absurd trivial h
 | succ j ih=>
  intro s t hs ht h;by_cases h1:Eqv tk nx K j s t
  ·by_cases h2:tk s=tk t
   ·have h3:∃g,g<K/\¬((nx s g= -1↔nx t g= -1)/\(nx s g≠ -1->Eqv tk nx K j (nx s g).toNat (nx t g).toNat)):=by
     apply aL;intro hc;exact h ⟨h1,h2,fun g hg=>aL fun hg2=>hc ⟨g,hg,hg2⟩⟩
    obtain⟨g,hg,h4⟩:=h3;have r1:=ha.rng s g hs hg;have r2:=ha.rng t g ht hg;by_cases e1:nx s g= -1<;> by_cases e2:nx t g= -1
    ·exact absurd ⟨by simp[e1,e2],fun e=>absurd e1 e⟩ h4
    ·obtain⟨z,hz,hne⟩:=hl t g ht hg e2;exact⟨g::z,jL hg hz,by rw[fB e1,bQ e2];exact fun e=>hne e.symm⟩
    ·obtain⟨z,hz,hne⟩:=hl s g hs hg e1;exact⟨g::z,jL hg hz,by rw[bQ e1,fB e2];exact hne⟩
    ·have h5:¬Eqv tk nx K j (nx s g).toNat (nx t g).toNat:=fun hE=>h4 ⟨by simp[e1,e2],fun _=>hE⟩
     obtain⟨z,hz,hne⟩:=ih _ _ (by omega) (by omega) h5;exact⟨g::z,jL hg hz,by rw[bQ e1,bQ e2];exact hne⟩
   ·exact⟨[],pN K,h2⟩
  ·exact ih s t hs ht h1
theorem dK.first_lt (h:dK n tk nx K fin firsts r){p:Nat}(hp:p<firsts.length):firsts.getD p 0<n/\fin.getD (firsts.getD p 0) 0=p:=by
 obtain⟨q,hq⟩:=h.pj;exact hq.pi.rep p hp
theorem dK.fin_lt (h:dK n tk nx K fin firsts r){s:Nat}(hs:s<n):fin.getD s 0<firsts.length:=by
 obtain⟨q,hq⟩:=h.pj;exact(hq.pi.cl s hs).1
theorem dK.first_le (h:dK n tk nx K fin firsts r){s:Nat}(hs:s<n):firsts.getD (fin.getD s 0) 0<=s:=by
 obtain⟨q,hq⟩:=h.pj;exact hq.le s hs
theorem dK.mono (h:dK n tk nx K fin firsts r){p q:Nat}(hpq:p<q)(hq:q<firsts.length):firsts.getD p 0<firsts.getD q 0:=by
 obtain⟨q',hq'⟩:=h.pj;exact hq'.mono p q hpq hq
theorem dK.mono_le (h:dK n tk nx K fin firsts r){p q:Nat}(hpq:p<=q)(hq:q<firsts.length):firsts.getD p 0<=firsts.getD q 0:=by
 by_cases e:p=q
 ·rw[e];exact aR _
 ·exact bN (h.mono (by omega) hq)
theorem dK.zero (h:dK n tk nx K fin firsts r)(hn:0<n):0<firsts.length/\firsts.getD 0 0=0:=by
 obtain⟨q,hq⟩:=h.pj;exact hq.zero hn
theorem mB {p g:Nat}(h:nx (firsts.getD p 0) g= -1):qtr nx fin firsts p g= -1:=by unfold qtr jF;rw[if_pos h]
theorem mA {p g:Nat}(h:nx (firsts.getD p 0) g≠ -1):qtr nx fin firsts p g=((fin.getD (nx (firsts.getD p 0) g).toNat 0:Nat):Int):=by unfold qtr jF bW;rw[if_neg h]
theorem dK.qobs (h:dK n tk nx K fin firsts r)(ha:iX n K nx):∀(z:List Nat) (p:Nat),p<firsts.length->eE K z->cI (qmk tk firsts) (qtr nx fin firsts) p z=cI tk nx (firsts.getD p 0) z
 | [],p,_,_=>rfl
 | b::z,p,hp,hl=>by
  have hb:=hl b bM;have hf:=(h.first_lt hp).1;by_cases e:nx (firsts.getD p 0) b= -1
  ·rw[fB e,fB (mB e)]
  ·have r1:=ha.rng _ b hf hb;have hx:(nx (firsts.getD p 0) b).toNat<n:=by omega
   have hq:=mA (fin:=fin) e;have hne:qtr nx fin firsts p b≠ -1:=by rw[hq];omega
   have hl':eE K z:=fun c hc=>hl c (bD _ hc)
   rw[bQ e,bQ hne,hq];simp only[aO];rw[dK.qobs h ha z _ (h.fin_lt hx) hl'];exact h.obs ha z _ _ (h.first_lt (h.fin_lt hx)).1 hx hl' (h.first_lt (h.fin_lt hx)).2
theorem dK.occ (h:dK n tk nx K fin firsts r)(ha:iX n K nx)(ho:P8 n K nx){q s g:Nat}(hq:q<firsts.length)(hq0:0<q)(hs:s<n)(hg:g<K)(he:nx s g=((firsts.getD q 0:Nat):Int)):
  ∃p g',g'<K/\p<firsts.length/\(firsts.getD p 0<s\/(firsts.getD p 0=s/\g'<=g))/\qtr nx fin firsts p g'=(q:Int):=by
 have hf0:0<firsts.getD q 0:=by
  have:=h.mono hq0 hq;omega
 obtain⟨s',g',⟨hg',he'⟩,hle,hmin⟩:=Jc (fun x y=>y<K/\nx x y=((firsts.getD q 0:Nat):Int)) s g ⟨hg,he⟩;have hs':s'<n:=by omega
 have hfs:=h.first_le hs';have hpl:=h.fin_lt hs';have hpf:=h.first_lt hpl;have hne:nx s' g'≠ -1:=by rw[he'];omega
 have hb:=(h.bisim ha hpf.1 hs' hpf.2).2 g' hg';have hne2:nx (firsts.getD (fin.getD s' 0) 0) g'≠ -1:=fun e=>hne (hb.1.1 e)
 have hfin:=hb.2 hne2;rw[he',aO,(h.first_lt hq).2]at hfin;have heq:firsts.getD (fin.getD s' 0) 0=s':=by
  apply aL;intro hlt;have r1:=ha.rng _ g' hpf.1 hg';have hx:(nx (firsts.getD (fin.getD s' 0) 0) g').toNat<n:=by omega
  have hge:=h.first_le hx;rw[hfin]at hge;obtain⟨a,b,hb2,hle2,hab⟩:=ho.d1 (firsts.getD (fin.getD s' 0) 0) g' (firsts.getD q 0) hpf.1 hg' hf0 (by omega);exact hmin a b (by omega) ⟨hb2,hab⟩
 refine⟨fin.getD s' 0,g',hg',hpl,by rw[heq];exact hle, ?_⟩;rw[mA hne2,hfin]
theorem dK.canon (h:dK n tk nx K fin firsts r)(ha:iX n K nx)(ho:P8 n K nx)(hl:K8 n K tk nx):nI firsts.length K (qmk tk firsts) (qtr nx fin firsts):=by
 have hz:=h.zero ha.pos;have hau:iX firsts.length K (qtr nx fin firsts):=⟨hz.1,fun p g hp hg=>by
  have hf:=(h.first_lt hp).1;by_cases e:nx (firsts.getD p 0) g= -1
  ·exact .inl (mB e)
  ·right;have r1:=ha.rng _ g hf hg;have:=h.fin_lt (s:=(nx (firsts.getD p 0) g).toNat) (by omega);rw[mA e];omega⟩
 have hfp:∀p q,p<firsts.length->q<firsts.length->firsts.getD p 0<firsts.getD q 0->p<q:=fun p q hp _ hlt=>by
  apply aL;intro hc;have:=h.mono_le (p:=q) (q:=p) (by omega) hp;omega
 refine⟨hau,⟨fun p b q hp hb hq0 hle=> ?_,fun q hq0 hq=> ?_⟩,fun p b hp hb hne=> ?_,fun p q hp hq hne=> ?_⟩
 ·have hf:=(h.first_lt hp).1;have e:nx (firsts.getD p 0) b≠ -1:=fun e=>by rw[mB e]at hle;omega
  have r1:=ha.rng _ b hf hb;have hx:(nx (firsts.getD p 0) b).toNat<n:=by omega
  rw[mA e]at hle;have hfl:=h.fin_lt hx;have hql:q<firsts.length:=by omega
  have h1:=h.mono_le (p:=q) (q:=fin.getD (nx (firsts.getD p 0) b).toNat 0) (by omega) hfl;have h2:=h.first_le hx;have h3:=h.mono hq0 hql;obtain⟨s',g',hg',hle',he'⟩:=ho.d1 (firsts.getD p 0) b (firsts.getD q 0) hf hb (by omega) (by omega);obtain⟨p',g'',hg'',hp',hle'',hq'⟩:=h.occ ha ho hql hq0 (by omega) hg' he';refine⟨p',g'',hg'', ?_,hq'⟩;rcases hle'' with hlt | ⟨heq,hgg⟩
  ·exact .inl (hfp p' p hp' hp (by omega))
  ·rcases hle' with hlt | ⟨heq',hgg'⟩
   ·exact .inl (hfp p' p hp' hp (by omega))
   ·by_cases e3:p'=p
    ·exact .inr ⟨e3,by omega⟩
    ·exfalso;rcases bK e3 with hlt | hlt
     ·have:=h.mono hlt hp;omega
     ·have:=h.mono hlt hp';omega
 ·have h3:=h.mono hq0 hq;have hfq:=(h.first_lt hq).1;obtain⟨s',g',hs',hg',he'⟩:=ho.d2 (firsts.getD q 0) (by omega) hfq;obtain⟨p',g'',hg'',hp',hle'',hq'⟩:=h.occ ha ho hq hq0 (by omega) hg' he';exact⟨p',g'',hfp p' q hp' hq (by omega),hg'',hq'⟩
 ·have hf:=(h.first_lt hp).1;have e:nx (firsts.getD p 0) b≠ -1:=fun e=>hne (mB e)
  obtain⟨z,hz,hz2⟩:=hl _ b hf hb e;have r1:=ha.rng _ b hf hb;have hx:(nx (firsts.getD p 0) b).toNat<n:=by omega
  refine⟨z,hz, ?_⟩;rw[mA e,aO,h.qobs ha z _ (h.fin_lt hx) hz,h.obs ha z _ _ (h.first_lt (h.fin_lt hx)).1 hx hz (h.first_lt (h.fin_lt hx)).2];exact hz2
 ·have fp:=h.first_lt hp;have fq:=h.first_lt hq;have hE:¬Eqv tk nx K r (firsts.getD p 0) (firsts.getD q 0):=fun hE=>by
   have:=(h.cls _ _ fp.1 fq.1).2 hE;rw[fp.2,fq.2]at this;exact hne this
  obtain⟨z,hz,hz2⟩:=E4 ha hl r _ _ fp.1 fq.1 hE;exact⟨z,hz,by rw[h.qobs ha z p hp hz,h.qobs ha z q hq hz];exact hz2⟩
theorem dK.qrounds (h:dK n tk nx K fin firsts r)(ha:iX n K nx):∀k p q,p<firsts.length->q<firsts.length->(Eqv (qmk tk firsts) (qtr nx fin firsts) K k p q↔Eqv tk nx K k (firsts.getD p 0) (firsts.getD q 0)):=by
 intro k
 induction k with
 | zero=>intro p q _ _;exact Iff.rfl
 | succ j ih=>
  intro p q hp hq;have fp:=(h.first_lt hp).1;have fq:=(h.first_lt hq).1;have hfin:∀x,x<n->Eqv tk nx K j (firsts.getD (fin.getD x 0) 0) x:=fun x hx=>by
   have hl:=h.first_lt (h.fin_lt hx);exact h.more ha j _ _ hl.1 hx ((h.cls _ _ hl.1 hx).1 hl.2)
  have hg:∀g,g<K->(((qtr nx fin firsts p g= -1↔qtr nx fin firsts q g= -1)/\(qtr nx fin firsts p g≠ -1->Eqv (qmk tk firsts) (qtr nx fin firsts) K j (qtr nx fin firsts p g).toNat (qtr nx fin firsts q g).toNat))↔
    ((nx (firsts.getD p 0) g= -1↔nx (firsts.getD q 0) g= -1)/\(nx (firsts.getD p 0) g≠ -1->Eqv tk nx K j (nx (firsts.getD p 0) g).toNat (nx (firsts.getD q 0) g).toNat))):=fun g hgK=>by
   have r1:=ha.rng _ g fp hgK;have r2:=ha.rng _ g fq hgK;by_cases e1:nx (firsts.getD p 0) g= -1<;> by_cases e2:nx (firsts.getD q 0) g= -1
   ·exact⟨fun _=>⟨⟨fun _=>e2,fun _=>e1⟩,fun h=>absurd e1 h⟩,fun _=>⟨⟨fun _=>mB e2,fun _=>mB e1⟩,fun h=>absurd (mB e1) h⟩⟩
   ·have:=mA (fin:=fin) e2;simp only[mB (fin:=fin) e1,e1,e2];constructor
    ·intro hh;have:=hh.1.1 trivial;omega
    ·intro hh;exact absurd (hh.1.1 trivial) id
   ·have:=mA (fin:=fin) e1;simp only[mB (fin:=fin) e2,e1,e2];constructor
    ·intro hh;have:=hh.1.2 trivial;omega
    ·intro hh;exact absurd (hh.1.2 trivial) id
   ·have q1:=mA (fin:=fin) e1;have q2:=mA (fin:=fin) e2;have x1:(nx (firsts.getD p 0) g).toNat<n:=by omega
    have x2:(nx (firsts.getD q 0) g).toNat<n:=by omega
    have hi:=ih _ _ (h.fin_lt x1) (h.fin_lt x2);have n1:qtr nx fin firsts p g≠ -1:=by rw[q1];omega
    have n2:qtr nx fin firsts q g≠ -1:=by rw[q2];omega
    rw[q1,q2,aO,aO];rw[q1]at n1;rw[q2]at n2;constructor
    ·intro hh;exact⟨⟨fun e=>absurd e e1,fun e=>absurd e e2⟩,fun _=>((hfin _ x1).symm.trans (hi.1 (hh.2 n1))).trans (hfin _ x2)⟩
    ·intro hh;exact⟨⟨fun e=>absurd e n1,fun e=>absurd e n2⟩,fun _=>hi.2 (((hfin _ x1).trans (hh.2 e1)).trans (hfin _ x2).symm)⟩
  constructor
  ·rintro⟨h1,h2,h3⟩;exact⟨(ih p q hp hq).1 h1,h2,fun g hgK=>(hg g hgK).1 (h3 g hgK)⟩
  ·rintro⟨h1,h2,h3⟩;exact⟨(ih p q hp hq).2 h1,h2,fun g hgK=>(hg g hgK).2 (h3 g hgK)⟩
theorem dK.qapart (h:dK n tk nx K fin firsts r)(ha:iX n K nx){p q:Nat}(hp:p<firsts.length)(hq:q<firsts.length)(hne:p≠q):¬Eqv (qmk tk firsts) (qtr nx fin firsts) K r p q:=fun hE=>by
 have fp:=h.first_lt hp;have fq:=h.first_lt hq;have:=(h.cls _ _ fp.1 fq.1).2 ((h.qrounds ha r p q hp hq).1 hE);rw[fp.2,fq.2]at this;exact hne this
end
end Go.Stn
