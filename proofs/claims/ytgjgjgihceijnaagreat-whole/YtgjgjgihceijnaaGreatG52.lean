import Derived.Test.YtgjgjgihceijnaaGreatG50
import Derived.Test.YtgjgjgihceijnaaGreatG51
import Derived.Test.YtgjgjgihceijnaaGreatG28
import Derived.Test.YtgjgjgihceijnaaGreatG29
open List renaming getElem?_eq_getElem->aL,getElem?_eq_some_iff->aR,getElem?_map->aT,getD_eq_getElem?_getD->bC,map_cons->a9,length_map->bK,map_append->bM,mem_cons_of_mem->bO,mem_cons_self->bS
open Classical renaming byContradiction->aO
open Nat renaming le_refl->bN,strongRecOn->cL,zero_add->cN
open Int renaming toNat_natCast->bT
open Option renaming getD_some->cF
namespace Go.Proofs.YtgjgjgihceijnaaGreat
open Go.RowKit Go.Stn
theorem Fj {w0:World}{O:Nat->Nat}{N:List RN}{R:List RV}{ls:List fM}(h:RuM w0 O N R ls)(c r:Nat)(w:List Nat):WL N (gG c 0 R) r w↔∃x:aY,(ls.map toX)[r]? =some x/\x.1 c=true/\W x.2.2 w:=by
 constructor
 ·rintro⟨p,hp,hr,hw⟩;obtain⟨j,x,h1,h2,h3⟩:=xX.1 hp;have hj:j<ls.length:=by rw[←h.1];exact(aR.1 h1).1
  have hy:=aL hj;obtain⟨_,k1,_,k3⟩:=h.2 j x _ h1 hy;rw[h3,cN]at hr hw;have hr:j=r:=hr;subst hr;refine⟨toX (ls[j]'hj),by rw[aT,hy];rfl, ?_, ?_⟩
  ·show(ls[j]'hj).1 c=true;rw[←k1];exact h2
  ·exact(k3.2.1 w).1 (xI.1 hw)
 ·rintro⟨x,hx,h1,h2⟩;rw[aT]at hx
  cases hy:ls[r]? with
  | none=>rw[hy]at hx;cases hx
  | some y=>
   rw[hy]at hx;have hx:some (toX y)=some x:=hx;injection hx with hx;subst hx;have hr:r<R.length:=by rw[h.1];exact(aR.1 hy).1
   have hR:=aL hr;obtain⟨_,k1,_,k3⟩:=h.2 r _ y hR hy;refine⟨(r,[(R[r]'hr).n]),xX.2 ⟨r,_,hR,by rw[k1];exact h1,by rw[cN]⟩,rfl,xI.2 ((k3.2.1 w).2 h2)⟩
theorem N6.tok {w0:World}{O:Nat->Nat}{N:List RN}{R:List RV}{ls:List fM}(h:RuM w0 O N R ls){c:Nat}{w:List Nat}{v:Nat}(ht:N6 N (gG c 0 R) w v):uU (ls.map toX) c w v:=by
 rcases ht with⟨h1,h2⟩ | ⟨r,h1,h2,h3⟩
 ·exact .inl ⟨h1,fun r x hx hh=>h2 r ((Fj h c r w).2 ⟨x,hx,hh.1,hh.2⟩)⟩
 ·obtain⟨x,k1,k2,k3⟩:=(Fj h c r w).1 h2;exact .inr ⟨r,x,h1,k1,⟨k2,k3⟩,fun r' x' hr' hx' hh=>h3 r' hr' ((Fj h c r' w).2 ⟨x',hx',hh.1,hh.2⟩)⟩
end Go.Proofs.YtgjgjgihceijnaaGreat
namespace Go.Stn
open Go.Proofs.YtgjgjgihceijnaaGreat (kU rD mO iQ gQ)
theorem Dq {cls cls':Nat->Nat}{K K':Nat}{fb fb':Nat->Nat}
  (h1:∀j,j<K->fb j<256/\cls (fb j)=j) (h2:∀b,b<256->fb (cls b)<=b) (h3:∀j j',j<j'->j'<K->fb j<fb j') (h4:∀b,b<256->cls b<K)
  (k1:∀j,j<K'->fb' j<256/\cls' (fb' j)=j) (k2:∀b,b<256->fb' (cls' b)<=b) (k3:∀j j',j<j'->j'<K'->fb' j<fb' j') (k4:∀b,b<256->cls' b<K')
  (he:∀b b',b<256->b'<256->(cls b=cls b'↔cls' b=cls' b')):∀j,j<K->j<K'/\fb j=fb' j:=by
 intro j
 induction j using cL with
 | ind j ih=>
  intro hj;obtain⟨x1,x2⟩:=h1 j hj;have hn:∀i,i<j->cls' (fb j)≠i:=fun i hi e=>by
   obtain⟨i1,i2⟩:=ih i hi (by omega);obtain⟨y1,y2⟩:=h1 i (by omega);obtain⟨z1,z2⟩:=k1 i i1;have:cls' (fb i)=cls' (fb j):=by rw[e,i2,z2]
   have:=(he _ _ y1 x1).2 this;omega
  have hge:j<=cls' (fb j):=by
   apply aO;intro hc;exact hn _ (by omega) rfl
  have hlt:=k4 (fb j) x1;have hjK:j<K':=by omega
  refine⟨hjK, ?_⟩;obtain⟨y1,y2⟩:=k1 j hjK;have a1:fb' j<=fb j:=by
   have:=k2 (fb j) x1;by_cases e:j=cls' (fb j)
   ·rw[←e]at this;exact this
   ·have:=k3 j _ (by omega) hlt;omega
  have a2:fb j<=fb' j:=by
   have b1:=h2 (fb' j) y1;have b2:=h4 (fb' j) y1;by_cases e:cls (fb' j)<j
   ·obtain⟨i1,i2⟩:=ih _ e b2;obtain⟨c1,c2⟩:=h1 _ b2;have:=(he _ _ c1 y1).1 c2;rw[i2,(k1 _ i1).2,y2]at this;omega
   ·by_cases e2:j=cls (fb' j)
    ·rw[←e2]at b1;exact b1
    ·have:=h3 j _ (by omega) b2;omega
  omega
theorem Pv {cls cls':Nat->Nat}{K K':Nat}{fb fb':Nat->Nat}
  (h1:∀j,j<K->fb j<256/\cls (fb j)=j) (h2:∀b,b<256->fb (cls b)<=b) (h3:∀j j',j<j'->j'<K->fb j<fb j') (h4:∀b,b<256->cls b<K)
  (k1:∀j,j<K'->fb' j<256/\cls' (fb' j)=j) (k2:∀b,b<256->fb' (cls' b)<=b) (k3:∀j j',j<j'->j'<K'->fb' j<fb' j') (k4:∀b,b<256->cls' b<K')
  (he:∀b b',b<256->b'<256->(cls b=cls b'↔cls' b=cls' b')):K=K'/\(∀b,b<256->cls b=cls' b)/\∀j,j<K->fb j=fb' j:=by
 have a:=Dq h1 h2 h3 h4 k1 k2 k3 k4 he;have b:=Dq k1 k2 k3 k4 h1 h2 h3 h4 (fun x y hx hy=>(he x y hx hy).symm);refine⟨?_,fun x hx=> ?_,fun j hj=>(a j hj).2⟩
 ·rcases Nat.lt_trichotomy K K' with h | h | h
  ·have:=(b K h).1;omega
  ·exact h
  ·have:=(a K' h).1;omega
 ·obtain⟨a1,a2⟩:=a _ (h4 x hx);obtain⟨c1,c2⟩:=h1 _ (h4 x hx);have:=(he _ _ c1 hx).1 c2;rw[a2,(k1 _ a1).2]at this;exact this
structure Ve (l l':List aY):Prop where
 len:l.length=l'.length
 cn:aU l=aU l'
 be:∀(i:Nat) (x x':aY),l[i]? =some x->l'[i]? =some x'->x.2.1=x'.2.1
 tok:∀c w v,uU l c w v↔uU l' c w v
theorem Na {x y:Nat}(h:fD x=fD y):x=y:=by
 unfold fD at h;split at h<;> split at h<;> omega
theorem Mb {s s':ByteArray}(hz:s.size=s'.size)(h:∀i,i<s.size->bt s i=bt s' i):s=s':=by
 obtain⟨d⟩:=s;obtain⟨d'⟩:=s';congr 1;have hz:d.size=d'.size:=hz;refine Array.ext hz (fun i h1 h2=> ?_);have:=h i h1;unfold bt at this;simp only at this;rw[bC,bC,aL (by simpa using h1),aL (by simpa using h2)]at this;simp only[cF,Array.getElem_toList]at this;exact UInt8.toNat_inj.1 this
theorem Pa {l l':List aY}{s s':ByteArray}(hs:Ve l l')(h:mC l s)(h':mC l' s'):s=s':=by
 have hR:iR s=iR s':=by rw[h.fr,h'.fr,hs.len]
 have hM:iM s=iM s':=by rw[h.fm,h'.fm,hs.cn]
 have hst:∀c,c<aU l->nSt s c=nSt s' c/\(∀p,p<nSt s c->eA s c p=eA s' c p)/\∀p b,p<nSt s c->b<256->bE s c p b=bE s' c p b:=fun c hc=>by
  have hc':c<aU l':=by rw[←hs.cn];exact hc
  obtain⟨a1,a2,a3⟩:=wL (h.cn c hc) (h'.cn c hc') (fun w hw=>by
   cases w with
   | nil=>exact(h.z c hc).trans (h'.z c hc').symm
   | cons b u=>exact uL (h.tok c hc b u hw) ((hs.tok _ _ _).2 (h'.tok c hc' b u hw)))
  exact⟨a1,a2,fun p b hp hb=>Na (a3 p b hp hb)⟩
 have hMl:iM s=aU l:=h.fm;obtain⟨_,_,_,_,_,g6⟩:=hZ.1 h.ok;obtain⟨_,_,_,_,_,k6⟩:=hZ.1 h'.ok;have ga:=pC.1 (hZ.1 h.ok).1;have ka:=pC.1 (hZ.1 h'.ok).1;have hst':∀c p,c<aU l->p<nSt s c->p<nSt s' c:=fun c p hc hp=>by rw[←(hst c hc).1];exact hp
 obtain⟨fb,f1,f2,f3⟩:=h.cl;obtain⟨fb',f1',f2',f3'⟩:=h'.cl;have tog:∀(l:List aY) (s:ByteArray),mC l s->∀b b',b<256->b'<256->(oO s b=oO s b'↔∀c p,c<aU l->p<nSt s c->bE s c p b=bE s c p b'):=fun l s h b b' hb hb'=>by
  constructor
  ·intro e c p _ _;unfold bE;rw[e]
  ·intro e;apply aO;intro hne;obtain⟨c,p,hc,hp,hh⟩:=h.ca _ _ (sJ h.ok b hb) (sJ h.ok b' hb') hne;exact hh (e c p hc hp)
 obtain⟨hK,hc1,hfb⟩:=Pv f1 f2 f3 (sJ h.ok) f1' f2' f3' (sJ h'.ok) (fun b b' hb hb'=>by
  rw[tog l s h b b' hb hb',tog l' s' h' b b' hb hb'];constructor
  ·intro e c p hc hp;have hc2:c<aU l:=by rw[hs.cn];exact hc
   have hp2:p<nSt s c:=by rw[(hst c hc2).1];exact hp
   rw[←(hst c hc2).2.2 p b hp2 hb,←(hst c hc2).2.2 p b' hp2 hb'];exact e c p hc2 hp2
  ·intro e c p hc hp;rw[(hst c hc).2.2 p b hp hb,(hst c hc).2.2 p b' hp hb'];exact e c p (by rw[←hs.cn];exact hc) (hst' c p hc hp))
 have hat:∀c,c<=iM s->iAt s c=iAt s' c:=by
  intro c
  induction c with
  | zero=>intro _;show 262+iR s=262+iR s';rw[hR]
  | succ c ih=>
   intro hc;have e:=ih (by omega);rw[(F9 (vW h.ok (by omega))).1,(F9 (vW h'.ok (by omega))).1];have:bt s (iAt s c)=bt s' (iAt s' c):=(hst c (by omega)).1;rw[this,e,hK]
 have hrw:∀c p,c<iM s->oA s c p=oA s' c p:=fun c p hc=>by unfold oA;rw[hat c (by omega),hK]
 have hz:s.size=s'.size:=by rw[←g6,←k6,←hM,hat _ (bN _)]
 have hrow:∀c p j,c<iM s->p<nSt s c->j<iK s->bt s (oA s c p+1+j)=bt s' (oA s' c p+1+j):=fun c p j hc hp hj=>by
  obtain⟨a1,a2⟩:=f1 j hj;have:=(hst c (by omega)).2.2 p (fb j) hp a1;unfold bE at this;rw[←hc1 (fb j) a1,a2]at this;exact this
 have hpart:∀d,d<=iM s->∀i,i<iAt s d->bt s i=bt s' i:=by
  intro d
  induction d with
  | zero=>
   intro _ i hi;have hi:i<262+iR s:=hi;by_cases h1:i<4
   ·have e3:bt s 3=bt s' 3:=hR;obtain⟨_,⟨a0,a1,a2⟩,_⟩:=ga;obtain⟨_,⟨b0,b1,b2⟩,_⟩:=ka;have:i=0\/i=1\/i=2\/i=3:=by omega
    rcases this with e | e | e | e<;> subst e<;> omega
   ·by_cases h2:i<4+iR s
    ·obtain⟨k,rfl⟩:∃k,i=4+k:=⟨i - 4,by omega⟩
     have hk:k<l.length:=by have:=h.fr;omega
     have hk':k<l'.length:=by rw[←hs.len];exact hk
     have e1:=h.fb k _ (aL hk);have e2:=h'.fb k _ (aL hk');have e3:=hs.be k _ _ (aL hk) (aL hk');unfold fE at e1 e2;omega
    ·by_cases h3:i=4+iR s
     ·have e:bt s (4+iR s)=bt s' (4+iR s'):=hM;rw[h3,e,hR]
     ·by_cases h4:i=5+iR s
      ·have e:bt s (5+iR s)+1=bt s' (5+iR s')+1:=hK;rw[h4];rw[hR]at e ⊢;omega
      ·obtain⟨k,rfl⟩:∃k,i=6+iR s+k:=⟨i - 6 - iR s,by omega⟩
       have:=hc1 k (by omega);unfold oO at this;rw[this,hR]
  | succ d ih=>
   intro hd i hi;by_cases h1:i<iAt s d
   ·exact ih (by omega) i h1
   ·rw[(F9 (vW h.ok (by omega))).1]at hi;by_cases h2:i=iAt s d
    ·have e:bt s (iAt s d)=bt s' (iAt s' d):=(hst d (by omega)).1;rw[h2,e,hat d (by omega)]
    ·obtain⟨k,rfl⟩:∃k,i=iAt s d+1+k:=⟨i - iAt s d - 1,by omega⟩
     have hk:k<bt s (iAt s d)*(1+iK s):=by omega
     have hp:k / (1+iK s)<nSt s d:=(Nat.div_lt_iff_lt_mul (by omega)).2 hk;have hdm:=Nat.div_add_mod k (1+iK s);have hml:=Nat.mod_lt k (show 0<1+iK s by omega);rw[Nat.mul_comm]at hdm;by_cases h3:k % (1+iK s)=0
     ·have e:=(hst d (by omega)).2.1 _ hp;unfold eA at e;rw[←hrw d _ (by omega)]at e;rw[show iAt s d+1+k=oA s d (k / (1+iK s)) by unfold oA;omega];exact e
     ·have e:=hrow d _ (k % (1+iK s) - 1) (by omega) hp (by omega);rw[←hrw d _ (by omega)]at e;rw[show iAt s d+1+k=oA s d (k / (1+iK s))+1+(k % (1+iK s) - 1) by unfold oA;omega];exact e
 exact Mb hz (fun i hi=>hpart (iM s) (bN _) i (by rw[g6];exact hi))
end Go.Stn
namespace Go.Stn
open Go.Proofs.YtgjgjgihceijnaaGreat (kU rD mO iQ gQ)
theorem Up:∀(m n:Nat) (f:Nat->Nat),(∀i,i<n->f i<m)->m<n->∃i j,i<j/\j<n/\f i=f j:=by
 intro m
 induction m with
 | zero=>intro n f h hn;have:=h 0 hn;omega
 | succ m ih=>
  intro n f h hn;obtain⟨k,rfl⟩:∃k,n=k+1:=⟨n - 1,by omega⟩
  by_cases e:∃i,i<k/\f i=f k
  ·obtain⟨i,h1,h2⟩:=e;exact⟨i,k,h1,by omega,h2⟩
  ·obtain⟨i,j,h1,h2,h3⟩:=ih k (fun i=>if f i=m then f k else f i) (fun i hi=>by
    have hi1:=h i (by omega);have hk1:=h k (by omega);have hne:f i≠f k:=fun hh=>e ⟨i,hi,hh⟩
    show(if f i=m then f k else f i)<m;split<;> omega) (by omega)
   refine⟨i,j,h1,by omega, ?_⟩;have hi:f i≠f k:=fun hh=>e ⟨i,by omega,hh⟩
   have hj:f j≠f k:=fun hh=>e ⟨j,by omega,hh⟩
   split at h3<;> split at h3<;> omega
section
variable {l:List aY} {c:Nat} {A:Nat->Nat->Bool} {next:Nat->Int} {begin:Int} {la G:List Int} {of_:Nat->Nat}
theorem gW.text (h:gW l c A next begin la G of_):∀q,q<qA next begin G->∃u,eE 256 u/\kX (pZ next begin G) 0 (u.map of_)=some q/\(q=0->u= []):=by
 intro q
 induction q using cL with
 | ind q ih=>
  intro hq;by_cases h0:q=0
  ·subst h0;exact⟨[],pN _,rfl,fun _=>rfl⟩
  ·obtain⟨p,g,h1,h2,h3⟩:=(yJ next begin G).d2 q (by omega) hq;obtain⟨u,u1,u2,_⟩:=ih p h1 (by omega);obtain⟨b,b1,b2⟩:=h.gn g h2;refine⟨u++ [b],tE u1 (Eb b1), ?_,fun e=>absurd e h0⟩;rw[bM,a9,List.map_nil,tV u2,b2,if_neg (by omega),h3]
   rfl
end
end Go.Stn
namespace Go.Stn
open Go.Proofs.YtgjgjgihceijnaaGreat (kU rD mO iQ gQ)
structure uQ (l:List aY)(c n:Nat)(mk:Nat->Nat)(tr:Nat->Nat->Int):Prop where
 cn:nI n 256 mk tr
 z:mk 0=0
 tok:∀b u,eE 256 (b::u)->uU l c (b::u) (cI mk tr 0 (b::u))
theorem uQ.text {l:List aY}{c n:Nat}{mk:Nat->Nat}{tr:Nat->Nat->Int}(h:uQ l c n mk tr){p:Nat}(hp:p<n):∃u,eE 256 u/\kX tr 0 u=some p:=by
 obtain⟨u,h1,h2,_⟩:=yY h.cn h.cn (fun _ _=>rfl) p hp;exact⟨u,h1,h2⟩
theorem Sk {l:List aY}{c:Nat}{w:List Nat}{v:Nat}(h:uU l c w v):v<=l.length:=by
 rcases h with⟨h,_⟩ | ⟨r,x,h1,h2,_⟩
 ·omega
 ·have:=(aR.1 h2).1;omega
theorem uQ.le {l:List aY}{c n:Nat}{mk:Nat->Nat}{tr:Nat->Nat->Int}(h:uQ l c n mk tr){p:Nat}(hp:p<n):mk p<=l.length:=by
 obtain⟨u,h1,h2⟩:=h.text hp
 cases u with
 | nil=>
  rw[kX]at h2;injection h2 with h2;rw[←h2,h.z];omega
 | cons b u=>
  have:=Sk (h.tok b u h1);unfold cI at this;rw[h2]at this;exact this
theorem uQ.same {l:List aY}{c n n':Nat}{mk mk':Nat->Nat}{tr tr':Nat->Nat->Int}(h:uQ l c n mk tr)(h':uQ l c n' mk' tr'):n=n'/\(∀p,p<n->mk p=mk' p)/\∀p b,p<n->b<256->tr p b=tr' p b:=
 wL h.cn h'.cn (fun w hw=>by
  cases w with
  | nil=>exact h.z.trans h'.z.symm
  | cons b u=>exact uL (h.tok b u hw) (h'.tok b u hw))
theorem mC.tab {l:List aY}{s:ByteArray}(h:mC l s){c:Nat}(hc:c<aU l):uQ l c (nSt s c) (eA s c) (fun p b=>fD (bE s c p b)):=⟨h.cn c hc,h.z c hc,h.tok c hc⟩
theorem Sc {l:List aY}(hl:∀x∈l,mZ x)(hn:fZ l<=10){c n':Nat}{mk':Nat->Nat}{tr':Nat->Nat->Int}(hc:c<aU l)(h':uQ l c n' mk' tr')(hfew:n'<=100):¬uJ l c:=by
 intro hm;have hc4:c<4:=by have:=(mP l hl hn).2.1;omega
 have hcn:=Bm l hl hn c hc4;have hau:=G6 (kU (aB st0 l).nodes) (jW l c) (eU l);have hor:=yJ (kU (aB st0 l).nodes) (jW l c) (eU l);have hli:=hcn.lively;have htx:=hcn.text;have hob:∀w,eE 256 w->cI (uN (kU (aB st0 l).nodes) (jW l c) (mO (aB st0 l).nodes (aB st0 l).rules) (eU l)) (pZ (kU (aB st0 l).nodes) (jW l c) (eU l)) 0 (w.map (ofB l))=cI mk' tr' 0 w:=fun w hw=>by
  cases w with
  | nil=>exact hcn.zero.trans h'.z.symm
  | cons b u=>exact uL (hcn.tok b u hw) (h'.tok b u hw)
 have hgn:=hcn.gn;have hgl:=hcn.gl;unfold uJ at hm;generalize uN (kU (aB st0 l).nodes) (jW l c) (mO (aB st0 l).nodes (aB st0 l).rules) (eU l)=tk at*;generalize qA (kU (aB st0 l).nodes) (jW l c) (eU l)=n at*;generalize pZ (kU (aB st0 l).nodes) (jW l c) (eU l)=nx at*;have hcan:=h'.cn;obtain⟨f,r,hf,hne⟩:=hm;have hz:∀z,eE (eU l).length z->∃w,eE 256 w/\w.map (ofB l)=z:=fun z=>by
  induction z with
  | nil=>intro _;exact⟨[],pN _,rfl⟩
  | cons g z ih=>
   intro hz;obtain⟨w,w1,w2⟩:=ih (fun x hx=>hz x (bO _ hx));obtain⟨b,b1,b2⟩:=hgn g (hz g bS);exact⟨b::w,jL b1 w1,by rw[a9,b2,w2]⟩
 have hrun:∀q,q<n->∃p,p<n'/\∀z,eE 256 z->cI tk nx q (z.map (ofB l))=cI mk' tr' p z:=fun q hq=>by
  obtain⟨u,u1,u2,u3⟩:=htx q hq
  cases e:kX tr' 0 u with
  | some p=>
   refine⟨p,oP hcan.au u 0 p hcan.au.pos u1 e,fun z hz=> ?_⟩;have:=hob (u++z) (tE u1 hz);rw[bM,tP u2,tP e]at this;exact this
  | none=>
   exfalso;by_cases h0:q=0
   ·rw[u3 h0,kX]at e;cases e
   ·obtain⟨p,g,h1,h2,h3⟩:=hor.d2 q (by omega) hq;obtain⟨z,z1,z2⟩:=hli p g (by omega) h2 (by omega);rw[h3,bT]at z2;obtain⟨w,w1,w2⟩:=hz z z1;have:=hob (u++w) (tE u1 w1);rw[bM,tP u2,w2]at this;have hno:cI mk' tr' 0 (u++w)=0:=by
     unfold cI;rw[tQ,e]
    rw[hno]at this;exact z2 this
 have hg:∃g:Nat->Nat,∀q,q<n->g q<n'/\∀z,eE 256 z->cI tk nx q (z.map (ofB l))=cI mk' tr' (g q) z:=
  ⟨fun q=>if h:q<n then Classical.choose (hrun q h)else 0,fun q hq=>by simp only[dif_pos hq];exact Classical.choose_spec (hrun q hq)⟩
 obtain⟨g,hg⟩:=hg;obtain⟨i,j,h1,h2,h3⟩:=Up 100 101 (fun i=>g (f i)) (fun i hi=>by have:=(hg (f i) (hf i hi)).1;omega) (by omega);have hnE:=hne i j (by omega) h2 (by omega);obtain⟨z,z1,z2⟩:=E4 hau hli r (f i) (f j) (hf i (by omega)) (hf j h2) hnE;obtain⟨w,w1,w2⟩:=hz z z1;refine z2 ?_;rw[←w2,(hg (f i) (hf i (by omega))).2 w w1,(hg (f j) (hf j h2)).2 w w1,h3]
theorem Op {t:ByteArray}(h0:dD t=0){l:List aY}(hl:oN t=some l){c n:Nat}{mk:Nat->Nat}{tr:Nat->Nat->Int}(hc:c<aU l)(h:uQ l c n mk tr)(hn:100<n):gQ t=([],4):=by
 rcases pQ t with⟨h1,_⟩ | ⟨_,l',hl',hs,h1 | ⟨ls,h1,h2⟩⟩
 ·exact absurd h0 h1
 ·exact h1.1
 ·rw[hl]at hl';injection hl' with hl';subst hl';obtain⟨o1,o2,o3⟩:=lY hl;have hi:=I4 o1 o2 o3 hs h1;have e:=(h.same (hi.tab hc)).1;have:=(X7 hi.ok (c:=c) (by rw[hi.fm];exact hc)).1;omega
def ruX (l:List aY):List ((Nat->Bool)×Int×Int):=l.map (fun x=>(x.1,x.2.1,0))
theorem uE (l:List aY):(ruX l).length=l.length:=by unfold ruX;rw[bK]
theorem Es {l:List aY}(hok:∀x∈l,mZ x){i:Nat}{x:aY}(hx:l[i]? =some x):(mR (ruX l) i:Int)=x.2.1:=by
 unfold mR ruX;rw[bC,aT,aT,hx];simp only[Option.map_some,cF];have:=(hok x (List.mem_of_getElem? hx)).b0;omega
theorem Qx {l:List aY}{ns:Nat->Nat}{mk:Nat->Nat->Nat}{tr:Nat->Nat->Nat->Int}(hok:∀x∈l,mZ x)(h1:0<l.length)(h8:l.length<=8)(hn:fZ l<=10)(hT:∀c,c<aU l->uQ l c (ns c) (mk c) (tr c))(h100:∀c,c<aU l->ns c<=100){s0:ByteArray}(h0:mC l s0):
  mC l ⟨(wrL (ruX l) (aU l) 256 (fun b=>b) ns mk tr).toArray⟩:=by
 obtain⟨m1,m4,mb,_⟩:=mP l hok hn;have hnx:∀c st g,c<aU l->st<ns c->g<256->tr c st g= -1\/(0<=tr c st g/\tr c st g<(ns c:Int)):=fun c st g hc hst hg=>(hT c hc).cn.au.rng st g hst hg
 have hns:∀c,c<aU l->1<=ns c/\ns c<=100:=fun c hc=>⟨(hT c hc).cn.au.pos,h100 c hc⟩
 have hw:=F2 (ruX l) (aU l) 256 (fun b=>b) ns mk tr (by rw[uE];omega) (by rw[uE];omega) m1 m4 (by omega) (by omega) (fun i hi=>by
   rw[uE]at hi;have e:=Es hok (aL hi);have:=mb l[i] (List.getElem_mem hi);omega) (fun b hb=>hb) hns (fun c st hc hst=>by
   rw[uE];exact(hT c hc).le hst) hnx
 rw[uE]at hw;have hcls:=Ah 256 ns tr (aU l);generalize (⟨(wrL (ruX l) (aU l) 256 (fun b=>b) ns mk tr).toArray⟩:ByteArray)=s at*;generalize hk:(gB 256 (fQ ns tr (aU l))).2.length=k at*;generalize (gB 256 (fQ ns tr (aU l))).2=fi at*;generalize (gB 256 (fQ ns tr (aU l))).1=cs at*;have hsame:∀c st g,c<aU l->st<ns c->g<256->tr c st (fi.getD (cs.getD g 0) 0)=tr c st g:=fun c st g hc hst hg=>by
  have hj:=hcls.lt g hg;obtain⟨f1,f2⟩:=hcls.fi1 _ hj;have:=(hcls.eq _ g f1 hg).1 f2;exact kY.1 this c hc st hst
 have hlead:∀c st b,c<aU l->st<ns c->b<256->fD (bE s c st b)=tr c st b:=fun c st b hc hst hb=>by
  unfold bE;rw[hw.fc b hb,hw.fl c st _ hc hst (hcls.lt _ hb),hsame c st _ hc hst hb];exact kJ (hns c hc).2 (hnx c st _ hc hst hb)
 have hauto:∀c,c<aU l->∀b u,eE 256 (b::u)->cI (eA s c) (fun p b=>fD (bE s c p b)) 0 (b::u)=cI (mk c) (tr c) 0 (b::u):=fun c hc b u hw2=>
  (sI (hT c hc).cn.au (fun p hp=>(hw.ft c p hc hp).symm) (fun p b hp hb=>(hlead c p b hc hp hb).symm) (b::u) 0 (hns c hc).1 hw2).symm
 have hone:∀c,c<aU l->nSt s0 c=ns c/\(∀p,p<ns c->eA s0 c p=mk c p)/\∀p b,p<ns c->b<256->fD (bE s0 c p b)=tr c p b:=fun c hc=>by
  obtain⟨a1,a2,a3⟩:=(hT c hc).same (h0.tab hc);exact⟨a1.symm,fun p hp=>(a2 p hp).symm,fun p b hp hb=>(a3 p b hp hb).symm⟩
 refine⟨hw.ok, ?_,hw.fr,hw.fm,fun i x hx=> ?_,fun c hc=> ?_,fun c hc=> ?_,fun c hc b u hl2=> ?_,fun c hc=> ?_, ?_,fun j j' hj hj' hne=> ?_⟩
 ·rw[hw.fz];have:∀d,d<=aU l->lJ ns k d<=d*25801:=by
   intro d
   induction d with
   | zero=>intro _;exact Nat.zero_le _
   | succ e ih=>
    intro he;have h1:=ih (by omega);have h2:=Nat.mul_le_mul (hns e (by omega)).2 (show 1+k<=257 by have:=hcls.le;omega);rw[lJ,Nat.succ_mul];omega
  have h2:=this (aU l) (bN _);have h3:=Nat.mul_le_mul_right 25801 m4;omega
 ·rw[hw.fb i (aR.1 hx).1];exact Es hok hx
 ·rw[hw.fn c hc];exact(hT c hc).cn.congr (fun p hp=>(hw.ft c p hc hp).symm) (fun p b hp hb=>(hlead c p b hc hp hb).symm)
 ·rw[hw.ft c 0 hc (hns c hc).1];exact(hT c hc).z
 ·rw[hauto c hc b u hl2];exact(hT c hc).tok b u hl2
 ·obtain⟨o1,o2,o3⟩:=hone c hc;obtain⟨r,hr,hap⟩:=h0.apr c hc;obtain⟨fb,fb1,fb2,fb3⟩:=h0.cl;rw[o1]at hr hap;rw[hw.fn c hc];refine⟨r,hr,fun p q hp hq hne hE=>hap p q hp hq hne ?_⟩;have hA0:iX (ns c) (iK s0) (fun p j=>fD (bt s0 (oA s0 c p+1+j))):=⟨(hns c hc).1,fun p j hp hj=>by
   obtain⟨b1,b2⟩:=fb1 j hj;have:=o3 p (fb j) hp b1;unfold bE at this;rw[b2]at this;rw[this];exact hnx c p _ hc hp b1⟩
  have hA1:iX (ns c) (iK s) (fun p j=>fD (bt s (oA s c p+1+j))):=⟨(hns c hc).1,fun p j hp hj=>by
   rw[hw.fk]at hj;rw[hw.fl c p j hc hp hj,kJ (hns c hc).2 (hnx c p _ hc hp (hcls.fi1 j hj).1)];exact hnx c p _ hc hp (hcls.fi1 j hj).1⟩
  have hE2:=Eqv.congr hA1 (fun p hp=>(hw.ft c p hc hp).trans (o2 p hp).symm) (fun p j _ _=>rfl) r p q hp hq hE;refine Eqv.letters hA0 (fun g hg=>⟨oO s (fb g),sJ hw.ok (fb g) (fb1 g hg).1,fun p hp=> ?_⟩) r p q hp hq hE2;obtain⟨b1,b2⟩:=fb1 g hg;have e1:=o3 p (fb g) hp b1;have e2:=hlead c p (fb g) hc hp b1;unfold bE at e1 e2;rw[b2]at e1;exact e1.trans e2.symm
 ·refine⟨fun j=>fi.getD j 0,fun j hj=> ?_,fun b hb=> ?_,fun j j' hj hj'=> ?_⟩
  ·rw[hw.fk]at hj;obtain⟨f1,f2⟩:=hcls.fi1 j hj;exact⟨f1,(hw.fc _ f1).trans f2⟩
  ·rw[hw.fc b hb];exact hcls.fi2 b hb
  ·rw[hw.fk]at hj';exact hcls.fi3 j j' hj hj'
 ·rw[hw.fk]at hj hj';obtain⟨f1,f2⟩:=hcls.fi1 j hj;obtain⟨f3,f4⟩:=hcls.fi1 j' hj';have hno:¬fQ ns tr (aU l) (fi.getD j 0) (fi.getD j' 0)=true:=fun e=>by
   have:=(hcls.eq _ _ f1 f3).2 e;exact hne (f2.symm.trans (this.trans f4))
  apply aO;intro hcon;refine hno (kY.2 (fun c hc p hp=> ?_));apply aO;intro hne2;refine hcon ⟨c,p,hc,by rw[hw.fn c hc];exact hp,fun e=>hne2 ?_⟩;rw[hw.fl c p j hc hp hj,hw.fl c p j' hc hp hj']at e;have e:=congrArg fD e;rw[kJ (hns c hc).2 (hnx c p _ hc hp f1),kJ (hns c hc).2 (hnx c p _ hc hp f3)]at e;exact e
theorem Th {t:ByteArray}(h0:dD t=0){l:List aY}(hl:oN t=some l){ns:Nat->Nat}{mk:Nat->Nat->Nat}{tr:Nat->Nat->Nat->Int}(hT:∀c,c<aU l->uQ l c (ns c) (mk c) (tr c))(h100:∀c,c<aU l->ns c<=100):
  gQ t=(wrL (ruX l) (aU l) 256 (fun b=>b) ns mk tr,0):=by
 obtain⟨o1,o2,o3⟩:=lY hl;rcases pQ t with⟨h1,_⟩ | ⟨_,l',hl',hs,h1 | ⟨ls,h1,h2⟩⟩
 ·exact absurd h0 h1
 ·rw[hl]at hl';injection hl' with hl';subst hl';obtain⟨_,c,hc,hm⟩:=h1;exact absurd hm (Sc o1 hs hc (hT c hc) (h100 c hc))
 ·rw[hl]at hl';injection hl' with hl';subst hl';have hi:=I4 o1 o2 o3 hs h1;have hr:=Qx o1 o2 o3 hs hT h100 hi;have e:=Pa ⟨rfl,rfl,fun i x x' a b=>by rw[a]at b;injection b with b;rw[b],fun _ _ _=>Iff.rfl⟩ hi hr;rw[h2];injection e with e;have e:=congrArg Array.toList e;simp only at e;rw[e]
end Go.Stn
namespace Go.Proofs.YtgjgjgihceijnaaGreat
open Go.Stn
structure J4 (x:fM):Prop where
 l0:0<=x.2.1
 l3:x.2.1<=3
 at_:x.1 x.2.1.toNat=true
 le:∀j:Nat,x.1 j=true->(j:Int)<=x.2.1
 th:x.2.2.1=46\/x.2.2.1=45\/(65<=x.2.2.1/\x.2.2.1<69)
theorem Oj (c:Nat): -1<=cH c/\cH c<=3:=by
 unfold cH;split<;> omega
theorem xC {x:ByteArray}:∀(n:Nat) (f:Nat->Bool) (last:Int) (i:Nat) (g:Nat->Bool) (l:Int),iG x n f last i=some (g,l)-> -1<=last->last<=3->(∀j:Nat,f j=true->(j:Int)<=last)->(0<=last->f last.toNat=true)->
  last<=l/\l<=3/\(∀j:Nat,g j=true->(j:Int)<=l)/\(0<=l->g l.toNat=true)/\(i<x.size->0<=l)
 | 0,f,last,i,g,l,h,_,_,_,_=>by unfold iG at h;cases h
 | n+1,f,last,i,g,l,h,h0,h3,hf,ha=>by
  by_cases hi:x.size<=i
  ·rw[tN hi]at h;injection h with h;injection h with h1 h2;subst h1 h2;exact⟨Int.le_refl _,h3,hf,ha,fun h=>by omega⟩
  ·by_cases hc:cH (bt x i)<=last
   ·rw[sD (by omega) hc]at h;cases h
   ·rw[tH (by omega) hc]at h;have hr:=Oj (bt x i);obtain⟨k1,k2,k3,k4,k5⟩:=xC n _ _ _ g l h hr.1 hr.2 (fun j hj=>by
     by_cases e:(j:Int)=cH (bt x i)
     ·omega
     ·simp only[if_neg e]at hj;have:=hf j hj;omega) (fun h=>by rw[if_pos (by omega)])
    exact⟨by omega,k2,k3,k4,fun _=>by omega⟩
theorem Sr {s:ByteArray}{x:fM}(h:iI s=some x):J4 x:=by
 unfold iI at h;split at h
 ·rename_i p0 p1 p2 _;unfold sF at h;split at h
  ·cases h
  ·rename_i hs;split at h
   ·cases h
   ·rename_i f last hg;split at h
    ·cases h
    ·rename_i hb;split at h
     ·cases h
     ·rename_i r a _;split at h
      ·injection h with h;subst h;obtain⟨k1,k2,k3,k4,k5⟩:=xC _ _ _ _ _ _ hg (by omega) (by omega) (fun j hj=>by cases hj) (fun h=>by omega);have k5:=k5 (by omega);refine⟨k5,k2,k4 k5,k3, ?_⟩;unfold cH at hb;show bt _ 0=46\/bt _ 0=45\/(65<=bt _ 0/\bt _ 0<69);generalize bt (s.extract p2.1 p2.2) 0=c at*;apply aO;intro hn;refine hb ⟨?_,by omega,by omega⟩;rw[if_neg (by omega)];omega
      ·cases h
 ·cases h
theorem xS {s:ByteArray}:∀{ps:List (Nat×Nat)} {l:List fM},lnR s ps=some l->∀x∈l,J4 x
 | [],l,h=>by injection h with h;rw[←h];exact fun x hx=>absurd hx List.not_mem_nil
 | q::ps,l,h=>by
  unfold lnR at h
  cases e:iI (s.extract q.1 q.2)with
  | none=>rw[e]at h;cases h
  | some y=>
   rw[e]at h;simp only at h
   cases e2:lnR s ps with
   | none=>rw[e2]at h;cases h
   | some l2=>
    rw[e2]at h;injection h with h;rw[←h];intro x hx;rcases List.mem_cons.1 hx with e3 | e3
    ·rw[e3];exact Sr e
    ·exact xS e2 x e3
theorem Kd {x:fM}(h:J4 x):(sT x.2.2.1:Int)=sK x.2.2.1/\sT x.2.2.1<256:=by
 have:=h.th;unfold sT sK;constructor
 ·split
  ·rfl
  ·split
   ·rfl
   ·omega
 ·split
  ·omega
  ·split<;> omega
theorem Nz {x:fM}(h:J4 x){c:Nat}{be:Int}(hb:be=sK x.2.2.1){z:Int}:wY (x.1,be,z) c=jR (jR c x.2.1) (cH x.2.2.1):=by
 obtain⟨h0,h3,ha,hl,ht⟩:=h;obtain⟨f,last,cc,r⟩:=x;simp only at h0 h3 ha hl ht hb ⊢;obtain⟨n,rfl⟩:∃n:Nat,last=(n:Int):=⟨last.toNat,by omega⟩
 rw[bT]at ha;have hn:n<4:=by omega
 have hc:oZ f 4 c=max c (n+1):=by
  obtain⟨k1,k2,k3⟩:=Z6 f 4 c;have k4:=k3 n hn ha;have:∀k,k<=4->oZ f k c<=max c (n+1):=by
   intro k
   induction k with
   | zero=>intro _;rw[oZ];omega
   | succ k ih=>
    intro hk;have:=ih (by omega);rw[oZ];split
    ·rename_i hh;have:=hl k hh.1;omega
    ·exact this
  have:=this 4 (bN _);omega
 unfold wY;simp only;rw[hc,hb];unfold sK jR cH;rcases ht with e | e | e
 ·subst e;simp only[if_true]
  repeat' split
  all_goals omega
 ·subst e;simp only[if_true]
  repeat' split
  all_goals omega
 ·rw[if_neg (show¬cc=46 by omega),if_neg (show¬cc=45 by omega),if_pos e]
  repeat' split
  all_goals omega
theorem A5:∀(ls:List fM) (rules:List ((Nat->Bool)×Int×Int)) (c c':Nat),(∀y∈ls,J4 y)->rules.map (fun x=>(x.1,x.2.1))=(ls.map toX).map (fun x=>(x.1,x.2.1))->(c=c'\/(ls≠ []/\c=1/\c'=0))->
  bJ rules c=ls.foldl (fun c x=>jR (jR c x.2.1) (cH x.2.2.1)) c'
 | [],rules,c,c',_,hr,hc=>by
  have:rules= []:=by cases rules with
   | nil=>rfl
   | cons a b=>cases hr
  subst this;rcases hc with e | e
  ·rw[e];rfl
  ·exact absurd rfl e.1
 | y::ls,rules,c,c',hl,hr,hc=>by
  cases rules with
  | nil=>cases hr
  | cons a rules=>
   rw[a9,a9,a9]at hr;injection hr with h1 h2;injection h1 with h3 h4;obtain⟨f,be,z⟩:=a;have h3:f=y.1:=h3;have h4:be=sK y.2.2.1:=h4;have hy:=hl y bS;rw[bJ,List.foldl_cons];refine A5 ls rules _ _ (fun y hy=>hl y (bO _ hy)) h2 (.inl ?_);rw[h3,Nz hy h4];rcases hc with e | ⟨_,e1,e2⟩
   ·rw[e]
   ·subst e1 e2;have:=hy.l0;congr 1;unfold jR;rw[if_pos (show((0:Nat):Int)<=y.2.1 by omega)];split<;> omega
theorem Ws {t:ByteArray}{ls:List fM}(h:lnR t (fC t 10)=some ls)(hx:oN t=some (ls.map toX))(hn:npS ls<=10):cnS ls=aU (ls.map toX):=by
 have hru:=(U9 (ls.map toX) (by rw[xB];exact hn)).2;have h0:=(lY hx).2.1;unfold aU cnS;refine(A5 ls _ 1 0 (xS h) hru (.inr ⟨fun e=> ?_,rfl,rfl⟩)).symm;rw[e]at h0;simp at h0
end Go.Proofs.YtgjgjgihceijnaaGreat
namespace Go.Proofs.YtgjgjgihceijnaaGreat
open Go.RowKit Go.Stn
theorem D2.rtab {w0:World}{O:Nat->Nat}{N:List RN}{R:List RV}{ls:List fM}(hr:RuM w0 O N R ls){c n:Nat}{of:Nat->Int}{tr:Nat->Nat->Int}(h:D2 N (gG c 0 R) n of tr):uQ (ls.map toX) c n (mkF of) tr:=
 ⟨h.1,by unfold mkF;rw[h.2.2.1];rfl,fun b u hl=>(h.2.2.2 b u hl).tok hr⟩
theorem Wa {ls:List fM}:(ls.map (fun x=>x.2.2.2.np)).sum=npS ls:=by
 induction ls with
 | nil=>rfl
 | cons x r ih=>rw[a9,List.sum_cons,ih];rfl
theorem Sq {w0:World}{O:Nat->Nat}{L:List NV}{R:List RV}{ls:List fM}(hr:RuM w0 O (nvN L) R ls)(ho:OkN L (npS ls))(hc:aN (nvN L))(h8:ls.length<=8)(hn:npS ls<=10)(h3:L.length<=3000):eC (nvN L) (R.map RV.n) (ls.map (fun x=>x.2.2.2.np)):=by
 refine⟨ho.1,hc,by rw[bK,bK,hr.1],fun r n k h1 h2=> ?_,by rw[Wa];exact hn,by rw[bK,hr.1];exact h8,by rw[dQ];exact h3⟩;rw[aT]at h1 h2
 cases e1:R[r]? with
 | none=>rw[e1]at h1;cases h1
 | some x=>
  cases e2:ls[r]? with
  | none=>rw[e2]at h2;cases h2
  | some y=>
   rw[e1]at h1;rw[e2]at h2;injection h1 with h1;injection h2 with h2;obtain⟨_,_,_,k4⟩:=hr.2 r x y e1 e2;rw[←h1,←h2];exact⟨k4.1,k4.2.2⟩
end Go.Proofs.YtgjgjgihceijnaaGreat
