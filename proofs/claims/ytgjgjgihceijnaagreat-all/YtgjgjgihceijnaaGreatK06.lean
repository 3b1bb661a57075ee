import Derived.Test.YtgjgjgihceijnaaGreatK05
open Go.RowKit renaming Hid->QO
open Go renaming wpList_load_mid->QP,maxLen->QQ,Calls->QR
open List renaming getElem?_eq_getElem->LD,getElem?_eq_some_iff->LH,length_map->LJ,getD_eq_getElem?_getD->LK,map_cons->LM,getElem?_map->LO,mem_of_getElem?->LP,getElem?_append_right->LR,getElem?_append_left->LS,getElem_mem->LU,not_mem_nil->LY,map_append->MA,mem_cons_of_mem->MB,mem_cons->MC,mem_cons_self->MD
open Go.World renaming cell?_alloc_at->LF,cell?_of_block->LQ
open Classical renaming byContradiction->LG
open Nat renaming le_succ->LI,le_of_lt->LZ,strongRecOn->MG,le_trans->MH
open Go.Proofs.Tryz renaming prog->LN
open Int renaming toNat_natCast->ME
open Option renaming getD_some->MF
open Go.Proofs.Tryz
set_option maxRecDepth 100000
set_option maxHeartbeats 8000000
namespace Go.Stn
open Go.Proofs.YtgjgjgihceijnaaGreat (rQ zD vC pP pC)
variable {K K' c n:Nat}
theorem Kw{D o:Nat->Nat}{fb C:Nat->Nat}
  (U:∀j,j<K->fb j<256/\D (fb j)=j) (h2:∀b,b<256->fb (D b)<=b) (h3:∀j F,j<F->F<K->fb j<fb F) (h4:∀b,b<256->D b<K)
  (Z:∀j,j<K'->C j<256/\o (C j)=j) (k2:∀b,b<256->C (o b)<=b) (k3:∀j F,j<F->F<K'->C j<C F) (k4:∀b,b<256->o b<K')
  (he:∀b Q,b<256->Q<256->(D b=D Q↔o b=o Q)):∀j,j<K->j<K'/\fb j=C j:=by
 intro j
 induction j using MG with
 | ind j ih=>
  intro hj;obtain⟨x1,x2⟩:=U j hj;have hn:∀i,i<j->o (fb j)≠i:=λ i hi e=>by
   obtain⟨X,Y⟩:=ih i hi (by omega);obtain⟨J,y2⟩:=U i (by omega);obtain⟨z1,z2⟩:=Z i X;have:o (fb i)=o (fb j):=by rw[e,Y,z2]
   have:=(he _ _ J x1).2 this;omega
  have aL:j<=o (fb j):=by
   apply LG;intro hc;exact hn _ (by omega) rfl
  have V:=k4 (fb j) x1;have I:j<K':=by omega
  refine⟨I,?_⟩;obtain⟨J,y2⟩:=Z j I;have a1:C j<=fb j:=by
   have:=k2 (fb j) x1;by_cases e:j=o (fb j)
   ·rw[<-e]at this;exact this
   ·have:=k3 j _ (by omega) V;omega
  have a2:fb j<=C j:=by
   have b1:=h2 (C j) J;have b2:=h4 (C j) J;by_cases e:D (C j)<j
   ·obtain⟨X,Y⟩:=ih _ e b2;obtain⟨c1,c2⟩:=U _ b2;have:=(he _ _ c1 J).1 c2;rw[Y,(Z _ X).2,y2]at this;omega
   ·by_cases e2:j=D (C j)
    ·rw[<-e2]at b1;exact b1
    ·have:=h3 j _ (by omega) b2;omega
  omega
theorem i8{C o:Nat->Nat}{fb D:Nat->Nat}
  (U:∀j,j<K->fb j<256/\C (fb j)=j) (Y:∀b,b<256->fb (C b)<=b) (Z:∀j F,j<F->F<K->fb j<fb F) (J:∀b,b<256->C b<K)
  (X:∀j,j<K'->D j<256/\o (D j)=j) (k2:∀b,b<256->D (o b)<=b) (k3:∀j F,j<F->F<K'->D j<D F) (k4:∀b,b<256->o b<K')
  (V:∀b Q,b<256->Q<256->(C b=C Q↔o b=o Q)):K=K'/\(∀b,b<256->C b=o b)/\∀j,j<K->fb j=D j:=by
 have a:=Kw U Y Z J X k2 k3 k4 V;have b:=Kw X k2 k3 k4 U Y Z J (λ x y I hy=>(V x y I hy).symm);refine⟨?_,λ x I=>?_,λ j hj=>(a j hj).2⟩
 ·rcases Nat.lt_trichotomy K K' with h|h|h
  ·have:=(b K h).1;omega
  ·exact h
  ·have:=(a K' h).1;omega
 ·obtain⟨a1,a2⟩:=a _ (J x I);obtain⟨c1,c2⟩:=U _ (J x I);have:=(V _ _ c1 I).1 c2;rw[a2,(X _ a1).2]at this;exact this
structure DJ(l l':List gX):Prop where
 len:l.length=l'.length
 cn:gU l=gU l'
 be:∀(i:Nat)(x x':gX),l[i]?=some x->l'[i]?=some x'->x.2.1=x'.2.1
 tok:∀c w v,G9 l c w v↔G9 l' c w v
theorem Wh{x y:Nat}(h:oL x=oL y):x=y:=by
 unfold oL at h;split at h<;>split at h<;>omega
theorem Vg{s o:tB}(C:s.size=o.size)(h:∀i,i<s.size->bt s i=bt o i):s=o:=by
 obtain⟨d⟩:=s;obtain⟨F⟩:=o;congr 1;have C:d.size=F.size:=C;refine Array.ext C (λ i D I=>?_);have:=h i D;unfold bt at this;simp only at this;rw[LK,LK,LD (by simpa using D),LD (by simpa using I)]at this;simp only[MF,Array.getElem_toList]at this;exact UInt8.toNat_inj.1 this
theorem t7{l l':List gX}{s o:tB}(X:DJ l l')(h:xA l s)(J:xA l' o):s=o:=by
 have hR:iR s=iR o:=by rw[h.fr,J.fr,X.len]
 have hM:iM s=iM o:=by rw[h.fm,J.fm,X.cn]
 have C:∀c,c<gU l->qZ s c=qZ o c/\(∀p,p<qZ s c->jM s c p=jM o c p)/\∀p b,p<qZ s c->b<256->iA s c p b=iA o c p b:=λ c D=>by
  have Z:c<gU l':=by rw[<-X.cn];exact D
  obtain⟨a1,a2,a3⟩:=M9 (h.cn c D) (J.cn c Z) (λ w hw=>by
   cases w with
   | nil=>exact(h.z c D).trans (J.z c Z).symm
   | cons b u=>exact U3 (h.tok c D b u hw) ((X.tok _ _ _).2 (J.tok c Z b u hw)))
  exact⟨a1,a2,λ p b F V=>Wh (a3 p b F V)⟩
 have cP:iM s=gU l:=h.fm;obtain⟨_,_,_,_,_,g6⟩:=mM.1 h.ok;obtain⟨_,_,_,_,_,k6⟩:=mM.1 J.ok;have ga:=pJ.1 (mM.1 h.ok).1;have ka:=pJ.1 (mM.1 J.ok).1;have bK:∀c p,c<gU l->p<qZ s c->p<qZ o c:=λ c p D F=>by rw[<-(C c D).1];exact F
 obtain⟨fb,f1,f2,f3⟩:=h.cl;obtain⟨cN,bN,bO,bS⟩:=J.cl;have bM:∀(l:List gX)(s:tB),xA l s->∀b Q,b<256->Q<256->(tK s b=tK s Q↔∀c p,c<gU l->p<qZ s c->iA s c p b=iA s c p Q):=λ l s h b Q V I=>by
  constructor
  ·intro e c p _ _;unfold iA;rw[e]
  ·intro e;apply LG;intro cF;obtain⟨c,p,D,F,hh⟩:=h.ca _ _ (wK h.ok b V) (wK h.ok Q I) cF;exact hh (e c p D F)
 obtain⟨hK,aR,eL⟩:=i8 f1 f2 f3 (wK h.ok) bN bO bS (wK J.ok) (λ b Q V I=>by
  rw[bM l s h b Q V I,bM l' o J b Q V I];constructor
  ·intro e c p D F;have U:c<gU l:=by rw[X.cn];exact D
   have aL:p<qZ s c:=by rw[(C c U).1];exact F
   rw[<-(C c U).2.2 p b aL V,<-(C c U).2.2 p Q aL I];exact e c p U aL
  ·intro e c p D F;rw[(C c D).2.2 p b F V,(C c D).2.2 p Q F I];exact e c p (by rw[<-X.cn];exact D) (bK c p D F))
 have Y:∀c,c<=iM s->pE s c=pE o c:=by
  intro c
  induction c with
  | zero=>intro _;show 262+iR s=262+iR o;rw[hR]
  | succ c ih=>
   intro D;have e:=ih (by omega);rw[(B3 (B5 h.ok (by omega))).1,(B3 (B5 J.ok (by omega))).1];have:bt s (pE s c)=bt o (pE o c):=(C c (by omega)).1;rw[this,e,hK]
 have bC:∀c p,c<iM s->qC s c p=qC o c p:=λ c p D=>by unfold qC;rw[Y c (by omega),hK]
 have hz:s.size=o.size:=by rw[<-g6,<-k6,<-hM,Y _ lR]
 have aW:∀c p j,c<iM s->p<qZ s c->j<iK s->bt s (qC s c p+1+j)=bt o (qC o c p+1+j):=λ c p j D F hj=>by
  obtain⟨a1,a2⟩:=f1 j hj;have:=(C c (by omega)).2.2 p (fb j) F a1;unfold iA at this;rw[<-aR (fb j) a1,a2]at this;exact this
 have aO:∀d,d<=iM s->∀i,i<pE s d->bt s i=bt o i:=by
  intro d
  induction d with
  | zero=>
   intro _ i hi;have hi:i<262+iR s:=hi;by_cases h1:i<4
   ·have e3:bt s 3=bt o 3:=hR;obtain⟨_,⟨a0,a1,a2⟩,_⟩:=ga;obtain⟨_,⟨b0,b1,b2⟩,_⟩:=ka;have:i=0\/i=1\/i=2\/i=3:=by omega
    rcases this with e|e|e|e<;>subst e<;>omega
   ·by_cases h2:i<4+iR s
    ·obtain⟨k,rfl⟩:∃k,i=4+k:=⟨i-4,by omega⟩
     have hk:k<l.length:=by have:=h.fr;omega
     have aT:k<l'.length:=by rw[<-X.len];exact hk
     have e1:=h.fb k _ (LD hk);have e2:=J.fb k _ (LD aT);have e3:=X.be k _ _ (LD hk) (LD aT);unfold nC at e1 e2;omega
    ·by_cases h3:i=4+iR s
     ·have e:bt s (4+iR s)=bt o (4+iR o):=hM;rw[h3,e,hR]
     ·by_cases h4:i=5+iR s
      ·have e:bt s (5+iR s)+1=bt o (5+iR o)+1:=hK;rw[h4];rw[hR]at e ⊢;omega
      ·obtain⟨k,rfl⟩:∃k,i=6+iR s+k:=⟨i-6-iR s,by omega⟩
       have:=aR k (by omega);unfold tK at this;rw[this,hR]
  | succ d ih=>
   intro hd i hi;by_cases h1:i<pE s d
   ·exact ih (by omega) i h1
   ·rw[(B3 (B5 h.ok (by omega))).1]at hi;by_cases h2:i=pE s d
    ·have e:bt s (pE s d)=bt o (pE o d):=(C d (by omega)).1;rw[h2,e,Y d (by omega)]
    ·obtain⟨k,rfl⟩:∃k,i=pE s d+1+k:=⟨i-pE s d-1,by omega⟩
     have hk:k<bt s (pE s d)*(1+iK s):=by omega
     have F:k/(1+iK s)<qZ s d:=(Nat.div_lt_iff_lt_mul (by omega)).2 hk;have bT:=Nat.div_add_mod k (1+iK s);have eM:=Nat.mod_lt k (show 0<1+iK s by omega);rw[Nat.mul_comm]at bT;by_cases h3:k%(1+iK s)=0
     ·have e:=(C d (by omega)).2.1 _ F;unfold jM at e;rw[<-bC d _ (by omega)]at e;rw[show pE s d+1+k=qC s d (k/(1+iK s)) by unfold qC;omega];exact e
     ·have e:=aW d _ (k%(1+iK s)-1) (by omega) F (by omega);rw[<-bC d _ (by omega)]at e;rw[show pE s d+1+k=qC s d (k/(1+iK s))+1+(k%(1+iK s)-1) by unfold qC;omega];exact e
 exact Vg hz (λ i hi=>aO (iM s) lR i (by rw[g6];exact hi))
section
theorem FM:∀(m n:Nat)(f:Nat->Nat),(∀i,i<n->f i<m)->m<n->∃i j,i<j/\j<n/\f i=f j:=by
 intro m
 induction m with
 | zero=>intro n f h I;have:=h 0 I;omega
 | succ m ih=>
  intro n f h I;obtain⟨k,rfl⟩:∃k,n=k+1:=⟨n-1,by omega⟩
  by_cases e:∃i,i<k/\f i=f k
  ·obtain⟨i,C,D⟩:=e;exact⟨i,k,C,by omega,D⟩
  ·obtain⟨i,j,C,D,F⟩:=ih k (λ i=>if f i=m then f k else f i) (λ i hi=>by
    have J:=h i (by omega);have Q:=h k (by omega);have U:f i≠f k:=λ o=>e ⟨i,hi,o⟩
    show(if f i=m then f k else f i)<m;split<;>omega) (by omega)
   refine⟨i,j,C,by omega,?_⟩;have hi:f i≠f k:=λ o=>e ⟨i,by omega,o⟩
   have V:f j≠f k:=λ o=>e ⟨j,by omega,o⟩
   split at F<;>split at F<;>omega
section
variable {l:List gX}{c:Nat}{A:Nat->Nat->Bool}{aG:Nat->Int}{aP:Int}{la G:List Int}{of_:Nat->Nat}
theorem nK.text(h:nK l c A aG aP la G of_):∀q,q<wY aG aP G->∃u,lF 256 u/\sI (wZ aG aP G) 0 (u.map of_)=some q/\(q=0->u=[]):=by
 intro q
 induction q using MG with
 | ind q ih=>
  intro J;by_cases o:q=0
  ·subst o;exact⟨[],wM _,rfl,λ _=>rfl⟩
  ·obtain⟨p,g,D,F,I⟩:=(V9 aG aP G).d2 q (by omega) J;obtain⟨u,Q,U,_⟩:=ih p D (by omega);obtain⟨b,C,b2⟩:=h.gn g F;refine⟨u++[b],B7 Q (Lw C),?_,λ e=>absurd e o⟩;rw[MA,LM,List.map_nil,X7 U,b2,aA (by omega),I]
   rfl
end
end
structure G1(l:List gX)(c n:Nat)(mk:Nat->Nat)(tr:Nat->Nat->Int):Prop where
 cn:uE n 256 mk tr
 z:mk 0=0
 tok:∀b u,lF 256 (b::u)->G9 l c (b::u) (jN mk tr 0 (b::u))
theorem G1.text{l:List gX}{mk:Nat->Nat}{tr:Nat->Nat->Int}(h:G1 l c n mk tr){p:Nat}(D:p<n):∃u,lF 256 u/\sI tr 0 u=some p:=by
 obtain⟨u,o,C,_⟩:=V4 h.cn h.cn (λ _ _=>rfl) p D;exact⟨u,o,C⟩
theorem t8{l:List gX}{w:List Nat}{v:Nat}(h:G9 l c w v):v<=l.length:=by
 rcases h with⟨h,_⟩|⟨r,x,C,o,_⟩
 ·omega
 ·have:=(LH.1 o).1;omega
theorem G1.le{l:List gX}{mk:Nat->Nat}{tr:Nat->Nat->Int}(h:G1 l c n mk tr){p:Nat}(D:p<n):mk p<=l.length:=by
 obtain⟨u,C,o⟩:=h.text D
 cases u with
 | nil=>
  rw[sI]at o;injection o with o;rw[<-o,h.z];omega
 | cons b u=>
  have:=t8 (h.tok b u C);unfold jN at this;rw[o]at this;exact this
theorem G1.same{l:List gX}{F:Nat}{mk mk':Nat->Nat}{tr o:Nat->Nat->Int}(h:G1 l c n mk tr)(C:G1 l c F mk' o):n=F/\(∀p,p<n->mk p=mk' p)/\∀p b,p<n->b<256->tr p b=o p b:=
 M9 h.cn C.cn (λ w D=>by
  cases w with
  | nil=>exact h.z.trans C.z.symm
  | cons b u=>exact U3 (h.tok b u D) (C.tok b u D))
theorem xA.tab{l:List gX}{s:tB}(h:xA l s){c:Nat}(o:c<gU l):G1 l c (qZ s c) (jM s c) (λ p b=>oL (iA s c p b)):=⟨h.cn c o,h.z c o,h.tok c o⟩
theorem BP{l:List gX}(hl:∀x∈l,tD x)(hn:mW l<=10){c Y:Nat}{mk':Nat->Nat}{C:Nat->Nat->Int}(hc:c<gU l)(h':G1 l c Y mk' C)(bN:Y<=100):¬E0 l c:=by
 intro hm;have aO:c<4:=by have:=(vZ l hl hn).2.1;omega
 have o:=Kz l hl hn c aO;have aL:=Dm (rQ (fW jX l).aV) (pU l c) (lJ l);have bK:=V9 (rQ (fW jX l).aV) (pU l c) (lJ l);have U:=o.lively;have bM:=o.text;have V:∀w,lF 256 w->jN (G6 (rQ (fW jX l).aV) (pU l c) (vC (fW jX l).aV (fW jX l).aX) (lJ l)) (wZ (rQ (fW jX l).aV) (pU l c) (lJ l)) 0 (w.map (De l))=jN mk' C 0 w:=λ w hw=>by
  cases w with
  | nil=>exact o.zero.trans h'.z.symm
  | cons b u=>exact U3 (o.tok b u hw) (h'.tok b u hw)
 have aR:=o.gn;have bO:=o.gl;unfold E0 at hm;generalize G6 (rQ (fW jX l).aV) (pU l c) (vC (fW jX l).aV (fW jX l).aX) (lJ l)=tk at*;generalize wY (rQ (fW jX l).aV) (pU l c) (lJ l)=n at*;generalize wZ (rQ (fW jX l).aV) (pU l c) (lJ l)=nx at*;have D:=h'.cn;obtain⟨f,r,Q,aW⟩:=hm;have I:∀z,lF (lJ l).length z->∃w,lF 256 w/\w.map (De l)=z:=λ z=>by
  induction z with
  | nil=>intro _;exact⟨[],wM _,rfl⟩
  | cons g z ih=>
   intro I;obtain⟨w,w1,w2⟩:=ih (λ x hx=>I x (MB _ hx));obtain⟨b,b1,b2⟩:=aR g (I g MD);exact⟨b::w,pK b1 w1,by rw[LM,b2,w2]⟩
 have F:∀q,q<n->∃p,p<Y/\∀z,lF 256 z->jN tk nx q (z.map (De l))=jN mk' C p z:=λ q X=>by
  obtain⟨u,u1,u2,u3⟩:=bM q X
  cases e:sI C 0 u with
  | some p=>
   refine⟨p,vW D.au u 0 p D.au.pos u1 e,λ z I=>?_⟩;have:=V (u++z) (B7 u1 I);rw[MA,C3 u2,C3 e]at this;exact this
  | none=>
   exfalso;by_cases h0:q=0
   ·rw[u3 h0,sI]at e;cases e
   ·obtain⟨p,g,h1,J,h3⟩:=bK.d2 q (by omega) X;obtain⟨z,z1,Z⟩:=U p g (by omega) J (by omega);rw[h3,ME]at Z;obtain⟨w,w1,w2⟩:=I z z1;have:=V (u++w) (B7 u1 w1);rw[MA,C3 u2,w2]at this;have bC:jN mk' C 0 (u++w)=0:=by
     unfold jN;rw[R6,e]
    rw[bC]at this;exact Z this
 have hg:∃g:Nat->Nat,∀q,q<n->g q<Y/\∀z,lF 256 z->jN tk nx q (z.map (De l))=jN mk' C (g q) z:=
  ⟨λ q=>if h:q<n then Classical.choose (F q h)else 0,λ q X=>by simp only[dif_pos X];exact Classical.choose_spec (F q X)⟩
 obtain⟨g,hg⟩:=hg;obtain⟨i,j,h1,J,h3⟩:=FM 100 101 (λ i=>g (f i)) (λ i hi=>by have:=(hg (f i) (Q i hi)).1;omega) (by omega);have aT:=aW i j (by omega) J (by omega);obtain⟨z,z1,Z⟩:=Eg aL U r (f i) (f j) (Q i (by omega)) (Q j J) aT;obtain⟨w,w1,w2⟩:=I z z1;refine Z ?_;rw[<-w2,(hg (f i) (Q i (by omega))).2 w w1,(hg (f j) (Q j J)).2 w w1,h3]
theorem BL{t:tB}(I:kB t=0){l:List gX}(F:vE t=some l){c n:Nat}{mk:Nat->Nat}{tr:Nat->Nat->Int}(D:c<gU l)(h:G1 l c n mk tr)(hn:100<n):pC t=([],4):=by
 rcases J2 t with⟨C,_⟩|⟨_,Y,o,J,C|⟨ls,C,X⟩⟩
 ·exact absurd I C
 ·exact C.1
 ·rw[F]at o;injection o with o;subst o;obtain⟨Q,U,V⟩:=wL F;have hi:=Lo Q U V J C;have e:=(h.same (hi.tab D)).1;have:=(K5 hi.ok (c:=c) (by rw[hi.fm];exact D)).1;omega
def BQ(l:List gX):List ((Nat->Bool)×Int×Int):=l.map (λ x=>(x.1,x.2.1,0))
theorem F6(l:List gX):(BQ l).length=l.length:=by unfold BQ;rw[LJ]
theorem Rt{l:List gX}(o:∀x∈l,tD x){i:Nat}{x:gX}(C:l[i]?=some x):(tG (BQ l) i:Int)=x.2.1:=by
 unfold tG BQ;rw[LK,LO,LO,C];simp only[Option.map_some,MF];have:=(o x (LP C)).b0;omega
theorem BK{l:List gX}{ns:Nat->Nat}{mk:Nat->Nat->Nat}{tr:Nat->Nat->Nat->Int}(aT:∀x∈l,tD x)(h1:0<l.length)(h8:l.length<=8)(hn:mW l<=10)(Z:∀c,c<gU l->G1 l c (ns c) (mk c) (tr c))(bC:∀c,c<gU l->ns c<=100){s0:tB}(h0:xA l s0):
  xA l ⟨(Jx (BQ l) (gU l) 256 (λ b=>b) ns mk tr).toArray⟩:=by
 obtain⟨m1,m4,mb,_⟩:=vZ l aT hn;have X:∀c st g,c<gU l->st<ns c->g<256->tr c st g= -1\/(0<=tr c st g/\tr c st g<(ns c:Int)):=λ c st g o J hg=>(Z c o).cn.au.rng st g J hg
 have I:∀c,c<gU l->1<=ns c/\ns c<=100:=λ c o=>⟨(Z c o).cn.au.pos,bC c o⟩
 have F:=Ek (BQ l) (gU l) 256 (λ b=>b) ns mk tr (by rw[F6];omega) (by rw[F6];omega) m1 m4 (by omega) (by omega) (λ i hi=>by
   rw[F6]at hi;have e:=Rt aT (LD hi);have:=mb l[i] (LU hi);omega) (λ b U=>U) I (λ c st o J=>by
   rw[F6];exact(Z c o).le J) X
 rw[F6]at F;have C:=Jl 256 ns tr (gU l);generalize (⟨(Jx (BQ l) (gU l) 256 (λ b=>b) ns mk tr).toArray⟩:tB)=s at*;generalize hk:(mU 256 (mJ ns tr (gU l))).2.length=k at*;generalize (mU 256 (mJ ns tr (gU l))).2=fi at*;generalize (mU 256 (mJ ns tr (gU l))).1=cs at*;have aW:∀c st g,c<gU l->st<ns c->g<256->tr c st (fi.getD (cs.getD g 0) 0)=tr c st g:=λ c st g o J hg=>by
  have Q:=C.lt g hg;obtain⟨f1,f2⟩:=C.fi1 _ Q;have:=(C.eq _ g f1 hg).1 f2;exact rG.1 this c o st J
 have V:∀c st b,c<gU l->st<ns c->b<256->oL (iA s c st b)=tr c st b:=λ c st b o J U=>by
  unfold iA;rw[F.fc b U,F.fl c st _ o J (C.lt _ U),aW c st _ o J U];exact qH (I c o).2 (X c st _ o J U)
 have aO:∀c,c<gU l->∀b u,lF 256 (b::u)->jN (jM s c) (λ p b=>oL (iA s c p b)) 0 (b::u)=jN (mk c) (tr c) 0 (b::u):=λ c o b u eL=>
  (zE (Z c o).cn.au (λ p D=>(F.ft c p o D).symm) (λ p b D U=>(V c p b o D U).symm) (b::u) 0 (I c o).1 eL).symm
 have bS:∀c,c<gU l->qZ s0 c=ns c/\(∀p,p<ns c->jM s0 c p=mk c p)/\∀p b,p<ns c->b<256->oL (iA s0 c p b)=tr c p b:=λ c o=>by
  obtain⟨a1,a2,a3⟩:=(Z c o).same (h0.tab o);exact⟨a1.symm,λ p D=>(a2 p D).symm,λ p b D U=>(a3 p b D U).symm⟩
 refine⟨F.ok,?_,F.fr,F.fm,λ i x hx=>?_,λ c o=>?_,λ c o=>?_,λ c o b u bN=>?_,λ c o=>?_,?_,λ j j' Q Y aR=>?_⟩
 ·rw[F.fz];have:∀d,d<=gU l->rS ns k d<=d*25801:=by
   intro d
   induction d with
   | zero=>intro _;exact zL
   | succ e ih=>
    intro he;have h1:=ih (by omega);have h2:=Nat.mul_le_mul (I e (by omega)).2 (show 1+k<=257 by have:=C.le;omega);rw[rS,Nat.succ_mul];omega
  have h2:=this (gU l) lR;have h3:=Nat.mul_le_mul_right 25801 m4;omega
 ·rw[F.fb i (LH.1 hx).1];exact Rt aT hx
 ·rw[F.fn c o];exact(Z c o).cn.congr (λ p D=>(F.ft c p o D).symm) (λ p b D U=>(V c p b o D U).symm)
 ·rw[F.ft c 0 o (I c o).1];exact(Z c o).z
 ·rw[aO c o b u bN];exact(Z c o).tok b u bN
 ·obtain⟨o1,o2,o3⟩:=bS c o;obtain⟨r,hr,bK⟩:=h0.apr c o;obtain⟨fb,aL,eM,eN⟩:=h0.cl;rw[o1]at hr bK;rw[F.fn c o];refine⟨r,hr,λ p q D hq aR hE=>bK p q D hq aR ?_⟩;have bT:oT (ns c) (iK s0) (λ p j=>oL (bt s0 (qC s0 c p+1+j))):=⟨(I c o).1,λ p j D Q=>by
   obtain⟨b1,b2⟩:=aL j Q;have:=o3 p (fb j) D b1;unfold iA at this;rw[b2]at this;rw[this];exact X c p _ o D b1⟩
  have cF:oT (ns c) (iK s) (λ p j=>oL (bt s (qC s c p+1+j))):=⟨(I c o).1,λ p j D Q=>by
   rw[F.fk]at Q;rw[F.fl c p j o D Q,qH (I c o).2 (X c p _ o D (C.fi1 j Q).1)];exact X c p _ o D (C.fi1 j Q).1⟩
  have cN:=sY.congr cF (λ p D=>(F.ft c p o D).trans (o2 p D).symm) (λ p j _ _=>rfl) r p q D hq hE;refine sY.letters bT (λ g hg=>⟨tK s (fb g),wK F.ok (fb g) (aL g hg).1,λ p D=>?_⟩) r p q D hq cN;obtain⟨b1,b2⟩:=aL g hg;have e1:=o3 p (fb g) D b1;have e2:=V c p (fb g) o D b1;unfold iA at e1 e2;rw[b2]at e1;exact e1.trans e2.symm
 ·refine⟨λ j=>fi.getD j 0,λ j Q=>?_,λ b U=>?_,λ j j' Q Y=>?_⟩
  ·rw[F.fk]at Q;obtain⟨f1,f2⟩:=C.fi1 j Q;exact⟨f1,(F.fc _ f1).trans f2⟩
  ·rw[F.fc b U];exact C.fi2 b U
  ·rw[F.fk]at Y;exact C.fi3 j j' Q Y
 ·rw[F.fk]at Q Y;obtain⟨f1,f2⟩:=C.fi1 j Q;obtain⟨f3,f4⟩:=C.fi1 j' Y;have cP:¬mJ ns tr (gU l) (fi.getD j 0) (fi.getD j' 0)=true:=λ e=>by
   have:=(C.eq _ _ f1 f3).2 e;exact aR (f2.symm.trans (this.trans f4))
  apply LG;intro bM;refine cP (rG.2 (λ c o p D=>?_));apply LG;intro bO;refine bM ⟨c,p,o,by rw[F.fn c o];exact D,λ e=>bO ?_⟩;rw[F.fl c p j o D Q,F.fl c p j' o D Y]at e;have e:=congrArg oL e;rw[qH (I c o).2 (X c p _ o D f1),qH (I c o).2 (X c p _ o D f3)]at e;exact e
theorem FZ{t:tB}(Y:kB t=0){l:List gX}(I:vE t=some l){ns:Nat->Nat}{mk:Nat->Nat->Nat}{tr:Nat->Nat->Nat->Int}(U:∀c,c<gU l->G1 l c (ns c) (mk c) (tr c))(C:∀c,c<gU l->ns c<=100):
  pC t=(Jx (BQ l) (gU l) 256 (λ b=>b) ns mk tr,0):=by
 obtain⟨Q,V,X⟩:=wL I;rcases J2 t with⟨D,_⟩|⟨_,l',o,J,D|⟨ls,D,Z⟩⟩
 ·exact absurd Y D
 ·rw[I]at o;injection o with o;subst o;obtain⟨_,c,F,hm⟩:=D;exact absurd hm (BP Q J F (U c F) (C c F))
 ·rw[I]at o;injection o with o;subst o;have hi:=Lo Q V X J D;have hr:=BK Q V X J U C hi;have e:=t7 ⟨rfl,rfl,λ i x x' a b=>by rw[a]at b;injection b with b;rw[b],λ _ _ _=>Iff.rfl⟩ hi hr;rw[Z];injection e with e;have e:=congrArg Array.toList e;simp only at e;rw[e]
end Go.Stn
namespace Go.Proofs.YtgjgjgihceijnaaGreat
open Go.Stn
variable {B n c:Nat}
structure Bi(x:mR):Prop where
 l0:0<=x.2.1
 l3:x.2.1<=3
 at_:x.1 x.2.1.toNat=true
 le:∀j:Nat,x.1 j=true->(j:Int)<=x.2.1
 th:x.2.2.1=46\/x.2.2.1=45\/(65<=x.2.2.1/\x.2.2.1<69)
theorem j8(c:Nat): -1<=jS c/\jS c<=3:=by
 unfold jS;split<;>omega
theorem N5{x:tB}:∀(n:Nat)(f:Nat->Bool)(aZ:Int)(i:Nat)(g:Nat->Bool)(l:Int),oD x n f aZ i=some (g,l)-> -1<=aZ->aZ<=3->(∀j:Nat,f j=true->(j:Int)<=aZ)->(0<=aZ->f aZ.toNat=true)->
  aZ<=l/\l<=3/\(∀j:Nat,g j=true->(j:Int)<=l)/\(0<=l->g l.toNat=true)/\(i<x.size->0<=l)
 | 0,f,aZ,i,g,l,h,_,_,_,_=>by unfold oD at h;cases h
 | n+1,f,aZ,i,g,l,h,h0,h3,hf,ha=>by
  by_cases hi:x.size<=i
  ·rw[zZ hi]at h;injection h with h;injection h with F I;subst F I;exact⟨Int.le_refl _,h3,hf,ha,λ h=>by omega⟩
  ·by_cases o:jS (bt x i)<=aZ
   ·rw[yZ (by omega) o]at h;cases h
   ·rw[A5 (by omega) o]at h;have D:=j8 (bt x i);obtain⟨V,J,Q,U,X⟩:=N5 n _ _ _ g l h D.1 D.2 (λ j C=>by
     by_cases e:(j:Int)=jS (bt x i)
     ·omega
     ·simp only[aA e]at C;have:=hf j C;omega) (λ h=>by rw[aB (by omega)])
    exact⟨by omega,J,Q,U,λ _=>by omega⟩
theorem EY{s:tB}{x:mR}(h:oF s=some x):Bi x:=by
 unfold oF at h;split at h
 ·rename_i Y Z D _;unfold zF at h;split at h
  ·cases h
  ·rename_i V;split at h
   ·cases h
   ·rename_i f aZ hg;split at h
    ·cases h
    ·rename_i C;split at h
     ·cases h
     ·rename_i r a _;split at h
      ·injection h with h;subst h;obtain⟨X,I,J,Q,o⟩:=N5 _ _ _ _ _ _ hg (by omega) (by omega) (λ j F=>by cases F) (λ h=>by omega);have o:=o (by omega);refine⟨o,I,Q o,J,?_⟩;unfold jS at C;show bt _ 0=46\/bt _ 0=45\/(65<=bt _ 0/\bt _ 0<69);generalize bt (s.extract D.1 D.2) 0=c at*;apply LG;intro U;refine C ⟨?_,by omega,by omega⟩;rw[aA (by omega)];omega
      ·cases h
 ·cases h
theorem Cq{s:tB}:∀{ps:List (Nat×Nat)}{l:List mR},B9 s ps=some l->∀x∈l,Bi x
 | [],l,h=>by injection h with h;rw[<-h];exact λ x C=>absurd C LY
 | q::ps,l,h=>by
  unfold B9 at h
  cases e:oF (s.extract q.1 q.2)with
  | none=>rw[e]at h;cases h
  | some y=>
   rw[e]at h;simp only at h
   cases e2:B9 s ps with
   | none=>rw[e2]at h;cases h
   | some l2=>
    rw[e2]at h;injection h with h;rw[<-h];intro x C;rcases MC.1 C with o|o
    ·rw[o];exact EY e
    ·exact Cq e2 x o
theorem GT{x:mR}(h:Bi x):(S1 x.2.2.1:Int)=D7 x.2.2.1/\S1 x.2.2.1<256:=by
 have:=h.th;unfold S1 D7;constructor
 ·split
  ·rfl
  ·split
   ·rfl
   ·omega
 ·split
  ·omega
  ·split<;>omega
theorem j6{x:mR}(h:Bi x){c:Nat}{C:Int}(F:C=D7 x.2.2.1){z:Int}:N2 (x.1,C,z) c=pS (pS c x.2.1) (jS x.2.2.1):=by
 obtain⟨Q,U,o,I,J⟩:=h;obtain⟨f,aZ,D,r⟩:=x;simp only at Q U o I J F⊢;obtain⟨n,rfl⟩:∃n:Nat,aZ=(n:Int):=⟨aZ.toNat,by omega⟩
 rw[ME]at o;have Y:n<4:=by omega
 have V:vP f 4 c=max c (n+1):=by
  obtain⟨k1,k2,Z⟩:=Ii f 4 c;have k4:=Z n Y o;have:∀k,k<=4->vP f k c<=max c (n+1):=by
   intro k
   induction k with
   | zero=>intro _;rw[vP];omega
   | succ k ih=>
    intro hk;have:=ih (by omega);rw[vP];split
    ·rename_i X;have:=I k X.1;omega
    ·exact this
  have:=this 4 lR;omega
 unfold N2;simp only;rw[V,F];unfold D7 pS jS;rcases J with e|e|e
 ·subst e;simp only[if_true]
  repeat' split
  all_goals omega
 ·subst e;simp only[if_true]
  repeat' split
  all_goals omega
 ·rw[aA (show¬D=46 by omega),aA (show¬D=45 by omega),aB e]
  repeat' split
  all_goals omega
theorem Z3:∀(ls:List mR)(aX:List ((Nat->Bool)×Int×Int)) (c o:Nat),(∀y∈ls,Bi y)->aX.map (λ x=>(x.1,x.2.1))=(ls.map G0).map (λ x=>(x.1,x.2.1))->(c=o\/(ls≠ []/\c=1/\o=0))->
  iP aX c=ls.foldl (λ c x=>pS (pS c x.2.1) (jS x.2.2.1)) o
 | [],aX,c,o,_,hr,hc=>by
  have:aX=[]:=by cases aX with
   | nil=>rfl
   | cons a b=>cases hr
  subst this;rcases hc with e|e
  ·rw[e];rfl
  ·exact absurd rfl e.1
 | y::ls,aX,c,o,hl,hr,hc=>by
  cases aX with
  | nil=>cases hr
  | cons a aX=>
   rw[LM,LM,LM]at hr;injection hr with U V;injection U with D F;obtain⟨f,I,z⟩:=a;have D:f=y.1:=D;have F:I=D7 y.2.2.1:=F;have C:=hl y MD;rw[iP,List.foldl_cons];refine Z3 ls aX _ _ (λ y C=>hl y (MB _ C)) V (.inl ?_);rw[D,j6 C F];rcases hc with e|⟨_,J,Q⟩
   ·rw[e]
   ·subst J Q;have:=C.l0;congr 1;unfold pS;rw[aB (show((0:Nat):Int)<=y.2.1 by omega)];split<;>omega
theorem KQ{t:tB}{ls:List mR}(h:B9 t (lU t 10)=some ls)(D:vE t=some (ls.map G0))(hn:Ab ls<=10):CY ls=gU (ls.map G0):=by
 have o:=(Jb (ls.map G0) (by rw[Bb];exact hn)).2;have C:=(wL D).2.1;unfold gU CY;refine(Z3 ls _ 1 0 (Cq h) o (.inr ⟨λ e=>?_,rfl,rfl⟩)).symm;rw[e]at C;simp at C
open Go.RowKit Go.Stn
theorem Az.rtab{w0:tW}{O:Nat->Nat}{N:List RN}{R:List RV}{ls:List mR}(D:Sx w0 O N R ls){c n:Nat}{o:Nat->Int}{tr:Nat->Nat->Int}(h:Az N (rC c 0 R) n o tr):G1 (ls.map G0) c n (zS o) tr:=
 ⟨h.1,by unfold zS;rw[h.2.2.1];rfl,λ b u C=>(h.2.2.2 b u C).tok D⟩
theorem JQ{ls:List mR}:(ls.map (λ x=>x.2.2.2.np)).sum=Ab ls:=by
 induction ls with
 | nil=>rfl
 | cons x r ih=>rw[LM,List.sum_cons,ih];rfl
theorem JL{w0:tW}{O:Nat->Nat}{L:List NV}{R:List RV}{ls:List mR}(D:Sx w0 O (jB L) R ls)(U:En L (Ab ls))(Q:gI (jB L))(J:ls.length<=8)(hn:Ab ls<=10)(I:L.length<=3000):mK (jB L) (R.map RV.n) (ls.map (λ x=>x.2.2.2.np)):=by
 refine⟨U.1,Q,by rw[LJ,LJ,D.1],λ r n k o C=>?_,by rw[JQ];exact hn,by rw[LJ,D.1];exact J,by rw[lB];exact I⟩;rw[LO]at o C
 cases e1:R[r]? with
 | none=>rw[e1]at o;cases o
 | some x=>
  cases e2:ls[r]? with
  | none=>rw[e2]at C;cases C
  | some y=>
   rw[e1]at o;rw[e2]at C;injection o with o;injection C with C;obtain⟨_,_,_,F⟩:=D.2 r x y e1 e2;rw[<-o,<-C];exact⟨F.1,F.2.2⟩
section
theorem dY:(Tryz.prog.info? 68).map (λ i=>(i.zero,i.size,i.bytes))=some (some (.agg #[.slice none 0 0,.slice none 0 0]),2,48):=by kernel_rfl
theorem JT{w:tW}{v:tV}{lw:List Nat}(h:w.ownsRow B 3 1 v n (kI lw))(hn:lw.length=n)(J:0<n):IL w v lw:=by
 subst hn;rcases h.2 with⟨D,I⟩|⟨g,aJ,C,rfl,_,_,o,_⟩
 ·obtain⟨a,c,e⟩:=gA h;rw[D]at e;injection e with _ e _;omega
 ·refine⟨_,aJ,rfl,o,.inr ⟨g,0,rfl,(h.lt g rfl).2,λ i m F=>?_⟩⟩;have:=h.cells (g:=g) rfl i _ (qG F);rw[oI]at this;exact this
theorem Sy.grown{w w':tW}{v1 v2:tV}{X:Nat->Int}{tr:Nat->Nat->Int}(h:Sy w v1 v2 n X tr)(hn:0<n){k m q:Nat}{a:Option Addr}(C:w.cell? ⟨k,0,none⟩=some (.slice a m q))(hm:m<=100)(hz:w.heap.size<=w'.heap.size)(I:∀j,j<w.heap.size->j≠k->w'.heap[j]?=w.heap[j]?):Sy w' v1 v2 n X tr:=by
 obtain⟨D,Y,F,Z,rw,e1,e2,⟨h1,h2,J⟩,Q,U,V⟩:=h;have n1:D≠k:=λ e=>by rw[<-e,Q 0 hn]at C;cases C
 have n2:F≠k:=λ e=>by
  rw[<-e,U 0 hn]at C;injection C with C;injection C with _ C _;omega
 have n3:∀s,s<n->rw s≠k:=λ s o e=>by rw[<-e,V s 0 o (by omega)]at C;cases C
 exact⟨D,Y,F,Z,rw,e1,e2,⟨by omega,by omega,λ s o=>by have:=J s o;omega⟩,λ s o=>(LQ (w:=w) (a:=⟨D,s,none⟩) (I D h1 n1)).trans (Q s o),λ s o=>(LQ (w:=w) (a:=⟨F,s,none⟩) (I F h2 n2)).trans (U s o),λ s b o hb=>(LQ (w:=w) (a:=⟨rw s,b,none⟩) (I (rw s) (J s o) (n3 s o))).trans (V s b o hb)⟩
structure TL(W w:tW)(v:tV)(c:Nat)(cs:List tV)(ns:Nat->Nat)(of:Nat->Nat->Int)(tr:Nat->Nat->Nat->Int):Prop where
 ow:w.ownsRow W.heap.size 68 2 v c cs
 z:c=0->v=.slice none 0 0
 t:∀i,i<c->0<ns i/\ns i<=100/\∃v1 v2,cs[i*2]?=some v1/\cs[i*2+1]?=some v2/\Sy w v1 v2 (ns i) (of i) (tr i)
 bl:Bl W w
 len:cs.length=c*2
theorem TL.start(W:tW):TL W W (.slice none 0 0) 0 [] (λ _=>0) (λ _ _=>0) (λ _ _ _=>0):=⟨World.ownsRow_nil _ _ _ 2,λ _=>rfl,λ i hi=>by omega,bR,rfl⟩
theorem TL.below{W w w':tW}{v:tV}{cs:List tV}{ns:Nat->Nat}{C:Nat->Nat->Int}{tr:Nat->Nat->Nat->Int}(h:TL W w v c cs ns C tr)(o:Bl w w'):TL W w' v c cs ns C tr:=
 ⟨iH h.ow (λ k D=>o.block k (h.ow.lt k D).2),h.z,λ i hi=>by
  obtain⟨a,b,v1,v2,F,I,J⟩:=h.t i hi;exact⟨a,b,v1,v2,F,I,J.below o lR⟩,mA h.bl o,h.len⟩
def CQ{α:Type}(f:Nat->α)(c:Nat)(x:α):Nat->α:=λ i=>if i=c then x else f i
theorem wE{α:Type}(f:Nat->α)(c:Nat)(x:α):CQ f c x c=x:=aB rfl
theorem wD{α:Type}{f:Nat->α}{x:α}{i:Nat}(h:i≠c):CQ f c x i=f i:=aA h
theorem TL.push{W w w4:tW}{v:tV}{cs:List tV}{ns:Nat->Nat}{of:Nat->Nat->Int}{tr:Nat->Nat->Nat->Int}(h:TL W w v c cs ns of tr){o:Obj}{g aJ n:Nat}{v1 v2:tV}{f:Nat->Int}{t:Nat->Nat->Int}(hn:0<n)(hm:n<=100)(X:Sy w v1 v2 n f t)
  (U:w4.ownsRow W.heap.size 68 2 (.slice (some ⟨g,0,none⟩) (c+1) aJ) (c+1) (cs++[v1,v2])) (C:(w.alloc o).grownBy w4 v.ownBlock):TL W w4 (.slice (some ⟨g,0,none⟩) (c+1) aJ) (c+1) (cs++[v1,v2]) (CQ ns c n) (CQ of c f) (CQ tr c t):=by
 have aO:=C.size;have ez:(w.alloc o).heap.size=w.heap.size+1:=by simp
 have V:∀k,k<w.heap.size->v.ownBlock≠some k->w4.heap[k]?=w.heap[k]? :=λ k V Q=>(C.block k (by omega) (λ e=>Q e.symm)).trans (Below.heap_alloc w o k V)
 have F:=h.len;have J:∀{v1 v2:tV}{n:Nat}{f:Nat->Int}{t:Nat->Nat->Int},0<n->Sy w v1 v2 n f t->Sy w4 v1 v2 n f t:=λ {v1 v2 n f t} hn X=>by
  cases e:v.ownBlock with
  | none=>exact X.below (B:=w.heap.size) ⟨C.os,C.tape,C.output,by omega,λ k Z=>V k Z (by rw[e];exact λ h=>by cases h)⟩ lR
  | some k=>
   have hc:0<c:=by
    apply LG;intro h0;rw[h.z (by omega)]at e
    cases e
   obtain⟨_,aL,u1,u2,Y,_,k3⟩:=h.t 0 hc;rw[Nat.zero_mul]at Y;have D:=h.ow.cells e 0 _ Y;obtain⟨g1,c1,_,_,_,e1,_⟩:=k3;rw[e1,oI]at D;exact X.grown hn (k:=k) D aL (by omega) (λ j hj Q=>V j hj (λ h=>Q (by rw[e]at h;injection h with h;exact h.symm)))
 refine⟨U,λ h=>by omega,λ i hi=>?_,lN h.bl h.ow C,by rw[List.length_append,F];show c*2+2=_;omega⟩;by_cases I:i=c
 ·subst I;rw[wE,wE,wE];refine⟨hn,hm,v1,v2,?_,?_,J hn X⟩
  ·rw[LR (by omega),F,Nat.sub_self];rfl
  ·rw[LR (by omega),F,Nat.add_sub_cancel_left];rfl
 ·rw[wD I,wD I,wD I];obtain⟨a,b,u1,u2,Y,k2,k3⟩:=h.t i (by omega);exact⟨a,b,u1,u2,by rw[LS (by omega)];exact Y,by rw[LS (by omega)];exact k2,J a k3⟩
theorem TL.view{W w:tW}{v:tV}{cs:List tV}{ns:Nat->Nat}{D:Nat->Nat->Int}{tr:Nat->Nat->Nat->Int}(h:TL W w v c cs ns D tr)(U:0<c):∃g aJ,v=.slice (some ⟨g,0,none⟩) c aJ/\JF w g c ns D tr:=by
 rcases iL h.ow with e|⟨g,aJ,e⟩
 ·exfalso;obtain⟨a,q,C⟩:=gA h.ow;rw[e]at C;injection C with _ Q _;omega
 ·refine⟨g,aJ,e,λ i hi=>?_,(h.ow.lt g (by rw[e];rfl)).2⟩;obtain⟨_,_,v1,v2,F,I,J⟩:=h.t i hi;have a1:=h.ow.cells (g:=g) (by rw[e];rfl) _ _ F;have o:=h.ow.cells (g:=g) (by rw[e];rfl) _ _ I;rw[oI,Nat.zero_add]at a1 o;exact⟨v1,v2,a1,o,J⟩
attribute [local go_sem ↓] Go.wp_at_zero Go.wp_at_succ
theorem Xk(t:tB)(w:tW):QR LN 8 #[.string t] w λ e w'=>e=.returned (.tuple #[.string ⟨(pC t).1.toArray⟩,.int .i64 (pC t).2])/\Bl w w':=by
 obtain⟨gL,hA⟩:=Ri t;have cP:=fV (λ w=>Xo t w)
 cases hR:vG t with
 | mk o c=>
 cases o with
 | none=>
  obtain⟨B2,eX⟩:=gL c hR;have HE:QO (pC t=([],(c:Int))):=by
   rcases J2 t with⟨_,h2⟩|⟨Y,_⟩
   ·rw[<-eX];exact h2
   ·exfalso;rw[eX]at Y;omega
  have HR:=fV hR;have d1:((c:Int) !=0)=true:=by rw[aD];omega
  clear hR gL hA eX B2;go_enter func8,ntmps8;go_wp2_with fail;refine(cP.o _).mono ?_;intro e w1 Y;unfold sK at Y;rw[HR.o]at Y;obtain⟨hb,rfl⟩:=Y;have HB:=fV hb;clear hb;go_wp2;go_ret2;exact⟨by rw[HE.o];rfl,HB.o⟩
 | some ls=>
  obtain⟨eT,aL,aO,H5,eN⟩:=hA ls c hR;obtain⟨o1,o2,o3⟩:=wL aL;rw[LJ]at o2 o3;have hU:=KQ eN aL aO;obtain⟨m1,m4,_,_⟩:=vZ (ls.map G0) o1 (by rw[Bb];exact aO);have V:QO (∀(c n:Nat)(mk:Nat->Nat)(tr:Nat->Nat->Int),c<gU (ls.map G0)->G1 (ls.map G0) c n mk tr->100<n->pC t=([],4)):=λ c n mk tr hc h hn=>BL eT aL hc h hn
  have bO:QO (∀(ns:Nat->Nat)(mk:Nat->Nat->Nat)(tr:Nat->Nat->Nat->Int),(∀c,c<gU (ls.map G0)->G1 (ls.map G0) c (ns c) (mk c) (tr c))->(∀c,c<gU (ls.map G0)->ns c<=100)->pC t=(Jx (BQ (ls.map G0)) (gU (ls.map G0)) 256 (λ b=>b) ns mk tr,0)):=λ ns mk tr hT hK=>FZ eT aL hT hK
  have hE:=fV (Cq eN);have HR:=fV hR;have tO:=fV o1;rw[<-hU]at m1 m4 V bO;clear hR gL hA eT aL H5 eN o1 hU;go_enter func8,ntmps8;go_wp2_with fail;refine(cP.o _).mono ?_;intro e w1 Y;unfold sK at Y;rw[HR.o]at Y;obtain⟨hb,fb,O,L,vN,vR,R,rfl,N0,Q,lH,U,h3⟩:=Y;have hP:=U.1;have hN:0<L.length:=by
   have Y:0<R.length:=by omega
   obtain⟨_,_,_,k⟩:=U.2 0 _ _ (LD Y) (LD (by omega));have:=k.1;rw[lB]at this;omega
  obtain⟨gN,cN,_,hL⟩:=Q.read hN;obtain⟨gR,cR,hM⟩:=Q.aX U (by omega);have hV:=JL U lH Q.cl o3 aO h3;have c3:=Q.c3;have hW:=Q.wt.2;have rT:=fV hV;have cF:=fV hL;have hD:=fV hM;have eL:=fV U;have bT:=fV hb;have O5:=hb.size;have bK:=fV hP;generalize CY ls=M at*;clear hb Q lH U hL hM hV hN hP HR cP;go_wp2_with fail;refine(Mt (by omega) cF.o).mono ?_;rintro e w2 ⟨vl,lw,rfl,J,eS,eO,hY⟩;have N1:=J.size;obtain⟨al,cl,B1⟩:=gA eS;subst B1;have sR:=fV (JT eS eO (by omega));have tL:=fV eO;have sW:=fV hY;have hC:=fV (cF.o.below J lR);have bN:=fV (hD.o.below J lR);have A3:=(J.cell (p:=⟨fb,3,none⟩) hW).trans c3;have hX:fb<w2.heap.size:=by omega
  have bC:=fV (bT.o.trans (J.mono bT.o.size));clear J eS eO hY cF hD c3 bT hW;go_wp2_with fail
  go_loopg [7,8] M (λ gk lv cv wr=>∃(c:Nat)(cs:List tV)(ns:Nat->Nat)(of:Nat->Nat->Int)(tr:Nat->Nat->Nat->Int),cv=.int .i64 (c:Int)/\c+gk=M/\TL w2 wr lv c cs ns of tr/\∀i,i<c->G1 (ls.map G0) i (ns i) (zS (of i)) (tr i)/\(∀s,s<ns i-> -1<=of i s/\of i s<8))
  case atStart=>exact⟨0,[],_,_,_,rfl,by omega,TL.start w2,λ i hi=>by omega⟩
  case round=>
   obtain⟨c,cs,ns,of,tr,rfl,M2,aW,nL⟩:=hrel;have C:=fV aW;have X:=fV nL;have O6:=aW.bl.size;have hJ:=(aW.bl.cell (p:=⟨fb,3,none⟩) hX).trans A3;obtain⟨av,cv,ev⟩:=gA aW.ow;subst ev;clear aW nL;by_cases H1:c<M
   ·obtain⟨d,rfl⟩:∃d,gk=d+1:=⟨gk-1,by omega⟩
    have E6:=dT c M (by omega)
    have hG:=fV (Rr (bE:=c) rT.o (by omega) (hC.o.below C.o.bl lR) (bN.o.below C.o.bl lR) (sR.o.below C.o.bl lR) tL.o sW.o);go_wp2_with fail;refine hG.o.mono ?_;rintro e w3 ⟨v1,v2,n,f,tt,rfl,eM,nN,qR,bM⟩;have aT:=bM.rtab eL.o;have iN:=bM.2.1;have H2:=bM.1.au.pos;have O0:=eM.size;have hH:=fV nN;obtain⟨g1,c1,g2,c2,rw,e1,e2,_⟩:=nN;subst e1 e2;have bS:=fV (C.o.below eM);have hF:=fV aT;have tT:=fV iN;have hB:QO (Bl w3 (w3.alloc (.cells #[.slice (some ⟨g1,0,none⟩) n c1,.slice (some ⟨g2,0,none⟩) n c2] 68))):=bR.alloc lR _;have H3:(w3.alloc (.cells #[.slice (some ⟨g1,0,none⟩) n c1,.slice (some ⟨g2,0,none⟩) n c2] 68)).cell? ⟨w3.heap.size,0,none⟩=some (.slice (some ⟨g1,0,none⟩) n c1):=(LF _ _ _ 0 rfl).trans rfl;have H4:(w3.alloc (.cells #[.slice (some ⟨g1,0,none⟩) n c1,.slice (some ⟨g2,0,none⟩) n c2] 68)).cell? ⟨w3.heap.size,1,none⟩=some (.slice (some ⟨g2,0,none⟩) n c2):=(LF _ _ _ 1 rfl).trans rfl;clear aT iN bM eM hG C hJ;go_upto_region 10 with fail;generalize w3.alloc (.cells #[.slice (some ⟨g1,0,none⟩) n c1,.slice (some ⟨g2,0,none⟩) n c2] 68)=W4 at*;have F:=fV (bS.o.below hB.o);have hI:=fV (hH.o.below hB.o lR);have O3:=F.o.bl.size;clear bS hH;by_cases Z:100<n
    ·have HE:=fV (V.o c n _ _ H1 hF.o Z);have H0:decide ((100:Int)<(n:Int))=true:=by simp;omega
     clear Z;go_wp2;go_ret2;exact⟨by rw[HE.o];rfl,bC.o.trans (F.o.bl.mono bC.o.size)⟩
    ·have H0:decide ((100:Int)<(n:Int))=false:=by simp;omega
     have A0:QO (W4.rangeAt w3.heap.size 0 [.slice (some ⟨g1,0,none⟩) n c1,.slice (some ⟨g2,0,none⟩) n c2]):=λ i v hv=>by
      rcases i with _|_|i
      ·simp at hv;subst hv;exact H3
      ·simp at hv;subst hv;exact H4
      ·simp at hv
     have eR:n<=100:=by omega
     clear Z;go_wp2_with (first
      | (refine QP rfl 68 (.tmp 9) rfl w3.heap.size 0 rfl [.slice (some ⟨g1,0,none⟩) n c1,.slice (some ⟨g2,0,none⟩) n c2] _ A0.o underlying68 rfl cW ?_)
      | (at_builtin;refine gB W4 rfl (.tmp 37) (.tmp 39) 61 rfl w2.heap.size 68 (.agg #[.slice none 0 0,.slice none 0 0]) 2 48 underlying61 dY rfl (by decide) (by decide) (.slice av c cv) c cs [.slice (some ⟨g1,0,none⟩) n c1,.slice (some ⟨g2,0,none⟩) n c2] _ rfl F.o.ow _ rfl rfl rfl (by simp[Value.oneCell']) (by omega) (by omega) ?_;intro g5 H6 w5 aR I hQ L1;have A1:=fV (F.o.push H2 eR hI.o aR I);clear aR I hQ))
     go_roundg d
     case measure=>omega
     case rel=>exact⟨c+1,_,_,_,_,by go_num,by omega,A1.o,λ i hi=>by
      by_cases e:i=c
      ·subst e;rw[wE,wE,wE];exact⟨hF.o,tT.o⟩
      ·rw[wD e,wD e,wD e];exact X.o i (by omega)⟩
   ·have e:gk=0:=by omega
    subst e;have e:c=M:=by omega
    subst e;have E6:=dF c c (by omega)
    obtain⟨g,aJ,ev,qL⟩:=C.o.view (by omega);injection ev with e1 _ e3;subst e1 e3;have HE:=fV (bO.o ns _ tr (λ i hi=>(X.o i hi).1) (λ i hi=>(C.o.t i hi).2.1));have A2:=fV (Jk (aJ:=cv) (ru:=BQ (ls.map G0)) (bN.o.below C.o.bl lR) hJ qL m4 (λ i hi=>(C.o.t i hi).2.1) (by have:=bK.o;omega) (λ x hx=>by
      obtain⟨j,hj,ej⟩:=List.getElem_of_mem hx;have D:j<ls.length:=by rw[<-bK.o];exact hj
      obtain⟨_,_,k3,_⟩:=eL.o.2 j x _ (by rw[LD hj,ej]) (LD D);rw[k3];exact(hE.o _ (LU D)).th) (by rw[F6,LJ,bK.o]) (λ k x hx=>by
      have D:k<ls.length:=by rw[<-bK.o];exact(LH.1 hx).1
      have hy:=LD D;obtain⟨_,_,k3,_⟩:=eL.o.2 k x _ hx hy;have e1:=Rt (l:=ls.map G0) tO.o (i:=k) (x:=G0 (ls[k]'D)) (by rw[LO,hy];rfl);have e2:=(GT (hE.o _ (LU D))).1;rw[k3];have e1:(tG (BQ (ls.map G0)) k:Int)=D7 (ls[k]'D).2.2.1:=e1;omega) (λ i s hi hs=>(X.o i hi).2 s hs) (λ i s b hi hs hb=>(X.o i hi).1.cn.au.rng s b hs hb))
    have rO:=fV C.o.bl;clear C X qL;go_wp2_with fail;refine A2.o.mono ?_;rintro e w5 ⟨rfl,hS⟩;have rL:=fV (mA rO.o hS);clear hS;go_wp2;go_ret2;exact⟨by rw[HE.o];rfl,bC.o.trans (rL.o.mono bC.o.size)⟩
end
theorem N3(t:tB)(w:tW):
  QR LN 15 #[.string t] w λ e w'=>e=.returned (.bool true)/\Bl w w':=by
 have Q:=fV (λ w=>j7 t w);have U:=fV (λ w=>Xk t w);generalize (pC t).2=n at*;generalize (⟨(pC t).1.toArray⟩:tB)=s at*;have V:(n==n)=true:=by simp
 go_enter func15,ntmps15;go_wp2_with fail;refine(Q.o _).mono ?_;rintro e w1 ⟨rfl,D⟩;have C:=fV D;clear D;go_wp2_with fail;refine(U.o _).mono ?_;rintro e w2 ⟨rfl,F⟩;have I:=fV (C.o.trans (F.mono C.o.size));clear F;go_wp2_with fail;refine(F3 _ _).mono ?_;rintro e X ⟨rfl,J⟩;rw[J];go_wp2;go_ret;exact⟨by simp,I.o⟩
theorem Wf(w:tW):QR LN 6 #[] w λ e w'=>e=.returned (.bool true)/\Bl w w':=by
 have D:=fV (λ w=>N3 ⟨#[65,32,97,32,46]⟩ w);go_enter func6,ntmps6;go_wp2_with fail;refine(D.o _).mono ?_;rintro e w1 ⟨rfl,C⟩;go_wp2;go_ret;exact⟨rfl,C⟩
theorem DY{s:tB}(h:s.size<=120000)(hi:iF s=true):G5 s=0:=by unfold G5;rw[aA (by omega),aB hi]
theorem Qr(s:tB)(w:tW)(_hs:s.size<=QQ):
  QR LN 86 #[.string s] w λ e w'=>e=.returned (.int .i64 (G5 s))/\Bl w w':=by
 go_enter func86,ntmps86;go_wp2_with fail;refine(F0 s _).mono ?_;rintro e w1 ⟨V,D⟩;have hx:∃A:Array tV,A.size=258/\A.all (·.oneCell')=true/\e=.returned (.tuple #[.agg A,.int .i64 (G5 s)]):=by
  rcases D with⟨_,rfl⟩|⟨X,Y,bb,vc,ys,rfl,_,Z,_⟩
  ·exact⟨_,bL,bZ,rfl⟩
  ·have J:vc.oneCell'=true:=by obtain⟨va,aU,rfl⟩:=gA Z;rfl
   refine⟨(nS (.slice (some ⟨bb,0,none⟩) (jU s) (jU s)) (gP s) vc).toArray,?_,all_oneCell_toArray (yJ rfl J),by rw[DY X Y]⟩;rw[List.size_toArray];exact nY _ _ _ (by unfold gP;rw[lQ];rfl)
 obtain⟨A,Q,C,rfl⟩:=hx;have I:=fV Q;have F:=fV C;have U:=fV (iD w1 zeroCells72 72 w1.heap.size 258 bL rfl);clear Q C D;go_wp2_with (first|(refine wpList_store_mid rfl 72 (.tmp 3) (.tmp 8) rfl w1.heap.size 0 A rfl rfl ?_ ?_ F.o ?_;(rw[I.o];exact U.o);(rw[I.o];exact bP)));go_ret;exact⟨rfl,fX _ 0 _ w1.heap.size (V.alloc V.size _) V.size⟩
section
theorem Ih(s:tB)(w:tW)(D:s.size<=QQ):
  QR LN 58 #[.string s] w λ e w'=>e=.returned (.bool true)/\Bl w w':=by
 go_enter func58,ntmps58;go_wp2_with fail;refine(Qr s _ D).mono ?_;rintro e w1 ⟨rfl,o⟩;go_wp2_with fail;refine(T6 s _ D).mono ?_;rintro e w2 ⟨rfl,C⟩;go_wp2_with fail;refine(F3 _ _).mono ?_;rintro e F ⟨rfl,rfl⟩;go_wp2;go_ret;exact⟨by simp,o.trans (C.mono o.size)⟩
def KN(B p:Nat)(w:tW)(cs:List wX)(bc:Nat->List tV)(e:Ending)(w':tW):Prop:=
 e=.returned (.bool true)/\∃O' C D o F,PI B p w' O' C D o 0 F/\C.length<=cs.length+1/\(∀f,f<=4->o f=bc f)/\(o 5).length=(o 6).length/\(o 5).length<=(bc 5).length+2/\Below B w w'
attribute [local go_sem ↓] Go.wp_at_zero Go.wp_at_succ dL
theorem Pr{p:Nat}{w:tW}{O:Nat->Nat}{cs:List wX}{vb:Nat->tV}{bc:Nat->List tV}{T:Nat->List (Int×Int×Int)}(h:PI B p w O cs vb bc 0 T)(D V:Int)(hK:JO V)(S X:tB)(hS:S.size<=QQ)(hX:X.size<=QQ)(al:Bool)(eX:cs.length<=5864062014800)
  (hA:(bc 5).length=(bc 6).length) (eS:(bc 5).length+1<=5864062014800):
  QR LN 29 #[.pointer (some ⟨B,0,none⟩),.agg #[.int .i64 D,.int .i64 V,.string S,.string X],.bool al] w (KN B p w cs bc):=by
 have cF:=h.wt.2;have bC:QO (Bl w (w.alloc (.cells #[.int .i64 D,.int .i64 V,.string S,.string X] 86))):=bR.alloc lR _;have x0:(w.alloc (.cells #[.int .i64 D,.int .i64 V,.string S,.string X] 86)).cell? ⟨w.heap.size,0,none⟩=some (.int .i64 D):=(LF _ _ _ 0 rfl).trans rfl;have x1:(w.alloc (.cells #[.int .i64 D,.int .i64 V,.string S,.string X] 86)).cell? ⟨w.heap.size,1,none⟩=some (.int .i64 V):=(LF _ _ _ 1 rfl).trans rfl;have x2:(w.alloc (.cells #[.int .i64 D,.int .i64 V,.string S,.string X] 86)).cell? ⟨w.heap.size,2,none⟩=some (.string S):=(LF _ _ _ 2 rfl).trans rfl;have x3:(w.alloc (.cells #[.int .i64 D,.int .i64 V,.string S,.string X] 86)).cell? ⟨w.heap.size,3,none⟩=some (.string X):=(LF _ _ _ 3 rfl).trans rfl;have eM:w.heap.size<(w.alloc (.cells #[.int .i64 D,.int .i64 V,.string S,.string X] 86)).heap.size:=by simp
 have Y:=fV (h.below bC.o);have HS:=fV hS;have HX:=fV hX;have bO:=bC.o.size;have I:=fV hA;have eN:=fV eS;have Q:QO (Below B w (w.alloc (.cells #[.int .i64 D,.int .i64 V,.string S,.string X] 86))):=bC.o.mono (LZ cF);clear h hA eS hS hX bC;go_enter func29,ntmps29;go_upto_region 1 with fail;generalize w.alloc (.cells #[.int .i64 D,.int .i64 V,.string S,.string X] 86)=W at*;by_cases k1:D=1
 ·have t1:(D==1)=true:=by rw[k1];rfl
  clear k1
  cases al with
  | false=>
   go_wp2;go_ret;exact⟨rfl,_,_,_,_,_,Y.o,LI _,λ _ _=>rfl,I.o,by omega,Q.o⟩
  | true=>
   go_wp2_with fail;refine(N3 S _).mono ?_;rintro e w2 ⟨rfl,C⟩;have U:=fV (Y.o.below C);have J:=fV (Q.o.trans (C.mono (MH (LZ cF) bO)));clear C x0 x1 x2 x3;go_wp2;go_ret;exact⟨rfl,_,_,_,_,_,U.o,LI _,λ _ _=>rfl,I.o,by omega,J.o⟩
 ·have t1:(D==1)=false:=by rw[aC];exact k1
  by_cases k2:D=2
  ·have t2:(D==2)=true:=by rw[k2];rfl
   clear k1 k2
   cases al with
   | false=>
    go_wp2;go_ret;exact⟨rfl,_,_,_,_,_,Y.o,LI _,λ _ _=>rfl,I.o,by omega,Q.o⟩
   | true=>
    go_wp2_with fail;refine(Ih S _ HS.o).mono ?_;rintro e w2 ⟨rfl,C⟩;have U:=fV (Y.o.below C);have J:=fV (Q.o.trans (C.mono (MH (LZ cF) bO)));clear C x0 x1 x2 x3;go_wp2;go_ret;exact⟨rfl,_,_,_,_,_,U.o,LI _,λ _ _=>rfl,I.o,by omega,J.o⟩
  ·have t2:(D==2)=false:=by rw[aC];exact k2
   by_cases k3:D=3
   ·have t3:(D==3)=true:=by rw[k3];rfl
    clear k1 k2 k3
    cases al with
    | false=>
     go_wp2;go_ret;exact⟨rfl,_,_,_,_,_,Y.o,LI _,λ _ _=>rfl,I.o,by omega,Q.o⟩
    | true=>
     go_wp2_with fail;refine(Iu Y.o S X HS.o HX.o I.o eN.o).mono ?_;rintro e w2 ⟨rfl,O2,hB,hD,T2,F,cN,hG,hH,C⟩;have U:=fV F;have J:=fV (Q.o.trans C);clear F C x0 x1 x2 x3;go_wp2;go_ret;exact⟨rfl,_,_,_,_,_,U.o,LI _,cN,by omega,by omega,J.o⟩
   ·have t3:(D==3)=false:=by rw[aC];exact k3
    by_cases k4:D=4
    ·have t4:(D==4)=true:=by rw[k4];rfl
     clear k1 k2 k3 k4;go_wp2_with fail;refine(Lt Y.o S HS.o eX).mono ?_;rintro e w2 ⟨rfl,O2,hF,hB,F,eT,C⟩;have U:=fV F;have J:=fV (Q.o.trans C);clear F C x0 x1 x2 x3;go_wp2;go_ret;exact⟨rfl,_,_,_,_,_,U.o,eT,λ _ _=>rfl,I.o,by omega,J.o⟩
    ·have t4:(D==4)=false:=by rw[aC];exact k4
     have b0:=Y.o.b0;have c0:=Y.o.wb 0 (by omega);obtain⟨a0,q0,e0⟩:=gA b0;obtain⟨n,en⟩:=xE (cs.length)
     rw[en]at e0 b0 eX;rw[e0]at c0 b0;have aW:=fV b0;have HN:=fV en;clear b0 e0 en k1 k2 k3 k4;by_cases cP:n=0
     ·have tn:((n:Int)==0)=true:=by rw[cP];rfl
      clear cP;go_wp2;go_ret;exact⟨rfl,_,_,_,_,_,Y.o,LI _,λ _ _=>rfl,I.o,by omega,Q.o⟩
     ·have tn:((n:Int)==0)=false:=by rw[aC];omega
      obtain⟨Z,hM,ev,_,gL⟩:=aW.o.form (by omega);injection ev with e1 e2 e3;subst e1;obtain⟨j,ej⟩:=xE (Ae V n)
      have hJ:j<n:=by rw[<-ej];exact AW V (by omega)
      have eL:=λ W=>Zb V n hK (by omega) (by omega) W
      rw[ej]at eL;have hC:=fV eL;obtain⟨t,ht⟩:∃t,cs[j]?=some t:=⟨_,LD (by rw[HN.o];exact hJ)⟩
      have hI:=Y.o.cu j t ht;obtain⟨u0,u1⟩:=Ju cs j t ht;have bS:∀i,(⟨Z,0,none⟩:Addr).add i=⟨Z,i,none⟩:=λ i=>by unfold Addr.add;split<;>simp_all
      have y0:=aW.o.cells rfl _ _ u0;have y1:=aW.o.cells rfl _ _ u1;rw[bS]at y0 y1;have hN:=iI j n (by omega)
      have l1:Ba W.drew (.pointer (some ⟨Z,j*2,none⟩)):=⟨Z,j*2,_,_,rfl,y0,y1⟩
      have q1:Yy W.drew (.pointer (some ⟨Z,j*2,none⟩))=.agg #[.pointer (some ⟨t.cb,0,none⟩),.pointer (some ⟨t.rb,0,none⟩)]:=Bf y0 y1;have aL:QO (Bl W (W.alloc (.cells #[.pointer none,.pointer none] 96))):=bR.alloc lR _;have eR:=Y.o.wt.2;have hE:=(aL.o.cell (p:=⟨B,0,none⟩) eR).trans c0;have hL:=(aL.o.cell (p:=⟨w.heap.size,1,none⟩) eM).trans x1;have aR:=(aL.o.cell (p:=⟨Z,j*2,none⟩) gL).trans y0;have aT:=(aL.o.cell (p:=⟨Z,j*2+1,none⟩) gL).trans y1;have l2:Ba (W.alloc (.cells #[.pointer none,.pointer none] 96)).drew (.pointer (some ⟨Z,j*2,none⟩)):=⟨Z,j*2,_,_,rfl,aR,aT⟩
      have q2:Yy (W.alloc (.cells #[.pointer none,.pointer none] 96)).drew (.pointer (some ⟨Z,j*2,none⟩))=.agg #[.pointer (some ⟨t.cb,0,none⟩),.pointer (some ⟨t.rb,0,none⟩)]:=Bf aR aT;have l3:Ba (W.alloc (.cells #[.pointer none,.pointer none] 96)) (.pointer (some ⟨Z,j*2,none⟩)):=⟨Z,j*2,_,_,rfl,aR,aT⟩
      have q3:Yy (W.alloc (.cells #[.pointer none,.pointer none] 96)) (.pointer (some ⟨Z,j*2,none⟩))=.agg #[.pointer (some ⟨t.cb,0,none⟩),.pointer (some ⟨t.rb,0,none⟩)]:=Bf aR aT;have HT:=fV ht;clear ej eL bS u0 u1 e2 e3 cP ht hI;go_upto_region 12 with fail
      go_cut [7] from 53 to 66 (λ v wc=>v=.pointer (some ⟨W.heap.size,0,none⟩)/\wc=(W.alloc (.cells #[.pointer (some ⟨t.cb,0,none⟩),.pointer (some ⟨t.rb,0,none⟩)] 96)).drew)
      case first=>
       go_region_with (go_at_call 61;refine(hC.o _).mono ?_;rintro e w3 ⟨rfl,aO⟩;rw[aO];clear aO w3)
       all_goals
        go_wp2;go_meet
        case rel=>exact⟨rfl,rfl⟩
      case rest=>
       obtain⟨rfl,bN⟩:=hcut;clear l1 q1 l2 q2 l3 q3 y0 y1 aR aT c0 hE hL aW tn aL;have bK:QO (Bl W wc):=by
        have:=(Below.refl W.heap.size W).alloc lR (.cells #[.pointer (some ⟨t.cb,0,none⟩),.pointer (some ⟨t.rb,0,none⟩)] 96);unfold QO;rw[bN];exact⟨this.os,this.tape,this.output,this.size,this.block⟩
       have z0:wc.cell? ⟨W.heap.size,0,none⟩=some (.pointer (some ⟨t.cb,0,none⟩)):=by rw[bN];exact(LF _ _ _ 0 rfl).trans rfl
       have z1:wc.cell? ⟨W.heap.size,1,none⟩=some (.pointer (some ⟨t.rb,0,none⟩)):=by rw[bN];exact(LF _ _ _ 1 rfl).trans rfl
       have d0:=(bK.o.cell (p:=⟨w.heap.size,0,none⟩) eM).trans x0;have d3:=(bK.o.cell (p:=⟨w.heap.size,3,none⟩) eM).trans x3;have bM:=fV (Y.o.below bK.o);have bT:=fV (Q.o.trans (bK.o.mono (LZ eR)));have eO:=fV (bM.o.cu j t HT.o);clear bN x0 x1 x2 x3;by_cases k5:D=5
       ·have t5:(D==5)=true:=by rw[k5];rfl
        have r1:=eO.o.rf.c1;clear k5;go_wp2_with (first|(go_at_call 32;refine(Gw eO.o.ct).mono ?_;rintro e w3 ⟨rfl,aO⟩;rw[aO];clear aO));go_ret;exact⟨by simp,_,_,_,_,_,bM.o,LI _,λ _ _=>rfl,I.o,by omega,bT.o⟩
       ·have t5:(D==5)=false:=by rw[aC];exact k5
        by_cases k6:D=6
        ·have t6:(D==6)=true:=by rw[k6];rfl
         clear k5 k6;go_wp2_with fail;refine(We bM.o HT.o X I.o (by have:=eN.o;omega) zL).mono ?_;rintro e w2 ⟨rfl,O2,hF,hB,hD,T2,F,eT,cN,hG,hH,C⟩;have U:=fV F;have J:=fV (bT.o.trans C);clear F C z0 z1 d0 d3;go_wp2;go_ret;exact⟨rfl,_,_,_,_,_,U.o,by omega,cN,by omega,by omega,J.o⟩
        ·have t6:(D==6)=false:=by rw[aC];exact k6
         clear k5 k6;go_wp2;go_ret;exact⟨rfl,_,_,_,_,_,bM.o,LI _,λ _ _=>rfl,I.o,by omega,bT.o⟩
end
theorem P5(ops:List Sv)(a:Option Addr)(aJ:Nat)(w:tW)(eO:ops=[]\/∃b o,a=some ⟨b,o,none⟩/\DI w b o ops)(hX:∀op∈ops,op.x.size<=QQ)(al:Bool)(hn:ops.length<=2932031007317):
  QR LN 14 #[.slice a ops.length aJ,.bool al] w λ e w'=>e=.returned (.bool true)/\Bl w w':=by
 have HO:=fV eO;have lH:=fV hX;have hF:=fV (PI.start w);have eT:QO (Bl w (w.alloc (.cells #[.slice none 0 0,.slice none 0 0,.slice none 0 0,.slice none 0 0,.slice none 0 0,.slice none 0 0,.slice none 0 0] 91))):=bR.alloc lR _;obtain⟨n,en⟩:=xE (ops.length)
 have HN:=fV en;rw[en]at hn ⊢;clear eO en hX;go_enter func14,ntmps14;go_upto_region 2 with fail;generalize w.alloc (.cells #[.slice none 0 0,.slice none 0 0,.slice none 0 0,.slice none 0 0,.slice none 0 0,.slice none 0 0,.slice none 0 0] 91)=W at*;go_upto_block 0 with fail
 go_cut [6] from 16 to 45 (λ _ wc=>∃(O:Nat->Nat)(cs:List wX)(vb:Nat->tV)(bc:Nat->List tV)(T:Nat->List (Int×Int×Int)) (p:Nat),PI w.heap.size p wc O cs vb bc 0 T/\(∀f,1<=f->f<=4->(bc f).length=p)/\(bc 5).length=(bc 6).length/\cs.length<=n/\p+(bc 5).length<=2*n/\Bl w wc)
 case first=>
  go_wp2_with fail
  go_loopw [6] (λ ii wr=>∃(k:Nat)(O:Nat->Nat)(cs:List wX)(vb:Nat->tV)(bc:Nat->List tV)(T:Nat->List (Int×Int×Int)) (p:Nat),k<=n/\ii=.int .i64 (k:Int)/\PI w.heap.size p wr O cs vb bc 0 T/\(∀f,1<=f->f<=4->(bc f).length=p)/\(bc 5).length=(bc 6).length/\cs.length<=k/\p+(bc 5).length<=2*k/\Bl w wr) (λ ii _=>n-(intOf ii).toNat)
  case atStart=>exact⟨0,_,_,_,_,_,0,zL,rfl,hF.o,λ _ _ _=>rfl,rfl,lR,lR,eT.o⟩
  case round=>
   obtain⟨k,O,cs,vb,bc,T,p,hk,rfl,bO,hl,aT,cF,bN,bK⟩:=hrel;have HP:=fV bO;have HL:=fV hl;have Z:=fV aT;have Q:=fV bN;have J:=fV bK;clear bO hl aT bN bK hF eT;by_cases bM:k<n
   ·have qR:=iI k n (by omega)
    rcases HO.o with e|⟨b,o,ea,cP⟩
    ·rw[e]at HN;have:=HN.o;simp at this;omega
    subst ea;obtain⟨op,cN⟩:∃op,ops[k]?=some op:=⟨_,LD (by rw[HN.o];exact bM)⟩
    have hN:=fV (nB (cP.c k op cN) J.o cP.lt);obtain⟨hI,hJ⟩:=cP.ok op (LP cN);obtain⟨kd,on,S,X⟩:=op;simp only at hI hJ;have hR:(bc 5).length+1<=5864062014800:=by have:=Q.o;omega
    have hP:=fV (Pr HP.o kd on hI S X hJ (lH.o _ (LP cN)) al (by omega) Z.o hR);clear cN cP hI hJ hR;go_upto_region 6 with(first
     | (refine QP rfl 86 (.tmp 25) rfl b (o+k*4) rfl [.int .i64 kd,.int .i64 on,.string S,.string X] _ hN.o underlying86 rfl fR ?_)
     | (go_at_call 29;refine hP.o.mono ?_;rintro e w2 ⟨rfl,O2,hH,rL,hG,T2,eS,qL,hU,eM,nN,hS⟩))
    have hE:=fV eS;have hB:QO (hH.length<=k+1):=by unfold QO;omega
    have hC:QO (∀f,1<=f->f<=4->(hG f).length=p):=λ f h1 h2=>by rw[hU f h2];exact HL.o f h1 h2
    have aL:=fV eM;have V:QO (p+(hG 5).length<=2*(k+1)):=by have:=Q.o;unfold QO;omega
    have eX:=fV (J.o.trans hS);clear eS qL hU eM nN hS hP hN HP HL Z Q J cF;go_upto_region 7 with fail;go_upto_if 31 with fail
    go_cut [8] from 29 to 33 (λ bb wc=>bb=.bool true/\∃(O:Nat->Nat)(cs:List wX)(vb:Nat->tV)(bc:Nat->List tV)(T:Nat->List (Int×Int×Int)) (p:Nat),PI w.heap.size p wc O cs vb bc 0 T/\(∀f,1<=f->f<=4->(bc f).length=p)/\(bc 5).length=(bc 6).length/\cs.length<=k+1/\p+(bc 5).length<=2*(k+1)/\Bl w wc)
    case first=>
     by_cases h3:k%3=2
     ·have t3:(((k:Int)%3)==2)=true:=by rw[beq_iff_eq];omega
      clear h3;go_wp2_with fail;refine(Z9 hE.o hC.o rfl aL.o.symm (by have:=V.o;omega)).mono ?_;rintro e w3 ⟨rfl,O3,eL,bT,C,D,aR,bC,I⟩;have Y:=fV C;have F:=fV (eX.o.trans I);have hD:=fV D;have hK:=fV aR;have hY:=fV bC;clear C I D aR bC;go_wp2;go_meet
      case rel=>exact⟨rfl,O3,hH,eL,bT,T2,_,Y.o,hD.o,by rw[hK.o,hY.o],hB.o,by rw[hK.o];exact V.o,F.o⟩
     ·have t3:(((k:Int)%3)==2)=false:=by rw[aC];omega
      clear h3;go_wp2;go_meet
      case rel=>exact⟨rfl,O2,hH,rL,hG,T2,p,hE.o,hC.o,aL.o,hB.o,V.o,eX.o⟩
    case rest=>
     obtain⟨rfl,O3,nL,eL,bT,T3,p3,C,D,aW,hT,eR,I⟩:=hcut;have Y:=fV C;have hD:=fV D;have hL:=fV aW;have iN:=fV hT;have hM:=fV eR;have F:=fV I;have bS:=fV (Z8 C D aW (by omega));clear C D aW hT eR I hE hC aL hB V eX;go_wp2_with fail;refine bS.o.mono ?_;rintro e w4 ⟨rfl,U⟩;have aO:=fV (Y.o.below U);have gL:=fV (F.o.trans (U.mono F.o.size));clear U;go_wp2;go_roundw
     case rel=>exact⟨k+1,O3,nL,eL,bT,T3,p3,bM,by go_num,aO.o,hD.o,hL.o,iN.o,hM.o,gL.o⟩
     case measure=>simp[intOf];omega
   ·have dk:=dF k n (by omega)
    have ek:k=n:=by omega
    subst ek;go_wp2;go_meet
    case rel=>exact⟨O,cs,vb,bc,T,p,HP.o,HL.o,Z.o,cF,Q.o,J.o⟩
 case rest=>
  obtain⟨O,cs,vb,bc,T,p,bO,hl,aT,cF,bN,bK⟩:=hcut;have HP:=fV bO;have HL:=fV hl;have Z:=fV aT;have Q:=fV bN;have J:=fV bK;clear bO hl aT bN bK hF eT HO HN;go_wp2_with fail;refine(Z9 HP.o HL.o rfl Z.o.symm (by have:=Q.o;omega)).mono ?_;rintro e w3 ⟨rfl,O3,eL,bT,C,D,aR,bC,I⟩;have Y:=fV C;have F:=fV (J.o.trans I);have bS:=fV (Z8 C D (by rw[aR,bC]) (by have:=Q.o;omega));clear C I D aR bC HP J;go_wp2_with fail;refine bS.o.mono ?_;rintro e w4 ⟨rfl,U⟩;have aO:=fV (Y.o.below U);have gL:=fV (F.o.trans (U.mono F.o.size));clear U bS Y F;have b0:=aO.o.b0;have c0:=aO.o.wb 0 (by omega);obtain⟨a0,q0,e0⟩:=gA b0;obtain⟨m,em⟩:=xE (cs.length)
  rw[em]at e0 b0 cF;rw[e0]at c0 b0;have hA:=fV b0;have HM:=fV em;clear b0 e0 em;go_wp2_with fail
  go_loopw [12] (λ ii wr=>∃k:Nat,k<=m/\ii=.int .i64 (k:Int)/\wr=w4) (λ ii _=>m-(intOf ii).toNat)
  case atStart=>exact⟨0,zL,rfl,rfl⟩
  case round=>
   obtain⟨k,hk,rfl,hW⟩:=hrel;rw[hW];clear hW;by_cases bM:k<m
   ·obtain⟨g0,rO,ev,_,rT⟩:=hA.o.form (by omega);injection ev with e1 e2 e3;subst e1;obtain⟨t,ht⟩:∃t,cs[k]?=some t:=⟨_,LD (by rw[HM.o];exact bM)⟩
    have hQ:=fV (aO.o.cu k t ht);obtain⟨u0,u1⟩:=Ju cs k t ht;have eN:∀i,(⟨g0,0,none⟩:Addr).add i=⟨g0,i,none⟩:=λ i=>by unfold Addr.add;split<;>simp_all
    have y0:=hA.o.cells rfl _ _ u0;have y1:=hA.o.cells rfl _ _ u1;rw[eN]at y0 y1;have qR:=iI k m (by omega)
    have r1:=hQ.o.rf.c1;clear eN u0 u1 e2 e3 ht;go_wp2_with (first|(go_at_call 32;refine(Gw hQ.o.ct).mono ?_;rintro e w5 ⟨rfl,hV⟩;rw[hV];clear hV));go_roundw
    case rel=>exact⟨k+1,bM,by go_num,trivial⟩
    case measure=>simp[intOf];omega
   ·have dk:=dF k m (by omega)
    go_wp2;go_ret;exact⟨rfl,gL.o⟩
theorem Lr(w:tW):QR LN 13 #[] w λ e w'=>e=.returned (.bool true)/\Bl w w':=by
 go_enter func13,ntmps13;go_wp2_with fail;refine(Yi _).mono ?_;rintro e w1 ⟨rfl,I⟩;have D:=fV I;have Q:SM.size<=QQ:=by rw[Sf];decide
 clear I;generalize SM=S at*;have V:QO (DI (w1.alloc (.cells #[.int .i64 4,.int .i64 0,.string S,.string ⟨#[]⟩,.int .i64 6,.int .i64 0,.string ⟨#[]⟩,.string ⟨#[97,98]⟩,.int .i64 5,.int .i64 0,.string ⟨#[]⟩,.string ⟨#[]⟩] 86)) w1.heap.size 0 [⟨4,0,S,⟨#[]⟩⟩,⟨6,0,⟨#[]⟩,⟨#[97,98]⟩⟩,⟨5,0,⟨#[]⟩,⟨#[]⟩⟩]):=by
  have hz:(⟨#[]⟩:tB).size<=QQ:=by decide
  refine⟨λ k op Y=>?_,λ op C=>?_,by simp⟩
  ·intro i v hv;have Z:k=0\/k=1\/k=2:=by
    have:=(LH.1 Y).1;simp at this;omega
   have X:i=0\/i=1\/i=2\/i=3:=by
    have:=(LH.1 hv).1;simp[Sv.cells]at this;omega
   rw[LF _ _ _ _ rfl];rcases Z with rfl|rfl|rfl
   all_goals
    simp at Y;subst Y;rcases X with rfl|rfl|rfl|rfl
    all_goals
     simp[Sv.cells]at hv;subst hv
     rfl
  ·simp only[MC,LY,or_false]at C;rcases C with rfl|rfl|rfl
   ·exact⟨by unfold JO;simp,Q⟩
   ·exact⟨by unfold JO;simp,hz⟩
   ·exact⟨by unfold JO;simp,hz⟩
 have F:=fV (D.o.alloc D.o.size (.cells #[.int .i64 4,.int .i64 0,.string S,.string ⟨#[]⟩,.int .i64 6,.int .i64 0,.string ⟨#[]⟩,.string ⟨#[97,98]⟩,.int .i64 5,.int .i64 0,.string ⟨#[]⟩,.string ⟨#[]⟩] 86));clear Q;go_wp2_with fail;refine(P5 [⟨4,0,S,⟨#[]⟩⟩,⟨6,0,⟨#[]⟩,⟨#[97,98]⟩⟩,⟨5,0,⟨#[]⟩,⟨#[]⟩⟩] _ 3 _ (.inr ⟨_,_,rfl,V.o⟩) (λ op C=>by simp only[MC,LY,or_false]at C;rcases C with rfl|rfl|rfl;exact(show(⟨#[]⟩:tB).size<=QQ by decide);exact(show(⟨#[97,98]⟩:tB).size<=QQ by decide);exact(show(⟨#[]⟩:tB).size<=QQ by decide)) false (by simp)).mono ?_;rintro e w2 ⟨rfl,J⟩;have U:=fV (F.o.trans (J.mono F.o.size));clear J;go_wp2;go_ret;exact⟨rfl,U.o⟩
theorem Gk(ops:List Sv)(a:Option Addr)(aJ:Nat)(w:tW)(D:ops=[]\/∃b o,a=some ⟨b,o,none⟩/\DI w b o ops)(U:∀op∈ops,op.x.size<=QQ)(hn:ops.length<=2932031007317):
  QR LN 5 #[.slice a ops.length aJ] w λ e w'=>e=.returned (.bool true)/\Bl w w':=by
 have X:=fV D;have Y:=fV U;clear D U;go_enter func5,ntmps5;go_wp2_with fail;refine(Lr _).mono ?_;rintro e w1 ⟨rfl,I⟩;have F:=fV I;clear I;go_wp2_with fail;refine(Wf _).mono ?_;rintro e w2 ⟨rfl,J⟩;have C:=fV (F.o.trans (J.mono F.o.size));clear J F;go_wp2_with fail;refine(P5 ops a aJ w2 (X.o.imp id (λ⟨b,o,e,h⟩=>⟨b,o,e,⟨λ k op Z=>nB (h.c k op Z) C.o h.lt,h.ok,Nat.lt_of_lt_of_le h.lt C.o.size⟩⟩)) Y.o true hn).mono ?_;rintro e w3 ⟨rfl,Q⟩;have V:=fV (C.o.trans (Q.mono C.o.size));clear Q;go_wp2;go_ret;exact⟨rfl,V.o⟩
