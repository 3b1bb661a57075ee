import Derived.Test.YtgjgjgihceijnaaGreatH05
open Go.RowKit renaming Hid->QN
open Go renaming wpList_load_mid->QO,maxLen->QP,Calls->QQ
open List renaming getElem?_eq_getElem->LC,getElem?_eq_some_iff->LG,length_map->LI,getD_eq_getElem?_getD->LJ,map_cons->LK,getElem?_map->LN,mem_of_getElem?->LO,getElem?_append_right->LQ,getElem?_append_left->LR,getElem_mem->LS,not_mem_nil->LU,map_append->LZ,mem_cons_of_mem->MA,mem_cons->MB,mem_cons_self->MC
open Go.World renaming cell?_alloc_at->LD,cell?_of_block->LP
open Classical renaming byContradiction->LF
open Nat renaming le_succ->LH,le_of_lt->LY,strongRecOn->MF,le_trans->MG
open Go.Proofs.Tryz renaming prog->LM
open Int renaming toNat_natCast->MD
open Option renaming getD_some->ME
open Go.Proofs.Tryz
set_option maxRecDepth 100000
set_option maxHeartbeats 8000000
namespace Go.Stn
open Go.Proofs.YtgjgjgihceijnaaGreat (rY zD uZ pO pH)
variable {K K' c n:Nat}
theorem Mk{D o:Nat->Nat}{fb C:Nat->Nat}
  (X:∀j,j<K->fb j<256/\D (fb j)=j) (h2:∀b,b<256->fb (D b)<=b) (h3:∀j F,j<F->F<K->fb j<fb F) (h4:∀b,b<256->D b<K)
  (Z:∀j,j<K'->C j<256/\o (C j)=j) (k2:∀b,b<256->C (o b)<=b) (k3:∀j F,j<F->F<K'->C j<C F) (k4:∀b,b<256->o b<K')
  (he:∀b Q,b<256->Q<256->(D b=D Q↔o b=o Q)):∀j,j<K->j<K'/\fb j=C j:=by
 intro j
 induction j using MF with
 | ind j ih=>
  intro hj;obtain⟨x1,x2⟩:=X j hj;have hn:∀i,i<j->o (fb j)≠i:=λ i hi e=>by
   obtain⟨U,V⟩:=ih i hi (by omega);obtain⟨J,y2⟩:=X i (by omega);obtain⟨z1,z2⟩:=Z i U;have:o (fb i)=o (fb j):=by rw[e,V,z2]
   have:=(he _ _ J x1).2 this;omega
  have aL:j<=o (fb j):=by
   apply LF;intro hc;exact hn _ (by omega) rfl
  have Y:=k4 (fb j) x1;have I:j<K':=by omega
  refine⟨I,?_⟩;obtain⟨J,y2⟩:=Z j I;have a1:C j<=fb j:=by
   have:=k2 (fb j) x1;by_cases e:j=o (fb j)
   ·rw[<-e]at this;exact this
   ·have:=k3 j _ (by omega) Y;omega
  have a2:fb j<=C j:=by
   have b1:=h2 (C j) J;have b2:=h4 (C j) J;by_cases e:D (C j)<j
   ·obtain⟨U,V⟩:=ih _ e b2;obtain⟨c1,c2⟩:=X _ b2;have:=(he _ _ c1 J).1 c2;rw[V,(Z _ U).2,y2]at this;omega
   ·by_cases e2:j=D (C j)
    ·rw[<-e2]at b1;exact b1
    ·have:=h3 j _ (by omega) b2;omega
  omega
theorem BS{D o:Nat->Nat}{fb C:Nat->Nat}
  (U:∀j,j<K->fb j<256/\D (fb j)=j) (Z:∀b,b<256->fb (D b)<=b) (h3:∀j F,j<F->F<K->fb j<fb F) (J:∀b,b<256->D b<K)
  (X:∀j,j<K'->C j<256/\o (C j)=j) (k2:∀b,b<256->C (o b)<=b) (k3:∀j F,j<F->F<K'->C j<C F) (Y:∀b,b<256->o b<K')
  (V:∀b Q,b<256->Q<256->(D b=D Q↔o b=o Q)):K=K'/\(∀b,b<256->D b=o b)/\∀j,j<K->fb j=C j:=by
 have a:=Mk U Z h3 J X k2 k3 Y V;have b:=Mk X k2 k3 Y U Z h3 J (λ x y I hy=>(V x y I hy).symm);refine⟨?_,λ x I=>?_,λ j hj=>(a j hj).2⟩
 ·rcases Nat.lt_trichotomy K K' with h|h|h
  ·have:=(b K h).1;omega
  ·exact h
  ·have:=(a K' h).1;omega
 ·obtain⟨a1,a2⟩:=a _ (J x I);obtain⟨c1,c2⟩:=U _ (J x I);have:=(V _ _ c1 I).1 c2;rw[a2,(X _ a1).2]at this;exact this
structure DC(l l':List gX):Prop where
 len:l.length=l'.length
 cn:gU l=gU l'
 be:∀(i:Nat)(x x':gX),l[i]?=some x->l'[i]?=some x'->x.2.1=x'.2.1
 tok:∀c w v,I0 l c w v↔I0 l' c w v
theorem Vi{x y:Nat}(h:oN x=oN y):x=y:=by
 unfold oN at h;split at h<;>split at h<;>omega
theorem Yq{s o:tB}(C:s.size=o.size)(h:∀i,i<s.size->bt s i=bt o i):s=o:=by
 obtain⟨d⟩:=s;obtain⟨F⟩:=o;congr 1;have C:d.size=F.size:=C;refine Array.ext C (λ i D I=>?_);have:=h i D;unfold bt at this;simp only at this;rw[LJ,LJ,LC (by simpa using D),LC (by simpa using I)]at this;simp only[ME,Array.getElem_toList]at this;exact UInt8.toNat_inj.1 this
theorem p9{l l':List gX}{s o:tB}(V:DC l l')(h:xK l s)(J:xK l' o):s=o:=by
 have hR:iR s=iR o:=by rw[h.fr,J.fr,V.len]
 have hM:iM s=iM o:=by rw[h.fm,J.fm,V.cn]
 have C:∀c,c<gU l->qW s c=qW o c/\(∀p,p<qW s c->jO s c p=jO o c p)/\∀p b,p<qW s c->b<256->iA s c p b=iA o c p b:=λ c D=>by
  have aO:c<gU l':=by rw[<-V.cn];exact D
  obtain⟨a1,a2,a3⟩:=M1 (h.cn c D) (J.cn c aO) (λ w hw=>by
   cases w with
   | nil=>exact(h.z c D).trans (J.z c aO).symm
   | cons b u=>exact Y1 (h.tok c D b u hw) ((V.tok _ _ _).2 (J.tok c aO b u hw)))
  exact⟨a1,a2,λ p b F X=>Vi (a3 p b F X)⟩
 have cP:iM s=gU l:=h.fm;obtain⟨_,_,_,_,_,g6⟩:=mK.1 h.ok;obtain⟨_,_,_,_,_,k6⟩:=mK.1 J.ok;have ga:=pK.1 (mK.1 h.ok).1;have ka:=pK.1 (mK.1 J.ok).1;have bK:∀c p,c<gU l->p<qW s c->p<qW o c:=λ c p D F=>by rw[<-(C c D).1];exact F
 obtain⟨fb,f1,f2,f3⟩:=h.cl;obtain⟨cN,bN,bS,bT⟩:=J.cl;have bC:∀(l:List gX)(s:tB),xK l s->∀b Q,b<256->Q<256->(tJ s b=tJ s Q↔∀c p,c<gU l->p<qW s c->iA s c p b=iA s c p Q):=λ l s h b Q X I=>by
  constructor
  ·intro e c p _ _;unfold iA;rw[e]
  ·intro e;apply LF;intro cF;obtain⟨c,p,D,F,hh⟩:=h.ca _ _ (wJ h.ok b X) (wJ h.ok Q I) cF;exact hh (e c p D F)
 obtain⟨hK,aT,eL⟩:=BS f1 f2 f3 (wJ h.ok) bN bS bT (wJ J.ok) (λ b Q X I=>by
  rw[bC l s h b Q X I,bC l' o J b Q X I];constructor
  ·intro e c p D F;have U:c<gU l:=by rw[V.cn];exact D
   have Y:p<qW s c:=by rw[(C c U).1];exact F
   rw[<-(C c U).2.2 p b Y X,<-(C c U).2.2 p Q Y I];exact e c p U Y
  ·intro e c p D F;rw[(C c D).2.2 p b F X,(C c D).2.2 p Q F I];exact e c p (by rw[<-V.cn];exact D) (bK c p D F))
 have Z:∀c,c<=iM s->pC s c=pC o c:=by
  intro c
  induction c with
  | zero=>intro _;show 262+iR s=262+iR o;rw[hR]
  | succ c ih=>
   intro D;have e:=ih (by omega);rw[(D1 (zZ h.ok (by omega))).1,(D1 (zZ J.ok (by omega))).1];have:bt s (pC s c)=bt o (pC o c):=(C c (by omega)).1;rw[this,e,hK]
 have aW:∀c p,c<iM s->qD s c p=qD o c p:=λ c p D=>by unfold qD;rw[Z c (by omega),hK]
 have hz:s.size=o.size:=by rw[<-g6,<-k6,<-hM,Z _ lR]
 have aR:∀c p j,c<iM s->p<qW s c->j<iK s->bt s (qD s c p+1+j)=bt o (qD o c p+1+j):=λ c p j D F hj=>by
  obtain⟨a1,a2⟩:=f1 j hj;have:=(C c (by omega)).2.2 p (fb j) F a1;unfold iA at this;rw[<-aT (fb j) a1,a2]at this;exact this
 have aL:∀d,d<=iM s->∀i,i<pC s d->bt s i=bt o i:=by
  intro d
  induction d with
  | zero=>
   intro _ i hi;have hi:i<262+iR s:=hi;by_cases h1:i<4
   ·have e3:bt s 3=bt o 3:=hR;obtain⟨_,⟨a0,a1,a2⟩,_⟩:=ga;obtain⟨_,⟨b0,b1,b2⟩,_⟩:=ka;have:i=0\/i=1\/i=2\/i=3:=by omega
    rcases this with e|e|e|e<;>subst e<;>omega
   ·by_cases h2:i<4+iR s
    ·obtain⟨k,rfl⟩:∃k,i=4+k:=⟨i-4,by omega⟩
     have hk:k<l.length:=by have:=h.fr;omega
     have bM:k<l'.length:=by rw[<-V.len];exact hk
     have e1:=h.fb k _ (LC hk);have e2:=J.fb k _ (LC bM);have e3:=V.be k _ _ (LC hk) (LC bM);unfold nA at e1 e2;omega
    ·by_cases h3:i=4+iR s
     ·have e:bt s (4+iR s)=bt o (4+iR o):=hM;rw[h3,e,hR]
     ·by_cases h4:i=5+iR s
      ·have e:bt s (5+iR s)+1=bt o (5+iR o)+1:=hK;rw[h4];rw[hR]at e ⊢;omega
      ·obtain⟨k,rfl⟩:∃k,i=6+iR s+k:=⟨i-6-iR s,by omega⟩
       have:=aT k (by omega);unfold tJ at this;rw[this,hR]
  | succ d ih=>
   intro hd i hi;by_cases h1:i<pC s d
   ·exact ih (by omega) i h1
   ·rw[(D1 (zZ h.ok (by omega))).1]at hi;by_cases h2:i=pC s d
    ·have e:bt s (pC s d)=bt o (pC o d):=(C d (by omega)).1;rw[h2,e,Z d (by omega)]
    ·obtain⟨k,rfl⟩:∃k,i=pC s d+1+k:=⟨i-pC s d-1,by omega⟩
     have hk:k<bt s (pC s d)*(1+iK s):=by omega
     have F:k/(1+iK s)<qW s d:=(Nat.div_lt_iff_lt_mul (by omega)).2 hk;have bO:=Nat.div_add_mod k (1+iK s);have eM:=Nat.mod_lt k (show 0<1+iK s by omega);rw[Nat.mul_comm]at bO;by_cases h3:k%(1+iK s)=0
     ·have e:=(C d (by omega)).2.1 _ F;unfold jO at e;rw[<-aW d _ (by omega)]at e;rw[show pC s d+1+k=qD s d (k/(1+iK s)) by unfold qD;omega];exact e
     ·have e:=aR d _ (k%(1+iK s)-1) (by omega) F (by omega);rw[<-aW d _ (by omega)]at e;rw[show pC s d+1+k=qD s d (k/(1+iK s))+1+(k%(1+iK s)-1) by unfold qD;omega];exact e
 exact Yq hz (λ i hi=>aL (iM s) lR i (by rw[g6];exact hi))
section
theorem GY:∀(m n:Nat)(f:Nat->Nat),(∀i,i<n->f i<m)->m<n->∃i j,i<j/\j<n/\f i=f j:=by
 intro m
 induction m with
 | zero=>intro n f h D;have:=h 0 D;omega
 | succ m ih=>
  intro n f h D;obtain⟨k,rfl⟩:∃k,n=k+1:=⟨n-1,by omega⟩
  by_cases e:∃i,i<k/\f i=f k
  ·obtain⟨i,C,F⟩:=e;exact⟨i,k,C,by omega,F⟩
  ·obtain⟨i,j,C,F,I⟩:=ih k (λ i=>if f i=m then f k else f i) (λ i hi=>by
    have J:=h i (by omega);have U:=h k (by omega);have Q:f i≠f k:=λ o=>e ⟨i,hi,o⟩
    show(if f i=m then f k else f i)<m;split<;>omega) (by omega)
   refine⟨i,j,C,by omega,?_⟩;have hi:f i≠f k:=λ o=>e ⟨i,by omega,o⟩
   have V:f j≠f k:=λ o=>e ⟨j,by omega,o⟩
   split at I<;>split at I<;>omega
section
variable {l:List gX}{c:Nat}{A:Nat->Nat->Bool}{aG:Nat->Int}{aP:Int}{la G:List Int}{of_:Nat->Nat}
theorem nM.text(h:nM l c A aG aP la G of_):∀q,q<wW aG aP G->∃u,lF 256 u/\sH (wY aG aP G) 0 (u.map of_)=some q/\(q=0->u=[]):=by
 intro q
 induction q using MF with
 | ind q ih=>
  intro C;by_cases o:q=0
  ·subst o;exact⟨[],wK _,rfl,λ _=>rfl⟩
  ·obtain⟨p,g,D,F,I⟩:=(T6 aG aP G).d2 q (by omega) C;obtain⟨u,Q,J,_⟩:=ih p D (by omega);obtain⟨b,U,b2⟩:=h.gn g F;refine⟨u++[b],zX Q (Mb U),?_,λ e=>absurd e o⟩;rw[LZ,LK,List.map_nil,X3 J,b2,aA (by omega),I]
   rfl
end
end
structure G3(l:List gX)(c n:Nat)(mk:Nat->Nat)(tr:Nat->Nat->Int):Prop where
 cn:uF n 256 mk tr
 z:mk 0=0
 tok:∀b u,lF 256 (b::u)->I0 l c (b::u) (jM mk tr 0 (b::u))
theorem G3.text{l:List gX}{mk:Nat->Nat}{tr:Nat->Nat->Int}(h:G3 l c n mk tr){p:Nat}(o:p<n):∃u,lF 256 u/\sH tr 0 u=some p:=by
 obtain⟨u,C,D,_⟩:=T1 h.cn h.cn (λ _ _=>rfl) p o;exact⟨u,C,D⟩
theorem BW{l:List gX}{w:List Nat}{v:Nat}(h:I0 l c w v):v<=l.length:=by
 rcases h with⟨h,_⟩|⟨r,x,C,o,_⟩
 ·omega
 ·have:=(LG.1 o).1;omega
theorem G3.le{l:List gX}{mk:Nat->Nat}{tr:Nat->Nat->Int}(h:G3 l c n mk tr){p:Nat}(C:p<n):mk p<=l.length:=by
 obtain⟨u,D,o⟩:=h.text C
 cases u with
 | nil=>
  rw[sH]at o;injection o with o;rw[<-o,h.z];omega
 | cons b u=>
  have:=BW (h.tok b u D);unfold jM at this;rw[o]at this;exact this
theorem G3.same{l:List gX}{F:Nat}{mk mk':Nat->Nat}{tr o:Nat->Nat->Int}(h:G3 l c n mk tr)(C:G3 l c F mk' o):n=F/\(∀p,p<n->mk p=mk' p)/\∀p b,p<n->b<256->tr p b=o p b:=
 M1 h.cn C.cn (λ w D=>by
  cases w with
  | nil=>exact h.z.trans C.z.symm
  | cons b u=>exact Y1 (h.tok b u D) (C.tok b u D))
theorem xK.tab{l:List gX}{s:tB}(h:xK l s){c:Nat}(o:c<gU l):G3 l c (qW s c) (jO s c) (λ p b=>oN (iA s c p b)):=⟨h.cn c o,h.z c o,h.tok c o⟩
theorem Zy{l:List gX}(hl:∀x∈l,tP x)(hn:mV l<=10){c Y:Nat}{mk':Nat->Nat}{C:Nat->Nat->Int}(hc:c<gU l)(h':G3 l c Y mk' C)(bN:Y<=100):¬E8 l c:=by
 intro hm;have aO:c<4:=by have:=(wD l hl hn).2.1;omega
 have o:=Ky l hl hn c aO;have bM:=Bt (rY (fW jX l).aV) (pV l c) (lJ l);have aL:=T6 (rY (fW jX l).aV) (pV l c) (lJ l);have U:=o.lively;have bK:=o.text;have Q:∀w,lF 256 w->jM (G1 (rY (fW jX l).aV) (pV l c) (uZ (fW jX l).aV (fW jX l).aX) (lJ l)) (wY (rY (fW jX l).aV) (pV l c) (lJ l)) 0 (w.map (Bh l))=jM mk' C 0 w:=λ w hw=>by
  cases w with
  | nil=>exact o.zero.trans h'.z.symm
  | cons b u=>exact Y1 (o.tok b u hw) (h'.tok b u hw)
 have aW:=o.gn;have bO:=o.gl;unfold E8 at hm;generalize G1 (rY (fW jX l).aV) (pV l c) (uZ (fW jX l).aV (fW jX l).aX) (lJ l)=tk at*;generalize wW (rY (fW jX l).aV) (pV l c) (lJ l)=n at*;generalize wY (rY (fW jX l).aV) (pV l c) (lJ l)=nx at*;have F:=h'.cn;obtain⟨f,r,X,bC⟩:=hm;have I:∀z,lF (lJ l).length z->∃w,lF 256 w/\w.map (Bh l)=z:=λ z=>by
  induction z with
  | nil=>intro _;exact⟨[],wK _,rfl⟩
  | cons g z ih=>
   intro I;obtain⟨w,w1,w2⟩:=ih (λ x hx=>I x (MA _ hx));obtain⟨b,b1,b2⟩:=aW g (I g MC);exact⟨b::w,pL b1 w1,by rw[LK,b2,w2]⟩
 have D:∀q,q<n->∃p,p<Y/\∀z,lF 256 z->jM tk nx q (z.map (Bh l))=jM mk' C p z:=λ q J=>by
  obtain⟨u,u1,u2,u3⟩:=bK q J
  cases e:sH C 0 u with
  | some p=>
   refine⟨p,vM F.au u 0 p F.au.pos u1 e,λ z I=>?_⟩;have:=Q (u++z) (zX u1 I);rw[LZ,A7 u2,A7 e]at this;exact this
  | none=>
   exfalso;by_cases h0:q=0
   ·rw[u3 h0,sH]at e;cases e
   ·obtain⟨p,g,h1,V,h3⟩:=aL.d2 q (by omega) J;obtain⟨z,z1,Z⟩:=U p g (by omega) V (by omega);rw[h3,MD]at Z;obtain⟨w,w1,w2⟩:=I z z1;have:=Q (u++w) (zX u1 w1);rw[LZ,A7 u2,w2]at this;have aT:jM mk' C 0 (u++w)=0:=by
     unfold jM;rw[R2,e]
    rw[aT]at this;exact Z this
 have hg:∃g:Nat->Nat,∀q,q<n->g q<Y/\∀z,lF 256 z->jM tk nx q (z.map (Bh l))=jM mk' C (g q) z:=
  ⟨λ q=>if h:q<n then Classical.choose (D q h)else 0,λ q J=>by simp only[dif_pos J];exact Classical.choose_spec (D q J)⟩
 obtain⟨g,hg⟩:=hg;obtain⟨i,j,h1,V,h3⟩:=GY 100 101 (λ i=>g (f i)) (λ i hi=>by have:=(hg (f i) (X i hi)).1;omega) (by omega);have aR:=bC i j (by omega) V (by omega);obtain⟨z,z1,Z⟩:=Cj bM U r (f i) (f j) (X i (by omega)) (X j V) aR;obtain⟨w,w1,w2⟩:=I z z1;refine Z ?_;rw[<-w2,(hg (f i) (X i (by omega))).2 w w1,(hg (f j) (X j V)).2 w w1,h3]
theorem Zx{t:tB}(J:kC t=0){l:List gX}(D:vE t=some l){c n:Nat}{mk:Nat->Nat}{tr:Nat->Nat->Int}(F:c<gU l)(h:G3 l c n mk tr)(hn:100<n):pH t=([],4):=by
 rcases I4 t with⟨C,_⟩|⟨_,X,o,U,C|⟨ls,C,Y⟩⟩
 ·exact absurd J C
 ·exact C.1
 ·rw[D]at o;injection o with o;subst o;obtain⟨I,Q,V⟩:=wP D;have hi:=Lt I Q V U C;have e:=(h.same (hi.tab F)).1;have:=(L7 hi.ok (c:=c) (by rw[hi.fm];exact F)).1;omega
def v7(l:List gX):List ((Nat->Bool)×Int×Int):=l.map (λ x=>(x.1,x.2.1,0))
theorem E3(l:List gX):(v7 l).length=l.length:=by unfold v7;rw[LI]
theorem Oq{l:List gX}(o:∀x∈l,tP x){i:Nat}{x:gX}(C:l[i]?=some x):(tM (v7 l) i:Int)=x.2.1:=by
 unfold tM v7;rw[LJ,LN,LN,C];simp only[Option.map_some,ME];have:=(o x (LO C)).b0;omega
theorem CF{l:List gX}{ns:Nat->Nat}{mk:Nat->Nat->Nat}{tr:Nat->Nat->Nat->Int}(aT:∀x∈l,tP x)(h1:0<l.length)(h8:l.length<=8)(hn:mV l<=10)(Z:∀c,c<gU l->G3 l c (ns c) (mk c) (tr c))(bC:∀c,c<gU l->ns c<=100){s0:tB}(h0:xK l s0):
  xK l ⟨(Jv (v7 l) (gU l) 256 (λ b=>b) ns mk tr).toArray⟩:=by
 obtain⟨m1,m4,mb,_⟩:=wD l aT hn;have X:∀c st g,c<gU l->st<ns c->g<256->tr c st g= -1\/(0<=tr c st g/\tr c st g<(ns c:Int)):=λ c st g o J hg=>(Z c o).cn.au.rng st g J hg
 have I:∀c,c<gU l->1<=ns c/\ns c<=100:=λ c o=>⟨(Z c o).cn.au.pos,bC c o⟩
 have F:=Bo (v7 l) (gU l) 256 (λ b=>b) ns mk tr (by rw[E3];omega) (by rw[E3];omega) m1 m4 (by omega) (by omega) (λ i hi=>by
   rw[E3]at hi;have e:=Oq aT (LC hi);have:=mb l[i] (LS hi);omega) (λ b V=>V) I (λ c st o J=>by
   rw[E3];exact(Z c o).le J) X
 rw[E3]at F;have C:=Is 256 ns tr (gU l);generalize (⟨(Jv (v7 l) (gU l) 256 (λ b=>b) ns mk tr).toArray⟩:tB)=s at*;generalize hk:(mR 256 (mJ ns tr (gU l))).2.length=k at*;generalize (mR 256 (mJ ns tr (gU l))).2=fi at*;generalize (mR 256 (mJ ns tr (gU l))).1=cs at*;have aW:∀c st g,c<gU l->st<ns c->g<256->tr c st (fi.getD (cs.getD g 0) 0)=tr c st g:=λ c st g o J hg=>by
  have Q:=C.lt g hg;obtain⟨f1,f2⟩:=C.fi1 _ Q;have:=(C.eq _ g f1 hg).1 f2;exact rF.1 this c o st J
 have U:∀c st b,c<gU l->st<ns c->b<256->oN (iA s c st b)=tr c st b:=λ c st b o J V=>by
  unfold iA;rw[F.fc b V,F.fl c st _ o J (C.lt _ V),aW c st _ o J V];exact qI (I c o).2 (X c st _ o J V)
 have aO:∀c,c<gU l->∀b u,lF 256 (b::u)->jM (jO s c) (λ p b=>oN (iA s c p b)) 0 (b::u)=jM (mk c) (tr c) 0 (b::u):=λ c o b u cN=>
  (yX (Z c o).cn.au (λ p D=>(F.ft c p o D).symm) (λ p b D V=>(U c p b o D V).symm) (b::u) 0 (I c o).1 cN).symm
 have bO:∀c,c<gU l->qW s0 c=ns c/\(∀p,p<ns c->jO s0 c p=mk c p)/\∀p b,p<ns c->b<256->oN (iA s0 c p b)=tr c p b:=λ c o=>by
  obtain⟨a1,a2,a3⟩:=(Z c o).same (h0.tab o);exact⟨a1.symm,λ p D=>(a2 p D).symm,λ p b D V=>(a3 p b D V).symm⟩
 refine⟨F.ok,?_,F.fr,F.fm,λ i x hx=>?_,λ c o=>?_,λ c o=>?_,λ c o b u bK=>?_,λ c o=>?_,?_,λ j j' Q Y aL=>?_⟩
 ·rw[F.fz];have:∀d,d<=gU l->rN ns k d<=d*25801:=by
   intro d
   induction d with
   | zero=>intro _;exact zL
   | succ e ih=>
    intro he;have h1:=ih (by omega);have h2:=Nat.mul_le_mul (I e (by omega)).2 (show 1+k<=257 by have:=C.le;omega);rw[rN,Nat.succ_mul];omega
  have h2:=this (gU l) lR;have h3:=Nat.mul_le_mul_right 25801 m4;omega
 ·rw[F.fb i (LG.1 hx).1];exact Oq aT hx
 ·rw[F.fn c o];exact(Z c o).cn.congr (λ p D=>(F.ft c p o D).symm) (λ p b D V=>(U c p b o D V).symm)
 ·rw[F.ft c 0 o (I c o).1];exact(Z c o).z
 ·rw[aO c o b u bK];exact(Z c o).tok b u bK
 ·obtain⟨o1,o2,o3⟩:=bO c o;obtain⟨r,hr,bS⟩:=h0.apr c o;obtain⟨fb,aR,eN,eM⟩:=h0.cl;rw[o1]at hr bS;rw[F.fn c o];refine⟨r,hr,λ p q D hq aL hE=>bS p q D hq aL ?_⟩;have cP:oT (ns c) (iK s0) (λ p j=>oN (bt s0 (qD s0 c p+1+j))):=⟨(I c o).1,λ p j D Q=>by
   obtain⟨b1,b2⟩:=aR j Q;have:=o3 p (fb j) D b1;unfold iA at this;rw[b2]at this;rw[this];exact X c p _ o D b1⟩
  have eL:oT (ns c) (iK s) (λ p j=>oN (bt s (qD s c p+1+j))):=⟨(I c o).1,λ p j D Q=>by
   rw[F.fk]at Q;rw[F.fl c p j o D Q,qI (I c o).2 (X c p _ o D (C.fi1 j Q).1)];exact X c p _ o D (C.fi1 j Q).1⟩
  have cF:=sY.congr eL (λ p D=>(F.ft c p o D).trans (o2 p D).symm) (λ p j _ _=>rfl) r p q D hq hE;refine sY.letters cP (λ g hg=>⟨tJ s (fb g),wJ F.ok (fb g) (aR g hg).1,λ p D=>?_⟩) r p q D hq cF;obtain⟨b1,b2⟩:=aR g hg;have e1:=o3 p (fb g) D b1;have e2:=U c p (fb g) o D b1;unfold iA at e1 e2;rw[b2]at e1;exact e1.trans e2.symm
 ·refine⟨λ j=>fi.getD j 0,λ j Q=>?_,λ b V=>?_,λ j j' Q Y=>?_⟩
  ·rw[F.fk]at Q;obtain⟨f1,f2⟩:=C.fi1 j Q;exact⟨f1,(F.fc _ f1).trans f2⟩
  ·rw[F.fc b V];exact C.fi2 b V
  ·rw[F.fk]at Y;exact C.fi3 j j' Q Y
 ·rw[F.fk]at Q Y;obtain⟨f1,f2⟩:=C.fi1 j Q;obtain⟨f3,f4⟩:=C.fi1 j' Y;have bT:¬mJ ns tr (gU l) (fi.getD j 0) (fi.getD j' 0)=true:=λ e=>by
   have:=(C.eq _ _ f1 f3).2 e;exact aL (f2.symm.trans (this.trans f4))
  apply LF;intro bM;refine bT (rF.2 (λ c o p D=>?_));apply LF;intro bN;refine bM ⟨c,p,o,by rw[F.fn c o];exact D,λ e=>bN ?_⟩;rw[F.fl c p j o D Q,F.fl c p j' o D Y]at e;have e:=congrArg oN e;rw[qI (I c o).2 (X c p _ o D f1),qI (I c o).2 (X c p _ o D f3)]at e;exact e
theorem GE{t:tB}(Y:kC t=0){l:List gX}(F:vE t=some l){ns:Nat->Nat}{mk:Nat->Nat->Nat}{tr:Nat->Nat->Nat->Int}(V:∀c,c<gU l->G3 l c (ns c) (mk c) (tr c))(C:∀c,c<gU l->ns c<=100):
  pH t=(Jv (v7 l) (gU l) 256 (λ b=>b) ns mk tr,0):=by
 obtain⟨I,U,X⟩:=wP F;rcases I4 t with⟨D,_⟩|⟨_,l',o,J,D|⟨ls,D,Z⟩⟩
 ·exact absurd Y D
 ·rw[F]at o;injection o with o;subst o;obtain⟨_,c,Q,hm⟩:=D;exact absurd hm (Zy I J Q (V c Q) (C c Q))
 ·rw[F]at o;injection o with o;subst o;have hi:=Lt I U X J D;have hr:=CF I U X J V C hi;have e:=p9 ⟨rfl,rfl,λ i x x' a b=>by rw[a]at b;injection b with b;rw[b],λ _ _ _=>Iff.rfl⟩ hi hr;rw[Z];injection e with e;have e:=congrArg Array.toList e;simp only at e;rw[e]
end Go.Stn
namespace Go.Proofs.YtgjgjgihceijnaaGreat
open Go.Stn
variable {B n c:Nat}
structure Dx(x:mU):Prop where
 l0:0<=x.2.1
 l3:x.2.1<=3
 at_:x.1 x.2.1.toNat=true
 le:∀j:Nat,x.1 j=true->(j:Int)<=x.2.1
 th:x.2.2.1=46\/x.2.2.1=45\/(65<=x.2.2.1/\x.2.2.1<69)
theorem AR(c:Nat): -1<=jR c/\jR c<=3:=by
 unfold jR;split<;>omega
theorem N9{x:tB}:∀(n:Nat)(f:Nat->Bool)(aZ:Int)(i:Nat)(g:Nat->Bool)(l:Int),oC x n f aZ i=some (g,l)-> -1<=aZ->aZ<=3->(∀j:Nat,f j=true->(j:Int)<=aZ)->(0<=aZ->f aZ.toNat=true)->
  aZ<=l/\l<=3/\(∀j:Nat,g j=true->(j:Int)<=l)/\(0<=l->g l.toNat=true)/\(i<x.size->0<=l)
 | 0,f,aZ,i,g,l,h,_,_,_,_=>by unfold oC at h;cases h
 | n+1,f,aZ,i,g,l,h,h0,h3,hf,ha=>by
  by_cases hi:x.size<=i
  ·rw[B3 hi]at h;injection h with h;injection h with I J;subst I J;exact⟨Int.le_refl _,h3,hf,ha,λ h=>by omega⟩
  ·by_cases D:jR (bt x i)<=aZ
   ·rw[zJ (by omega) D]at h;cases h
   ·rw[C6 (by omega) D]at h;have C:=AR (bt x i);obtain⟨V,Q,U,F,X⟩:=N9 n _ _ _ g l h C.1 C.2 (λ j o=>by
     by_cases e:(j:Int)=jR (bt x i)
     ·omega
     ·simp only[aA e]at o;have:=hf j o;omega) (λ h=>by rw[aB (by omega)])
    exact⟨by omega,Q,U,F,λ _=>by omega⟩
theorem EW{s:tB}{x:mU}(h:oF s=some x):Dx x:=by
 unfold oF at h;split at h
 ·rename_i V Z C _;unfold yT at h;split at h
  ·cases h
  ·rename_i Y;split at h
   ·cases h
   ·rename_i f aZ hg;split at h
    ·cases h
    ·rename_i D;split at h
     ·cases h
     ·rename_i r a _;split at h
      ·injection h with h;subst h;obtain⟨X,J,Q,I,o⟩:=N9 _ _ _ _ _ _ hg (by omega) (by omega) (λ j F=>by cases F) (λ h=>by omega);have o:=o (by omega);refine⟨o,J,I o,Q,?_⟩;unfold jR at D;show bt _ 0=46\/bt _ 0=45\/(65<=bt _ 0/\bt _ 0<69);generalize bt (s.extract C.1 C.2) 0=c at*;apply LF;intro U;refine D ⟨?_,by omega,by omega⟩;rw[aA (by omega)];omega
      ·cases h
 ·cases h
theorem Dr{s:tB}:∀{ps:List (Nat×Nat)}{l:List mU},A6 s ps=some l->∀x∈l,Dx x
 | [],l,h=>by injection h with h;rw[<-h];exact λ x o=>absurd o LU
 | q::ps,l,h=>by
  unfold A6 at h
  cases e:oF (s.extract q.1 q.2)with
  | none=>rw[e]at h;cases h
  | some y=>
   rw[e]at h;simp only at h
   cases e2:A6 s ps with
   | none=>rw[e2]at h;cases h
   | some l2=>
    rw[e2]at h;injection h with h;rw[<-h];intro x o;rcases MB.1 o with C|C
    ·rw[C];exact EW e
    ·exact Dr e2 x C
theorem FE{x:mU}(h:Dx x):(N3 x.2.2.1:Int)=D4 x.2.2.1/\N3 x.2.2.1<256:=by
 have:=h.th;unfold N3 D4;constructor
 ·split
  ·rfl
  ·split
   ·rfl
   ·omega
 ·split
  ·omega
  ·split<;>omega
theorem j7{x:mU}(h:Dx x){c:Nat}{F:Int}(J:F=D4 x.2.2.1){z:Int}:Q9 (x.1,F,z) c=pS (pS c x.2.1) (jR x.2.2.1):=by
 obtain⟨V,X,o,D,C⟩:=h;obtain⟨f,aZ,I,r⟩:=x;simp only at V X o D C J⊢;obtain⟨n,rfl⟩:∃n:Nat,aZ=(n:Int):=⟨aZ.toNat,by omega⟩
 rw[MD]at o;have U:n<4:=by omega
 have Z:vS f 4 c=max c (n+1):=by
  obtain⟨k1,k2,Y⟩:=Ie f 4 c;have k4:=Y n U o;have:∀k,k<=4->vS f k c<=max c (n+1):=by
   intro k
   induction k with
   | zero=>intro _;rw[vS];omega
   | succ k ih=>
    intro hk;have:=ih (by omega);rw[vS];split
    ·rename_i Q;have:=D k Q.1;omega
    ·exact this
  have:=this 4 lR;omega
 unfold Q9;simp only;rw[Z,J];unfold D4 pS jR;rcases C with e|e|e
 ·subst e;simp only[if_true]
  repeat' split
  all_goals omega
 ·subst e;simp only[if_true]
  repeat' split
  all_goals omega
 ·rw[aA (show¬I=46 by omega),aA (show¬I=45 by omega),aB e]
  repeat' split
  all_goals omega
theorem Z7:∀(ls:List mU)(aX:List ((Nat->Bool)×Int×Int)) (c o:Nat),(∀y∈ls,Dx y)->aX.map (λ x=>(x.1,x.2.1))=(ls.map F9).map (λ x=>(x.1,x.2.1))->(c=o\/(ls≠ []/\c=1/\o=0))->
  iP aX c=ls.foldl (λ c x=>pS (pS c x.2.1) (jR x.2.2.1)) o
 | [],aX,c,o,_,hr,hc=>by
  have:aX=[]:=by cases aX with
   | nil=>rfl
   | cons a b=>cases hr
  subst this;rcases hc with e|e
  ·rw[e];rfl
  ·exact absurd rfl e.1
 | y::ls,aX,c,o,hl,hr,hc=>by
  cases aX with
  | nil=>cases hr
  | cons a aX=>
   rw[LK,LK,LK]at hr;injection hr with J Q;injection J with F D;obtain⟨f,U,z⟩:=a;have F:f=y.1:=F;have D:U=D4 y.2.2.1:=D;have C:=hl y MC;rw[iP,List.foldl_cons];refine Z7 ls aX _ _ (λ y C=>hl y (MA _ C)) Q (.inl ?_);rw[F,j7 C D];rcases hc with e|⟨_,I,V⟩
   ·rw[e]
   ·subst I V;have:=C.l0;congr 1;unfold pS;rw[aB (show((0:Nat):Int)<=y.2.1 by omega)];split<;>omega
theorem KU{t:tB}{ls:List mU}(h:A6 t (lT t 10)=some ls)(D:vE t=some (ls.map F9))(hn:Z5 ls<=10):CY ls=gU (ls.map F9):=by
 have o:=(Ij (ls.map F9) (by rw[Ay];exact hn)).2;have C:=(wP D).2.1;unfold gU CY;refine(Z7 ls _ 1 0 (Dr h) o (.inr ⟨λ e=>?_,rfl,rfl⟩)).symm;rw[e]at C;simp at C
open Go.RowKit Go.Stn
theorem Bb.rtab{w0:tW}{O:Nat->Nat}{N:List RN}{R:List RV}{ls:List mU}(C:Um w0 O N R ls){c n:Nat}{o:Nat->Int}{tr:Nat->Nat->Int}(h:Bb N (rH c 0 R) n o tr):G3 (ls.map F9) c n (zR o) tr:=
 ⟨h.1,by unfold zR;rw[h.2.2.1];rfl,λ b u D=>(h.2.2.2 b u D).tok C⟩
theorem JP{ls:List mU}:(ls.map (λ x=>x.2.2.2.np)).sum=Z5 ls:=by
 induction ls with
 | nil=>rfl
 | cons x r ih=>rw[LK,List.sum_cons,ih];rfl
theorem IS{w0:tW}{O:Nat->Nat}{L:List NV}{R:List RV}{ls:List mU}(D:Um w0 O (jB L) R ls)(J:Et L (Z5 ls))(U:gI (jB L))(I:ls.length<=8)(hn:Z5 ls<=10)(Q:L.length<=3000):mO (jB L) (R.map RV.n) (ls.map (λ x=>x.2.2.2.np)):=by
 refine⟨J.1,U,by rw[LI,LI,D.1],λ r n k o C=>?_,by rw[JP];exact hn,by rw[LI,D.1];exact I,by rw[lB];exact Q⟩;rw[LN]at o C
 cases e1:R[r]? with
 | none=>rw[e1]at o;cases o
 | some x=>
  cases e2:ls[r]? with
  | none=>rw[e2]at C;cases C
  | some y=>
   rw[e1]at o;rw[e2]at C;injection o with o;injection C with C;obtain⟨_,_,_,F⟩:=D.2 r x y e1 e2;rw[<-o,<-C];exact⟨F.1,F.2.2⟩
section
theorem dY:(Tryz.prog.info? 68).map (λ i=>(i.zero,i.size,i.bytes))=some (some (.agg #[.slice none 0 0,.slice none 0 0]),2,48):=by kernel_rfl
theorem JH{w:tW}{v:tV}{lw:List Nat}(h:w.ownsRow B 3 1 v n (kK lw))(hn:lw.length=n)(J:0<n):IL w v lw:=by
 subst hn;rcases h.2 with⟨C,I⟩|⟨g,aJ,F,rfl,_,_,o,_⟩
 ·obtain⟨a,c,e⟩:=gA h;rw[C]at e;injection e with _ e _;omega
 ·refine⟨_,aJ,rfl,o,.inr ⟨g,0,rfl,(h.lt g rfl).2,λ i m D=>?_⟩⟩;have:=h.cells (g:=g) rfl i _ (qH D);rw[oM]at this;exact this
theorem Uf.grown{w w':tW}{v1 v2:tV}{Q:Nat->Int}{tr:Nat->Nat->Int}(h:Uf w v1 v2 n Q tr)(hn:0<n){k m q:Nat}{a:Option Addr}(C:w.cell? ⟨k,0,none⟩=some (.slice a m q))(hm:m<=100)(hz:w.heap.size<=w'.heap.size)(I:∀j,j<w.heap.size->j≠k->w'.heap[j]?=w.heap[j]?):Uf w' v1 v2 n Q tr:=by
 obtain⟨D,c1,F,c2,rw,Y,Z,⟨h1,h2,J⟩,U,X,V⟩:=h;have n1:D≠k:=λ e=>by rw[<-e,U 0 hn]at C;cases C
 have n2:F≠k:=λ e=>by
  rw[<-e,X 0 hn]at C;injection C with C;injection C with _ C _;omega
 have n3:∀s,s<n->rw s≠k:=λ s o e=>by rw[<-e,V s 0 o (by omega)]at C;cases C
 exact⟨D,c1,F,c2,rw,Y,Z,⟨by omega,by omega,λ s o=>by have:=J s o;omega⟩,λ s o=>(LP (w:=w) (a:=⟨D,s,none⟩) (I D h1 n1)).trans (U s o),λ s o=>(LP (w:=w) (a:=⟨F,s,none⟩) (I F h2 n2)).trans (X s o),λ s b o hb=>(LP (w:=w) (a:=⟨rw s,b,none⟩) (I (rw s) (J s o) (n3 s o))).trans (V s b o hb)⟩
structure TL(W w:tW)(v:tV)(c:Nat)(cs:List tV)(ns:Nat->Nat)(of:Nat->Nat->Int)(tr:Nat->Nat->Nat->Int):Prop where
 ow:w.ownsRow W.heap.size 68 2 v c cs
 z:c=0->v=.slice none 0 0
 t:∀i,i<c->0<ns i/\ns i<=100/\∃v1 v2,cs[i*2]?=some v1/\cs[i*2+1]?=some v2/\Uf w v1 v2 (ns i) (of i) (tr i)
 bl:Bl W w
 len:cs.length=c*2
theorem TL.start(W:tW):TL W W (.slice none 0 0) 0 [] (λ _=>0) (λ _ _=>0) (λ _ _ _=>0):=⟨World.ownsRow_nil _ _ _ 2,λ _=>rfl,λ i hi=>by omega,bR,rfl⟩
theorem TL.below{W w w':tW}{v:tV}{cs:List tV}{ns:Nat->Nat}{C:Nat->Nat->Int}{tr:Nat->Nat->Nat->Int}(h:TL W w v c cs ns C tr)(o:Bl w w'):TL W w' v c cs ns C tr:=
 ⟨iH h.ow (λ k D=>o.block k (h.ow.lt k D).2),h.z,λ i hi=>by
  obtain⟨a,b,v1,v2,F,I,J⟩:=h.t i hi;exact⟨a,b,v1,v2,F,I,J.below o lR⟩,lZ h.bl o,h.len⟩
def s4{α:Type}(f:Nat->α)(c:Nat)(x:α):Nat->α:=λ i=>if i=c then x else f i
theorem wC{α:Type}(f:Nat->α)(c:Nat)(x:α):s4 f c x c=x:=aB rfl
theorem vZ{α:Type}{f:Nat->α}{x:α}{i:Nat}(h:i≠c):s4 f c x i=f i:=aA h
theorem TL.push{W w w4:tW}{v:tV}{cs:List tV}{ns:Nat->Nat}{of:Nat->Nat->Int}{tr:Nat->Nat->Nat->Int}(h:TL W w v c cs ns of tr){o:Obj}{g aJ n:Nat}{v1 v2:tV}{f:Nat->Int}{t:Nat->Nat->Int}(hn:0<n)(hm:n<=100)(V:Uf w v1 v2 n f t)
  (U:w4.ownsRow W.heap.size 68 2 (.slice (some ⟨g,0,none⟩) (c+1) aJ) (c+1) (cs++[v1,v2])) (C:(w.alloc o).grownBy w4 v.ownBlock):TL W w4 (.slice (some ⟨g,0,none⟩) (c+1) aJ) (c+1) (cs++[v1,v2]) (s4 ns c n) (s4 of c f) (s4 tr c t):=by
 have aO:=C.size;have ez:(w.alloc o).heap.size=w.heap.size+1:=by simp
 have X:∀k,k<w.heap.size->v.ownBlock≠some k->w4.heap[k]?=w.heap[k]? :=λ k X Q=>(C.block k (by omega) (λ e=>Q e.symm)).trans (Below.heap_alloc w o k X)
 have D:=h.len;have J:∀{v1 v2:tV}{n:Nat}{f:Nat->Int}{t:Nat->Nat->Int},0<n->Uf w v1 v2 n f t->Uf w4 v1 v2 n f t:=λ {v1 v2 n f t} hn V=>by
  cases e:v.ownBlock with
  | none=>exact V.below (B:=w.heap.size) ⟨C.os,C.tape,C.output,by omega,λ k aL=>X k aL (by rw[e];exact λ h=>by cases h)⟩ lR
  | some k=>
   have hc:0<c:=by
    apply LF;intro h0;rw[h.z (by omega)]at e
    cases e
   obtain⟨_,Z,u1,u2,Y,_,k3⟩:=h.t 0 hc;rw[Nat.zero_mul]at Y;have F:=h.ow.cells e 0 _ Y;obtain⟨g1,c1,_,_,_,e1,_⟩:=k3;rw[e1,oM]at F;exact V.grown hn (k:=k) F Z (by omega) (λ j hj Q=>X j hj (λ h=>Q (by rw[e]at h;injection h with h;exact h.symm)))
 refine⟨U,λ h=>by omega,λ i hi=>?_,lU h.bl h.ow C,by rw[List.length_append,D];show c*2+2=_;omega⟩;by_cases I:i=c
 ·subst I;rw[wC,wC,wC];refine⟨hn,hm,v1,v2,?_,?_,J hn V⟩
  ·rw[LQ (by omega),D,Nat.sub_self];rfl
  ·rw[LQ (by omega),D,Nat.add_sub_cancel_left];rfl
 ·rw[vZ I,vZ I,vZ I];obtain⟨a,b,u1,u2,Y,k2,k3⟩:=h.t i (by omega);exact⟨a,b,u1,u2,by rw[LR (by omega)];exact Y,by rw[LR (by omega)];exact k2,J a k3⟩
theorem TL.view{W w:tW}{v:tV}{cs:List tV}{ns:Nat->Nat}{D:Nat->Nat->Int}{tr:Nat->Nat->Nat->Int}(h:TL W w v c cs ns D tr)(U:0<c):∃g aJ,v=.slice (some ⟨g,0,none⟩) c aJ/\JC w g c ns D tr:=by
 rcases iL h.ow with e|⟨g,aJ,e⟩
 ·exfalso;obtain⟨a,q,o⟩:=gA h.ow;rw[e]at o;injection o with _ Q _;omega
 ·refine⟨g,aJ,e,λ i hi=>?_,(h.ow.lt g (by rw[e];rfl)).2⟩;obtain⟨_,_,v1,v2,F,I,J⟩:=h.t i hi;have a1:=h.ow.cells (g:=g) (by rw[e];rfl) _ _ F;have C:=h.ow.cells (g:=g) (by rw[e];rfl) _ _ I;rw[oM,Nat.zero_add]at a1 C;exact⟨v1,v2,a1,C,J⟩
attribute [local go_sem ↓] Go.wp_at_zero Go.wp_at_succ
theorem Ws(t:tB)(w:tW):QQ LM 8 #[.string t] w λ e w'=>e=.returned (.tuple #[.string ⟨(pH t).1.toArray⟩,.int .i64 (pH t).2])/\Bl w w':=by
 obtain⟨eS,gL⟩:=Sb t;have eM:=fV (λ w=>Yu t w)
 cases hR:vF t with
 | mk o c=>
 cases o with
 | none=>
  obtain⟨tT,bS⟩:=eS c hR;have HE:QN (pH t=([],(c:Int))):=by
   rcases I4 t with⟨_,h2⟩|⟨h1,_⟩
   ·rw[<-bS];exact h2
   ·exfalso;rw[bS]at h1;omega
  have HR:=fV hR;have d1:((c:Int) !=0)=true:=by rw[aD];omega
  clear hR eS gL bS tT;go_enter func8,ntmps8;go_wp2_with fail;refine(eM.o _).mono ?_;intro e w1 h1;unfold sI at h1;rw[HR.o]at h1;obtain⟨hb,rfl⟩:=h1;have HB:=fV hb;clear hb;go_wp2;go_ret2;exact⟨by rw[HE.o];rfl,HB.o⟩
 | some ls=>
  obtain⟨eX,aO,Y,H0,bT⟩:=gL ls c hR;obtain⟨o1,o2,o3⟩:=wP aO;rw[LI]at o2 o3;have hX:=KU bT aO Y;obtain⟨m1,m4,_,_⟩:=wD (ls.map F9) o1 (by rw[Ay];exact Y);have V:QN (∀(c n:Nat)(mk:Nat->Nat)(tr:Nat->Nat->Int),c<gU (ls.map F9)->G3 (ls.map F9) c n mk tr->100<n->pH t=([],4)):=λ c n mk tr hc h hn=>Zx eX aO hc h hn
  have bN:QN (∀(ns:Nat->Nat)(mk:Nat->Nat->Nat)(tr:Nat->Nat->Nat->Int),(∀c,c<gU (ls.map F9)->G3 (ls.map F9) c (ns c) (mk c) (tr c))->(∀c,c<gU (ls.map F9)->ns c<=100)->pH t=(Jv (v7 (ls.map F9)) (gU (ls.map F9)) 256 (λ b=>b) ns mk tr,0)):=λ ns mk tr hT hA=>GE eX aO hT hA
  have hL:=fV (Dr bT);have HR:=fV hR;have tO:=fV o1;rw[<-hX]at m1 m4 V bN;clear hR eS gL eX aO H0 bT o1 hX;go_enter func8,ntmps8;go_wp2_with fail;refine(eM.o _).mono ?_;intro e w1 h1;unfold sI at h1;rw[HR.o]at h1;obtain⟨hb,fb,O,L,vN,vR,R,rfl,N1,J,hU,Q,h3⟩:=h1;have nN:=Q.1;have hS:0<L.length:=by
   have h1:0<R.length:=by omega
   obtain⟨_,_,_,k⟩:=Q.2 0 _ _ (LC h1) (LC (by omega));have:=k.1;rw[lB]at this;omega
  obtain⟨gN,cN,_,hQ⟩:=J.read hS;obtain⟨gR,cR,hD⟩:=J.aX Q (by omega);have hC:=IS Q hU J.cl o3 Y h3;have c3:=J.c3;have hY:=J.wt.2;have A1:=fV hC;have eL:=fV hQ;have hP:=fV hD;have eO:=fV Q;have cP:=fV hb;have O3:=hb.size;have bC:=fV nN;generalize CY ls=M at*;clear hb J hU Q hQ hD hC hS nN HR eM;go_wp2_with fail;refine(Kr (by omega) eL.o).mono ?_;rintro e w2 ⟨vl,lw,rfl,U,eT,cF,hV⟩;have N0:=U.size;obtain⟨al,cl,H1⟩:=gA eT;subst H1;have qR:=fV (JH eT cF (by omega));have rL:=fV cF;have E6:=fV hV;have hJ:=fV (eL.o.below U lR);have bO:=fV (hP.o.below U lR);have H3:=(U.cell (p:=⟨fb,3,none⟩) hY).trans c3;have hK:fb<w2.heap.size:=by omega
  have aW:=fV (cP.o.trans (U.mono cP.o.size));clear U eT cF hV eL hP c3 cP hY;go_wp2_with fail
  go_loopg [7,8] M (λ gk lv cv wr=>∃(c:Nat)(cs:List tV)(ns:Nat->Nat)(of:Nat->Nat->Int)(tr:Nat->Nat->Nat->Int),cv=.int .i64 (c:Int)/\c+gk=M/\TL w2 wr lv c cs ns of tr/\∀i,i<c->G3 (ls.map F9) i (ns i) (zR (of i)) (tr i)/\(∀s,s<ns i-> -1<=of i s/\of i s<8))
  case atStart=>exact⟨0,[],_,_,_,rfl,by omega,TL.start w2,λ i hi=>by omega⟩
  case round=>
   obtain⟨c,cs,ns,of,tr,rfl,M2,X,hN⟩:=hrel;have C:=fV X;have Z:=fV hN;have O5:=X.bl.size;have nL:=(X.bl.cell (p:=⟨fb,3,none⟩) hK).trans H3;obtain⟨av,cv,ev⟩:=gA X.ow;subst ev;clear X hN;by_cases sW:c<M
   ·obtain⟨d,rfl⟩:∃d,gk=d+1:=⟨gk-1,by omega⟩
    have rO:=dT c M (by omega)
    have hB:=fV (Sl (bE:=c) A1.o (by omega) (hJ.o.below C.o.bl lR) (bO.o.below C.o.bl lR) (qR.o.below C.o.bl lR) rL.o E6.o);go_wp2_with fail;refine hB.o.mono ?_;rintro e w3 ⟨v1,v2,n,f,tt,rfl,eN,hM,qL,bK⟩;have aL:=bK.rtab eO.o;have hH:=bK.2.1;have A3:=bK.1.au.pos;have L1:=eN.size;have hI:=fV hM;obtain⟨g1,c1,g2,c2,rw,e1,e2,_⟩:=hM;subst e1 e2;have bM:=fV (C.o.below eN);have hG:=fV aL;have B1:=fV hH;have hW:QN (Bl w3 (w3.alloc (.cells #[.slice (some ⟨g1,0,none⟩) n c1,.slice (some ⟨g2,0,none⟩) n c2] 68))):=bR.alloc lR _;have A2:(w3.alloc (.cells #[.slice (some ⟨g1,0,none⟩) n c1,.slice (some ⟨g2,0,none⟩) n c2] 68)).cell? ⟨w3.heap.size,0,none⟩=some (.slice (some ⟨g1,0,none⟩) n c1):=(LD _ _ _ 0 rfl).trans rfl;have H4:(w3.alloc (.cells #[.slice (some ⟨g1,0,none⟩) n c1,.slice (some ⟨g2,0,none⟩) n c2] 68)).cell? ⟨w3.heap.size,1,none⟩=some (.slice (some ⟨g2,0,none⟩) n c2):=(LD _ _ _ 1 rfl).trans rfl;clear aL hH bK eN hB C nL;go_upto_region 10 with fail;generalize w3.alloc (.cells #[.slice (some ⟨g1,0,none⟩) n c1,.slice (some ⟨g2,0,none⟩) n c2] 68)=W4 at*;have F:=fV (bM.o.below hW.o);have hE:=fV (hI.o.below hW.o lR);have O0:=F.o.bl.size;clear bM hI;by_cases aT:100<n
    ·have HE:=fV (V.o c n _ _ sW hG.o aT);have tL:decide ((100:Int)<(n:Int))=true:=by simp;omega
     clear aT;go_wp2;go_ret2;exact⟨by rw[HE.o];rfl,aW.o.trans (F.o.bl.mono aW.o.size)⟩
    ·have tL:decide ((100:Int)<(n:Int))=false:=by simp;omega
     have sR:QN (W4.rangeAt w3.heap.size 0 [.slice (some ⟨g1,0,none⟩) n c1,.slice (some ⟨g2,0,none⟩) n c2]):=λ i v hv=>by
      rcases i with _|_|i
      ·simp at hv;subst hv;exact A2
      ·simp at hv;subst hv;exact H4
      ·simp at hv
     have eR:n<=100:=by omega
     clear aT;go_wp2_with (first
      | (refine QO rfl 68 (.tmp 9) rfl w3.heap.size 0 rfl [.slice (some ⟨g1,0,none⟩) n c1,.slice (some ⟨g2,0,none⟩) n c2] _ sR.o underlying68 rfl cW ?_)
      | (at_builtin;refine gB W4 rfl (.tmp 37) (.tmp 39) 61 rfl w2.heap.size 68 (.agg #[.slice none 0 0,.slice none 0 0]) 2 48 underlying61 dY rfl (by decide) (by decide) (.slice av c cv) c cs [.slice (some ⟨g1,0,none⟩) n c1,.slice (some ⟨g2,0,none⟩) n c2] _ rfl F.o.ow _ rfl rfl rfl (by simp[Value.oneCell']) (by omega) (by omega) ?_;intro g5 H6 w5 aR I lH H5;have A0:=fV (F.o.push A3 eR hE.o aR I);clear aR I lH))
     go_roundg d
     case measure=>omega
     case rel=>exact⟨c+1,_,_,_,_,by go_num,by omega,A0.o,λ i hi=>by
      by_cases e:i=c
      ·subst e;rw[wC,wC,wC];exact⟨hG.o,B1.o⟩
      ·rw[vZ e,vZ e,vZ e];exact Z.o i (by omega)⟩
   ·have e:gk=0:=by omega
    subst e;have e:c=M:=by omega
    subst e;have rO:=dF c c (by omega)
    obtain⟨g,aJ,ev,hF⟩:=C.o.view (by omega);injection ev with e1 _ e3;subst e1 e3;have HE:=fV (bN.o ns _ tr (λ i hi=>(Z.o i hi).1) (λ i hi=>(C.o.t i hi).2.1));have rT:=fV (Ih (aJ:=cv) (ru:=v7 (ls.map F9)) (bO.o.below C.o.bl lR) nL hF m4 (λ i hi=>(C.o.t i hi).2.1) (by have:=bC.o;omega) (λ x hx=>by
      obtain⟨j,hj,ej⟩:=List.getElem_of_mem hx;have D:j<ls.length:=by rw[<-bC.o];exact hj
      obtain⟨_,_,k3,_⟩:=eO.o.2 j x _ (by rw[LC hj,ej]) (LC D);rw[k3];exact(hL.o _ (LS D)).th) (by rw[E3,LI,bC.o]) (λ k x hx=>by
      have D:k<ls.length:=by rw[<-bC.o];exact(LG.1 hx).1
      have hy:=LC D;obtain⟨_,_,k3,_⟩:=eO.o.2 k x _ hx hy;have e1:=Oq (l:=ls.map F9) tO.o (i:=k) (x:=F9 (ls[k]'D)) (by rw[LN,hy];rfl);have e2:=(FE (hL.o _ (LS D))).1;rw[k3];have e1:(tM (v7 (ls.map F9)) k:Int)=D4 (ls[k]'D).2.2.1:=e1;omega) (λ i s hi hs=>(Z.o i hi).2 s hs) (λ i s b hi hs hb=>(Z.o i hi).1.cn.au.rng s b hs hb))
    have B2:=fV C.o.bl;clear C Z hF;go_wp2_with fail;refine rT.o.mono ?_;rintro e w5 ⟨rfl,iN⟩;have H2:=fV (lZ B2.o iN);clear iN;go_wp2;go_ret2;exact⟨by rw[HE.o];rfl,aW.o.trans (H2.o.mono aW.o.size)⟩
end
theorem R7(t:tB)(w:tW):
  QQ LM 15 #[.string t] w λ e w'=>e=.returned (.bool true)/\Bl w w':=by
 have Q:=fV (λ w=>AB t w);have U:=fV (λ w=>Ws t w);generalize (pH t).2=n at*;generalize (⟨(pH t).1.toArray⟩:tB)=s at*;have V:(n==n)=true:=by simp
 go_enter func15,ntmps15;go_wp2_with fail;refine(Q.o _).mono ?_;rintro e w1 ⟨rfl,D⟩;have C:=fV D;clear D;go_wp2_with fail;refine(U.o _).mono ?_;rintro e w2 ⟨rfl,F⟩;have J:=fV (C.o.trans (F.mono C.o.size));clear F;go_wp2_with fail;refine(F4 _ _).mono ?_;rintro e X ⟨rfl,I⟩;rw[I];go_wp2;go_ret;exact⟨by simp,J.o⟩
theorem Uv(w:tW):QQ LM 6 #[] w λ e w'=>e=.returned (.bool true)/\Bl w w':=by
 have D:=fV (λ w=>R7 ⟨#[65,32,97,32,46]⟩ w);go_enter func6,ntmps6;go_wp2_with fail;refine(D.o _).mono ?_;rintro e w1 ⟨rfl,C⟩;go_wp2;go_ret;exact⟨rfl,C⟩
theorem DE{s:tB}(h:s.size<=120000)(hi:iF s=true):G5 s=0:=by unfold G5;rw[aA (by omega),aB hi]
theorem Ot(s:tB)(w:tW)(_hs:s.size<=QP):
  QQ LM 86 #[.string s] w λ e w'=>e=.returned (.int .i64 (G5 s))/\Bl w w':=by
 go_enter func86,ntmps86;go_wp2_with fail;refine(E2 s _).mono ?_;rintro e w1 ⟨V,D⟩;have Z:∃A:Array tV,A.size=258/\A.all (·.oneCell')=true/\e=.returned (.tuple #[.agg A,.int .i64 (G5 s)]):=by
  rcases D with⟨_,rfl⟩|⟨Y,h2,bb,vc,ys,rfl,_,X,_⟩
  ·exact⟨_,bL,bZ,rfl⟩
  ·have Q:vc.oneCell'=true:=by obtain⟨va,aU,rfl⟩:=gA X;rfl
   refine⟨(nT (.slice (some ⟨bb,0,none⟩) (jU s) (jU s)) (gM s) vc).toArray,?_,all_oneCell_toArray (yD rfl Q),by rw[DE Y h2]⟩;rw[List.size_toArray];exact nY _ _ _ (by unfold gM;rw[lN];rfl)
 obtain⟨A,J,C,rfl⟩:=Z;have F:=fV J;have I:=fV C;have U:=fV (iD w1 zeroCells72 72 w1.heap.size 258 bL rfl);clear J C D;go_wp2_with (first|(refine wpList_store_mid rfl 72 (.tmp 3) (.tmp 8) rfl w1.heap.size 0 A rfl rfl ?_ ?_ I.o ?_;(rw[F.o];exact U.o);(rw[F.o];exact bP)));go_ret;exact⟨rfl,fX _ 0 _ w1.heap.size (V.alloc V.size _) V.size⟩
section
theorem Iz(s:tB)(w:tW)(D:s.size<=QP):
  QQ LM 58 #[.string s] w λ e w'=>e=.returned (.bool true)/\Bl w w':=by
 go_enter func58,ntmps58;go_wp2_with fail;refine(Ot s _ D).mono ?_;rintro e w1 ⟨rfl,o⟩;go_wp2_with fail;refine(Y0 s _ D).mono ?_;rintro e w2 ⟨rfl,C⟩;go_wp2_with fail;refine(F4 _ _).mono ?_;rintro e F ⟨rfl,rfl⟩;go_wp2;go_ret;exact⟨by simp,o.trans (C.mono o.size)⟩
def KL(B p:Nat)(w:tW)(cs:List wV)(bc:Nat->List tV)(e:Ending)(w':tW):Prop:=
 e=.returned (.bool true)/\∃O' C D o F,PI B p w' O' C D o 0 F/\C.length<=cs.length+1/\(∀f,f<=4->o f=bc f)/\(o 5).length=(o 6).length/\(o 5).length<=(bc 5).length+2/\Below B w w'
attribute [local go_sem ↓] Go.wp_at_zero Go.wp_at_succ dK
theorem Pf{p:Nat}{w:tW}{O:Nat->Nat}{cs:List wV}{vb:Nat->tV}{bc:Nat->List tV}{T:Nat->List (Int×Int×Int)}(h:PI B p w O cs vb bc 0 T)(D V:Int)(hK:JF V)(S X:tB)(hS:S.size<=QP)(hX:X.size<=QP)(al:Bool)(eX:cs.length<=3000000)
  (eR:(bc 5).length=(bc 6).length) (eO:(bc 5).length+1<=3000000):
  QQ LM 29 #[.pointer (some ⟨B,0,none⟩),.agg #[.int .i64 D,.int .i64 V,.string S,.string X],.bool al] w (KL B p w cs bc):=by
 have eM:=h.wt.2;have bK:QN (Bl w (w.alloc (.cells #[.int .i64 D,.int .i64 V,.string S,.string X] 86))):=bR.alloc lR _;have x0:(w.alloc (.cells #[.int .i64 D,.int .i64 V,.string S,.string X] 86)).cell? ⟨w.heap.size,0,none⟩=some (.int .i64 D):=(LD _ _ _ 0 rfl).trans rfl;have x1:(w.alloc (.cells #[.int .i64 D,.int .i64 V,.string S,.string X] 86)).cell? ⟨w.heap.size,1,none⟩=some (.int .i64 V):=(LD _ _ _ 1 rfl).trans rfl;have x2:(w.alloc (.cells #[.int .i64 D,.int .i64 V,.string S,.string X] 86)).cell? ⟨w.heap.size,2,none⟩=some (.string S):=(LD _ _ _ 2 rfl).trans rfl;have x3:(w.alloc (.cells #[.int .i64 D,.int .i64 V,.string S,.string X] 86)).cell? ⟨w.heap.size,3,none⟩=some (.string X):=(LD _ _ _ 3 rfl).trans rfl;have bT:w.heap.size<(w.alloc (.cells #[.int .i64 D,.int .i64 V,.string S,.string X] 86)).heap.size:=by simp
 have Y:=fV (h.below bK.o);have HS:=fV hS;have HX:=fV hX;have bS:=bK.o.size;have I:=fV eR;have eN:=fV eO;have Q:QN (Below B w (w.alloc (.cells #[.int .i64 D,.int .i64 V,.string S,.string X] 86))):=bK.o.mono (LY eM);clear h eR eO hS hX bK;go_enter func29,ntmps29;go_upto_region 1 with fail;generalize w.alloc (.cells #[.int .i64 D,.int .i64 V,.string S,.string X] 86)=W at*;by_cases k1:D=1
 ·have t1:(D==1)=true:=by rw[k1];rfl
  clear k1
  cases al with
  | false=>
   go_wp2;go_ret;exact⟨rfl,_,_,_,_,_,Y.o,LH _,λ _ _=>rfl,I.o,by omega,Q.o⟩
  | true=>
   go_wp2_with fail;refine(R7 S _).mono ?_;rintro e w2 ⟨rfl,C⟩;have U:=fV (Y.o.below C);have J:=fV (Q.o.trans (C.mono (MG (LY eM) bS)));clear C x0 x1 x2 x3;go_wp2;go_ret;exact⟨rfl,_,_,_,_,_,U.o,LH _,λ _ _=>rfl,I.o,by omega,J.o⟩
 ·have t1:(D==1)=false:=by rw[aC];exact k1
  by_cases k2:D=2
  ·have t2:(D==2)=true:=by rw[k2];rfl
   clear k1 k2
   cases al with
   | false=>
    go_wp2;go_ret;exact⟨rfl,_,_,_,_,_,Y.o,LH _,λ _ _=>rfl,I.o,by omega,Q.o⟩
   | true=>
    go_wp2_with fail;refine(Iz S _ HS.o).mono ?_;rintro e w2 ⟨rfl,C⟩;have U:=fV (Y.o.below C);have J:=fV (Q.o.trans (C.mono (MG (LY eM) bS)));clear C x0 x1 x2 x3;go_wp2;go_ret;exact⟨rfl,_,_,_,_,_,U.o,LH _,λ _ _=>rfl,I.o,by omega,J.o⟩
  ·have t2:(D==2)=false:=by rw[aC];exact k2
   by_cases k3:D=3
   ·have t3:(D==3)=true:=by rw[k3];rfl
    clear k1 k2 k3
    cases al with
    | false=>
     go_wp2;go_ret;exact⟨rfl,_,_,_,_,_,Y.o,LH _,λ _ _=>rfl,I.o,by omega,Q.o⟩
    | true=>
     go_wp2_with fail;refine(Ik Y.o S X HS.o HX.o I.o eN.o).mono ?_;rintro e w2 ⟨rfl,O2,hB,hJ,T2,F,cF,hE,hD,C⟩;have U:=fV F;have J:=fV (Q.o.trans C);clear F C x0 x1 x2 x3;go_wp2;go_ret;exact⟨rfl,_,_,_,_,_,U.o,LH _,cF,by omega,by omega,J.o⟩
   ·have t3:(D==3)=false:=by rw[aC];exact k3
    by_cases k4:D=4
    ·have t4:(D==4)=true:=by rw[k4];rfl
     clear k1 k2 k3 k4;go_wp2_with fail;refine(Mp Y.o S HS.o eX).mono ?_;rintro e w2 ⟨rfl,O2,hL,hB,F,hA,C⟩;have U:=fV F;have J:=fV (Q.o.trans C);clear F C x0 x1 x2 x3;go_wp2;go_ret;exact⟨rfl,_,_,_,_,_,U.o,hA,λ _ _=>rfl,I.o,by omega,J.o⟩
    ·have t4:(D==4)=false:=by rw[aC];exact k4
     have b0:=Y.o.b0;have c0:=Y.o.wb 0 (by omega);obtain⟨a0,q0,e0⟩:=gA b0;obtain⟨n,en⟩:=xE (cs.length)
     rw[en]at e0 b0 eX;rw[e0]at c0 b0;have bM:=fV b0;have HN:=fV en;clear b0 e0 en k1 k2 k3 k4;by_cases cN:n=0
     ·have tn:((n:Int)==0)=true:=by rw[cN];rfl
      clear cN;go_wp2;go_ret;exact⟨rfl,_,_,_,_,_,Y.o,LH _,λ _ _=>rfl,I.o,by omega,Q.o⟩
     ·have tn:((n:Int)==0)=false:=by rw[aC];omega
      obtain⟨Z,hM,ev,_,gL⟩:=bM.o.form (by omega);injection ev with e1 e2 e3;subst e1;obtain⟨j,ej⟩:=xE (Y7 V n)
      have hH:j<n:=by rw[<-ej];exact CK V (by omega)
      have eL:=λ W=>Xj V n hK (by omega) (by omega) W
      rw[ej]at eL;have hG:=fV eL;obtain⟨t,ht⟩:∃t,cs[j]?=some t:=⟨_,LC (by rw[HN.o];exact hH)⟩
      have hF:=Y.o.cu j t ht;obtain⟨u0,u1⟩:=Im cs j t ht;have bO:∀i,(⟨Z,0,none⟩:Addr).add i=⟨Z,i,none⟩:=λ i=>by unfold Addr.add;split<;>simp_all
      have y0:=bM.o.cells rfl _ _ u0;have y1:=bM.o.cells rfl _ _ u1;rw[bO]at y0 y1;have hN:=iI j n (by omega)
      have l1:Ax W.drew (.pointer (some ⟨Z,j*2,none⟩)):=⟨Z,j*2,_,_,rfl,y0,y1⟩
      have q1:Xu W.drew (.pointer (some ⟨Z,j*2,none⟩))=.agg #[.pointer (some ⟨t.cb,0,none⟩),.pointer (some ⟨t.rb,0,none⟩)]:=Az y0 y1;have aT:QN (Bl W (W.alloc (.cells #[.pointer none,.pointer none] 96))):=bR.alloc lR _;have eS:=Y.o.wt.2;have hC:=(aT.o.cell (p:=⟨B,0,none⟩) eS).trans c0;have hI:=(aT.o.cell (p:=⟨w.heap.size,1,none⟩) bT).trans x1;have aO:=(aT.o.cell (p:=⟨Z,j*2,none⟩) gL).trans y0;have aR:=(aT.o.cell (p:=⟨Z,j*2+1,none⟩) gL).trans y1;have l2:Ax (W.alloc (.cells #[.pointer none,.pointer none] 96)).drew (.pointer (some ⟨Z,j*2,none⟩)):=⟨Z,j*2,_,_,rfl,aO,aR⟩
      have q2:Xu (W.alloc (.cells #[.pointer none,.pointer none] 96)).drew (.pointer (some ⟨Z,j*2,none⟩))=.agg #[.pointer (some ⟨t.cb,0,none⟩),.pointer (some ⟨t.rb,0,none⟩)]:=Az aO aR;have l3:Ax (W.alloc (.cells #[.pointer none,.pointer none] 96)) (.pointer (some ⟨Z,j*2,none⟩)):=⟨Z,j*2,_,_,rfl,aO,aR⟩
      have q3:Xu (W.alloc (.cells #[.pointer none,.pointer none] 96)) (.pointer (some ⟨Z,j*2,none⟩))=.agg #[.pointer (some ⟨t.cb,0,none⟩),.pointer (some ⟨t.rb,0,none⟩)]:=Az aO aR;have HT:=fV ht;clear ej eL bO u0 u1 e2 e3 cN ht hF;go_upto_region 12 with fail
      go_cut [7] from 53 to 66 (λ v wc=>v=.pointer (some ⟨W.heap.size,0,none⟩)/\wc=(W.alloc (.cells #[.pointer (some ⟨t.cb,0,none⟩),.pointer (some ⟨t.rb,0,none⟩)] 96)).drew)
      case first=>
       go_region_with (go_at_call 61;refine(hG.o _).mono ?_;rintro e w3 ⟨rfl,aL⟩;rw[aL];clear aL w3)
       all_goals
        go_wp2;go_meet
        case rel=>exact⟨rfl,rfl⟩
      case rest=>
       obtain⟨rfl,bC⟩:=hcut;clear l1 q1 l2 q2 l3 q3 y0 y1 aO aR c0 hC hI bM tn aT;have bN:QN (Bl W wc):=by
        have:=(Below.refl W.heap.size W).alloc lR (.cells #[.pointer (some ⟨t.cb,0,none⟩),.pointer (some ⟨t.rb,0,none⟩)] 96);unfold QN;rw[bC];exact⟨this.os,this.tape,this.output,this.size,this.block⟩
       have z0:wc.cell? ⟨W.heap.size,0,none⟩=some (.pointer (some ⟨t.cb,0,none⟩)):=by rw[bC];exact(LD _ _ _ 0 rfl).trans rfl
       have z1:wc.cell? ⟨W.heap.size,1,none⟩=some (.pointer (some ⟨t.rb,0,none⟩)):=by rw[bC];exact(LD _ _ _ 1 rfl).trans rfl
       have d0:=(bN.o.cell (p:=⟨w.heap.size,0,none⟩) bT).trans x0;have d3:=(bN.o.cell (p:=⟨w.heap.size,3,none⟩) bT).trans x3;have aW:=fV (Y.o.below bN.o);have cP:=fV (Q.o.trans (bN.o.mono (LY eS)));have eT:=fV (aW.o.cu j t HT.o);clear bC x0 x1 x2 x3;by_cases k5:D=5
       ·have t5:(D==5)=true:=by rw[k5];rfl
        have r1:=eT.o.rf.c1;clear k5;go_wp2_with (first|(go_at_call 32;refine(Gh eT.o.ct).mono ?_;rintro e w3 ⟨rfl,aL⟩;rw[aL];clear aL));go_ret;exact⟨by simp,_,_,_,_,_,aW.o,LH _,λ _ _=>rfl,I.o,by omega,cP.o⟩
       ·have t5:(D==5)=false:=by rw[aC];exact k5
        by_cases k6:D=6
        ·have t6:(D==6)=true:=by rw[k6];rfl
         clear k5 k6;go_wp2_with fail;refine(Xz aW.o HT.o X I.o (by have:=eN.o;omega) zL).mono ?_;rintro e w2 ⟨rfl,O2,hL,hB,hJ,T2,F,hA,cF,hE,hD,C⟩;have U:=fV F;have J:=fV (cP.o.trans C);clear F C z0 z1 d0 d3;go_wp2;go_ret;exact⟨rfl,_,_,_,_,_,U.o,by omega,cF,by omega,by omega,J.o⟩
        ·have t6:(D==6)=false:=by rw[aC];exact k6
         clear k5 k6;go_wp2;go_ret;exact⟨rfl,_,_,_,_,_,aW.o,LH _,λ _ _=>rfl,I.o,by omega,cP.o⟩
end
theorem Q5(ops:List Ui)(a:Option Addr)(aJ:Nat)(w:tW)(eN:ops=[]\/∃b o,a=some ⟨b,o,none⟩/\FT w b o ops)(hM:∀op∈ops,op.x.size<=QP)(al:Bool)(hn:ops.length<=1100000):
  QQ LM 14 #[.slice a ops.length aJ,.bool al] w λ e w'=>e=.returned (.bool true)/\Bl w w':=by
 have HO:=fV eN;have lH:=fV hM;have hA:=fV (PI.start w);have hD:QN (Bl w (w.alloc (.cells #[.slice none 0 0,.slice none 0 0,.slice none 0 0,.slice none 0 0,.slice none 0 0,.slice none 0 0,.slice none 0 0] 91))):=bR.alloc lR _;obtain⟨n,en⟩:=xE (ops.length)
 have HN:=fV en;rw[en]at hn ⊢;clear eN en hM;go_enter func14,ntmps14;go_upto_region 2 with fail;generalize w.alloc (.cells #[.slice none 0 0,.slice none 0 0,.slice none 0 0,.slice none 0 0,.slice none 0 0,.slice none 0 0,.slice none 0 0] 91)=W at*;go_upto_block 0 with fail
 go_cut [6] from 16 to 45 (λ _ wc=>∃(O:Nat->Nat)(cs:List wV)(vb:Nat->tV)(bc:Nat->List tV)(T:Nat->List (Int×Int×Int)) (p:Nat),PI w.heap.size p wc O cs vb bc 0 T/\(∀f,1<=f->f<=4->(bc f).length=p)/\(bc 5).length=(bc 6).length/\cs.length<=n/\p+(bc 5).length<=2*n/\Bl w wc)
 case first=>
  go_wp2_with fail
  go_loopw [6] (λ ii wr=>∃(k:Nat)(O:Nat->Nat)(cs:List wV)(vb:Nat->tV)(bc:Nat->List tV)(T:Nat->List (Int×Int×Int)) (p:Nat),k<=n/\ii=.int .i64 (k:Int)/\PI w.heap.size p wr O cs vb bc 0 T/\(∀f,1<=f->f<=4->(bc f).length=p)/\(bc 5).length=(bc 6).length/\cs.length<=k/\p+(bc 5).length<=2*k/\Bl w wr) (λ ii _=>n-(intOf ii).toNat)
  case atStart=>exact⟨0,_,_,_,_,_,0,zL,rfl,hA.o,λ _ _ _=>rfl,rfl,lR,lR,hD.o⟩
  case round=>
   obtain⟨k,O,cs,vb,bc,T,p,hk,rfl,bC,hl,bK,eL,aL,bO⟩:=hrel;have HP:=fV bC;have HL:=fV hl;have bN:=fV bK;have U:=fV aL;have Q:=fV bO;clear bC hl bK aL bO hA hD;by_cases aO:k<n
   ·have nN:=iI k n (by omega)
    rcases HO.o with e|⟨b,o,ea,cF⟩
    ·rw[e]at HN;have:=HN.o;simp at this;omega
    subst ea;obtain⟨op,cN⟩:∃op,ops[k]?=some op:=⟨_,LC (by rw[HN.o];exact aO)⟩
    have hK:=fV (nB (cF.c k op cN) Q.o cF.lt);obtain⟨hG,hB⟩:=cF.ok op (LO cN);obtain⟨kd,on,S,X⟩:=op;simp only at hG hB;have hL:(bc 5).length+1<=3000000:=by have:=U.o;omega
    have hN:=fV (Pf HP.o kd on hG S X hB (lH.o _ (LO cN)) al (by omega) bN.o hL);clear cN cF hG hB hL;go_upto_region 6 with(first
     | (refine QO rfl 86 (.tmp 25) rfl b (o+k*4) rfl [.int .i64 kd,.int .i64 on,.string S,.string X] _ hK.o underlying86 rfl fQ ?_)
     | (go_at_call 29;refine hN.o.mono ?_;rintro e w2 ⟨rfl,O2,hI,rL,hF,T2,eS,qR,hS,eO,hY,hT⟩))
    have hE:=fV eS;have hC:QN (hI.length<=k+1):=by unfold QN;omega
    have gL:QN (∀f,1<=f->f<=4->(hF f).length=p):=λ f h1 h2=>by rw[hS f h2];exact HL.o f h1 h2
    have aW:=fV eO;have V:QN (p+(hF 5).length<=2*(k+1)):=by have:=U.o;unfold QN;omega
    have eT:=fV (Q.o.trans hT);clear eS qR hS eO hY hT hN hK HP HL bN U Q eL;go_upto_region 7 with fail;go_upto_if 31 with fail
    go_cut [8] from 29 to 33 (λ bb wc=>bb=.bool true/\∃(O:Nat->Nat)(cs:List wV)(vb:Nat->tV)(bc:Nat->List tV)(T:Nat->List (Int×Int×Int)) (p:Nat),PI w.heap.size p wc O cs vb bc 0 T/\(∀f,1<=f->f<=4->(bc f).length=p)/\(bc 5).length=(bc 6).length/\cs.length<=k+1/\p+(bc 5).length<=2*(k+1)/\Bl w wc)
    case first=>
     by_cases h3:k%3=2
     ·have t3:(((k:Int)%3)==2)=true:=by rw[beq_iff_eq];omega
      clear h3;go_wp2_with fail;refine(Ac hE.o gL.o rfl aW.o.symm (by have:=V.o;omega)).mono ?_;rintro e w3 ⟨rfl,O3,bS,cP,C,D,bM,aT,I⟩;have Y:=fV C;have F:=fV (eT.o.trans I);have hH:=fV D;have hP:=fV bM;have nL:=fV aT;clear C I D bM aT;go_wp2;go_meet
      case rel=>exact⟨rfl,O3,hI,bS,cP,T2,_,Y.o,hH.o,by rw[hP.o,nL.o],hC.o,by rw[hP.o];exact V.o,F.o⟩
     ·have t3:(((k:Int)%3)==2)=false:=by rw[aC];omega
      clear h3;go_wp2;go_meet
      case rel=>exact⟨rfl,O2,hI,rL,hF,T2,p,hE.o,gL.o,aW.o,hC.o,V.o,eT.o⟩
    case rest=>
     obtain⟨rfl,O3,iN,bS,cP,T3,p3,C,D,aR,hR,eR,I⟩:=hcut;have Y:=fV C;have hH:=fV D;have hX:=fV aR;have qL:=fV hR;have hU:=fV eR;have F:=fV I;have bT:=fV (Z9 C D aR (by omega));clear C D aR hR eR I hE gL aW hC V eT;go_wp2_with fail;refine bT.o.mono ?_;rintro e w4 ⟨rfl,J⟩;have Z:=fV (Y.o.below J);have hJ:=fV (F.o.trans (J.mono F.o.size));clear J;go_wp2;go_roundw
     case rel=>exact⟨k+1,O3,iN,bS,cP,T3,p3,aO,by go_num,Z.o,hH.o,hX.o,qL.o,hU.o,hJ.o⟩
     case measure=>simp[intOf];omega
   ·have dk:=dF k n (by omega)
    have ek:k=n:=by omega
    subst ek;go_wp2;go_meet
    case rel=>exact⟨O,cs,vb,bc,T,p,HP.o,HL.o,bN.o,eL,U.o,Q.o⟩
 case rest=>
  obtain⟨O,cs,vb,bc,T,p,bC,hl,bK,eL,aL,bO⟩:=hcut;have HP:=fV bC;have HL:=fV hl;have bN:=fV bK;have U:=fV aL;have Q:=fV bO;clear bC hl bK aL bO hA hD HO HN;go_wp2_with fail;refine(Ac HP.o HL.o rfl bN.o.symm (by have:=U.o;omega)).mono ?_;rintro e w3 ⟨rfl,O3,bS,cP,C,D,bM,aT,I⟩;have Y:=fV C;have F:=fV (Q.o.trans I);have bT:=fV (Z9 C D (by rw[bM,aT]) (by have:=U.o;omega));clear C I D bM aT HP Q;go_wp2_with fail;refine bT.o.mono ?_;rintro e w4 ⟨rfl,J⟩;have Z:=fV (Y.o.below J);have hJ:=fV (F.o.trans (J.mono F.o.size));clear J bT Y F;have b0:=Z.o.b0;have c0:=Z.o.wb 0 (by omega);obtain⟨a0,q0,e0⟩:=gA b0;obtain⟨m,em⟩:=xE (cs.length)
  rw[em]at e0 b0 eL;rw[e0]at c0 b0;have eX:=fV b0;have HM:=fV em;clear b0 e0 em;go_wp2_with fail
  go_loopw [12] (λ ii wr=>∃k:Nat,k<=m/\ii=.int .i64 (k:Int)/\wr=w4) (λ ii _=>m-(intOf ii).toNat)
  case atStart=>exact⟨0,zL,rfl,rfl⟩
  case round=>
   obtain⟨k,hk,rfl,hW⟩:=hrel;rw[hW];clear hW;by_cases aO:k<m
   ·obtain⟨g0,rO,ev,_,rT⟩:=eX.o.form (by omega);injection ev with e1 e2 e3;subst e1;obtain⟨t,ht⟩:∃t,cs[k]?=some t:=⟨_,LC (by rw[HM.o];exact aO)⟩
    have hV:=fV (Z.o.cu k t ht);obtain⟨u0,u1⟩:=Im cs k t ht;have eM:∀i,(⟨g0,0,none⟩:Addr).add i=⟨g0,i,none⟩:=λ i=>by unfold Addr.add;split<;>simp_all
    have y0:=eX.o.cells rfl _ _ u0;have y1:=eX.o.cells rfl _ _ u1;rw[eM]at y0 y1;have nN:=iI k m (by omega)
    have r1:=hV.o.rf.c1;clear eM u0 u1 e2 e3 ht;go_wp2_with (first|(go_at_call 32;refine(Gh hV.o.ct).mono ?_;rintro e w5 ⟨rfl,hQ⟩;rw[hQ];clear hQ));go_roundw
    case rel=>exact⟨k+1,aO,by go_num,trivial⟩
    case measure=>simp[intOf];omega
   ·have dk:=dF k m (by omega)
    go_wp2;go_ret;exact⟨rfl,hJ.o⟩
theorem Nk(w:tW):QQ LM 13 #[] w λ e w'=>e=.returned (.bool true)/\Bl w w':=by
 go_enter func13,ntmps13;go_wp2_with fail;refine(Va _).mono ?_;rintro e w1 ⟨rfl,Q⟩;have D:=fV Q;have J:SM.size<=QP:=by rw[Qm];decide
 clear Q;generalize SM=S at*;have V:QN (FT (w1.alloc (.cells #[.int .i64 4,.int .i64 0,.string S,.string ⟨#[]⟩,.int .i64 6,.int .i64 0,.string ⟨#[]⟩,.string ⟨#[97,98]⟩,.int .i64 5,.int .i64 0,.string ⟨#[]⟩,.string ⟨#[]⟩] 86)) w1.heap.size 0 [⟨4,0,S,⟨#[]⟩⟩,⟨6,0,⟨#[]⟩,⟨#[97,98]⟩⟩,⟨5,0,⟨#[]⟩,⟨#[]⟩⟩]):=by
  have hz:(⟨#[]⟩:tB).size<=QP:=by decide
  refine⟨λ k op Y=>?_,λ op C=>?_,by simp⟩
  ·intro i v hv;have X:k=0\/k=1\/k=2:=by
    have:=(LG.1 Y).1;simp at this;omega
   have Z:i=0\/i=1\/i=2\/i=3:=by
    have:=(LG.1 hv).1;simp[Ui.cells]at this;omega
   rw[LD _ _ _ _ rfl];rcases X with rfl|rfl|rfl
   all_goals
    simp at Y;subst Y;rcases Z with rfl|rfl|rfl|rfl
    all_goals
     simp[Ui.cells]at hv;subst hv
     rfl
  ·simp only[MB,LU,or_false]at C;rcases C with rfl|rfl|rfl
   ·exact⟨by unfold JF;simp,J⟩
   ·exact⟨by unfold JF;simp,hz⟩
   ·exact⟨by unfold JF;simp,hz⟩
 have F:=fV (D.o.alloc D.o.size (.cells #[.int .i64 4,.int .i64 0,.string S,.string ⟨#[]⟩,.int .i64 6,.int .i64 0,.string ⟨#[]⟩,.string ⟨#[97,98]⟩,.int .i64 5,.int .i64 0,.string ⟨#[]⟩,.string ⟨#[]⟩] 86));clear J;go_wp2_with fail;refine(Q5 [⟨4,0,S,⟨#[]⟩⟩,⟨6,0,⟨#[]⟩,⟨#[97,98]⟩⟩,⟨5,0,⟨#[]⟩,⟨#[]⟩⟩] _ 3 _ (.inr ⟨_,_,rfl,V.o⟩) (λ op C=>by simp only[MB,LU,or_false]at C;rcases C with rfl|rfl|rfl;exact(show(⟨#[]⟩:tB).size<=QP by decide);exact(show(⟨#[97,98]⟩:tB).size<=QP by decide);exact(show(⟨#[]⟩:tB).size<=QP by decide)) false (by simp)).mono ?_;rintro e w2 ⟨rfl,I⟩;have U:=fV (F.o.trans (I.mono F.o.size));clear I;go_wp2;go_ret;exact⟨rfl,U.o⟩
theorem Fm(ops:List Ui)(a:Option Addr)(aJ:Nat)(w:tW)(D:ops=[]\/∃b o,a=some ⟨b,o,none⟩/\FT w b o ops)(I:∀op∈ops,op.x.size<=QP)(hn:ops.length<=1100000):
  QQ LM 5 #[.slice a ops.length aJ] w λ e w'=>e=.returned (.bool true)/\Bl w w':=by
 have Z:=fV D;have X:=fV I;clear D I;go_enter func5,ntmps5;go_wp2_with fail;refine(Nk _).mono ?_;rintro e w1 ⟨rfl,U⟩;have F:=fV U;clear U;go_wp2_with fail;refine(Uv _).mono ?_;rintro e w2 ⟨rfl,J⟩;have C:=fV (F.o.trans (J.mono F.o.size));clear J F;go_wp2_with fail;refine(Q5 ops a aJ w2 (Z.o.imp id (λ⟨b,o,e,h⟩=>⟨b,o,e,⟨λ k op Y=>nB (h.c k op Y) C.o h.lt,h.ok,Nat.lt_of_lt_of_le h.lt C.o.size⟩⟩)) X.o true hn).mono ?_;rintro e w3 ⟨rfl,Q⟩;have V:=fV (C.o.trans (Q.mono C.o.size));clear Q;go_wp2;go_ret;exact⟨rfl,V.o⟩
