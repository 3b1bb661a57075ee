import Derived.Test.YtgjgjgihceijnaaGreatG26
open List renaming getElem?_cons_succ->aL,append_assoc->aO,length_append->aR,getElem?_eq_getElem->aT,getD_eq_getElem?_getD->bC,getElem?_cons_zero->bD,mem_singleton->bK,not_mem_nil->bM,mem_append->bN,getElem?_map->bO,getElem?_eq_none->bS,getElem?_append_right->cF,mem_cons_self->cL,length_cons->cN,append_nil->cP,mem_cons_of_mem->cR,getD_cons_succ->cT,mem_cons->eL,length_map->eR,mem_map->eX
open Nat renaming le_refl->bT,zero_add->cO,sub_self->eM,add_zero->gL,sub_zero->gN,zero_le->gO
open Int renaming toNat_natCast->eN
open Option renaming getD_some->eO,map_some->eS
open Bool renaming or_eq_true->eT
namespace Go.Stn
def Ch (f:Nat->Bool):Prop:=∃b,b<256/\f b=true
def M3 (f:Nat->Bool):Prop:=∀b,126<b->f b=false
theorem Ud {t:ByteArray}{a a':Nat}{x:Int}(h:wD t a=some (x,a')):∃b:Nat,x=(b:Int)/\b<=126:=by
 unfold wD at h;split at h
 ·injection h with h;injection h with h1 h2;exact⟨10,by rw[←h1];rfl,by omega⟩
 ·split at h
  ·injection h with h;injection h with h1 h2;exact⟨32,by rw[←h1];rfl,by omega⟩
  ·split at h
   ·rename_i hv;injection h with h;injection h with h1 h2;have hv:=hv.1;unfold gY at hv;rw[decide_eq_true_eq]at hv;exact⟨x.toNat,by omega,by omega⟩
   ·cases h
theorem vA {t sp:ByteArray}{a a':Nat}{x:Int}(h:cM t sp a=some (x,a')):∃b:Nat,x=(b:Int)/\b<=126:=by
 unfold cM at h;split at h
 ·exact Ud h
 ·split at h
  ·rename_i hv;injection h with h;injection h with h1 h2;unfold dY gY at hv;rw[Bool.and_eq_true,decide_eq_true_eq]at hv;exact⟨x.toNat,by omega,by omega⟩
  ·cases h
theorem H9 {f:Nat->Bool}{x y:Nat}(h:x<=y)(hy:y<=126):Ch (cK f x y):=⟨x,by omega,by unfold cK;simp;omega⟩
theorem R1 {f:Nat->Bool}{x y:Nat}(hf:M3 f)(hy:y<=126):M3 (cK f x y):=fun b hb=>by
 unfold cK;rw[hf b hb];simp;omega
theorem H8 {t:ByteArray}{f g:Nat->Bool}{a a':Nat}(hf:M3 f)(h:cW t f a=some (g,a')):Ch g/\M3 g:=by
 unfold cW at h
 cases e:cM t dN a with
 | none=>rw[e]at h;cases h
 | some y=>
  obtain⟨x,a1⟩:=y;obtain⟨b,rfl,hb⟩:=vA e;rw[e]at h;simp only at h;split at h
  ·injection h with h;injection h with h1 h2;rw[←h1];exact⟨H9 (bT _) hb,R1 hf hb⟩
  ·cases e2:cM t dN (a1+1)with
   | none=>rw[e2]at h;cases h
   | some z=>
    obtain⟨y,a2⟩:=z;obtain⟨c,rfl,hc⟩:=vA e2;rw[e2]at h;simp only at h;split at h
    ·cases h
    ·rename_i hlt;injection h with h;injection h with h1 h2;rw[←h1];exact⟨H9 (by omega) hc,R1 hf hc⟩
theorem Dp {t:ByteArray}:∀(n:Nat) (f g:Nat->Bool) (a a':Nat),Ch f->M3 f->eV t n f a=some (g,a')->Ch g/\M3 g:=by
 intro n
 induction n with
 | zero=>intro f g a a' _ _ h;cases h
 | succ k ih=>
  intro f g a a' h1 h2 h;rw[eV]at h;split at h
  ·injection h with h;injection h with h3 _;rw[←h3];exact⟨h1,h2⟩
  ·cases e:cW t f a with
   | none=>rw[e]at h;cases h
   | some y=>
    obtain⟨f2,a2⟩:=y;rw[e]at h;obtain⟨k1,k2⟩:=H8 h2 e;exact ih f2 g a2 a' k1 k2 h
theorem Cc {t:ByteArray}{g:Nat->Bool}{a a':Nat}(h:jX t a=some (g,a')):Ch g/\M3 g:=by
 unfold jX at h
 cases e:cW t aP a with
 | none=>rw[e]at h;cases h
 | some y=>
  obtain⟨f2,a2⟩:=y;rw[e]at h;obtain⟨k1,k2⟩:=H8 (fun _ _=>rfl) e;exact Dp _ f2 g a2 a' k1 k2 h
theorem Ap {t:ByteArray}{g:Nat->Bool}{a a':Nat}(h:cD t a=some (g,a')):Ch g:=by
 unfold cD at h;split at h
 ·unfold wB at h;split at h
  ·cases e:jX t (a+1+1)with
   | none=>rw[e]at h;cases h
   | some y=>
    obtain⟨f2,a2⟩:=y;rw[e]at h;obtain⟨_,k2⟩:=Cc e;injection h with h;injection h with h3 _;rw[←h3];exact⟨255,by omega,by show(!(f2 255))=true;rw[k2 255 (by omega)];rfl⟩
  ·exact(Cc h).1
 ·split at h
  ·injection h with h;injection h with h3 _;rw[←h3];exact⟨0,by omega,rfl⟩
  ·cases e:cM t dM a with
   | none=>rw[e]at h;cases h
   | some y=>
    obtain⟨x,a1⟩:=y;obtain⟨b,rfl,hb⟩:=vA e;rw[e]at h;injection h with h;injection h with h3 _;rw[←h3];exact H9 (bT _) hb
def Rx.good (r:Rx):Prop:=∀f∈r.fns,Ch f
def xN (ex:Nat->Option (Rx×Nat)):Prop:=∀a r a',ex a=some (r,a')->r.good
theorem Ry {r r2:Rx}(h:r.good)(k:r2.good):(Rx.cat r r2).good:=fun f hf=>by
 rcases bN.1 hf with h1 | h1
 ·exact h f h1
 ·exact k f h1
theorem Py {r r2:Rx}(h:r.good)(k:r2.good):(Rx.alt r r2).good:=fun f hf=>by
 rcases bN.1 hf with h1 | h1
 ·exact h f h1
 ·exact k f h1
theorem Fw {t:ByteArray}{ex:Nat->Option (Rx×Nat)}(hx:xN ex):xN (fI t ex):=fun a r a' h=>by
 unfold fI at h;split at h
 ·cases e:ex (a+1)with
  | none=>rw[e]at h;cases h
  | some y=>
   obtain⟨r2,a2⟩:=y;rw[e]at h;simp only at h;split at h
   ·injection h with h;injection h with h1 _;rw[←h1];exact hx _ _ _ e
   ·cases h
 ·cases e:cD t a with
  | none=>rw[e]at h;cases h
  | some y=>
   obtain⟨f,a2⟩:=y;rw[e]at h;injection h with h;injection h with h1 _;rw[←h1];intro g hg;have hg:g∈ [f]:=hg;rw[bK]at hg;rw[hg];exact Ap e
theorem zW {t:ByteArray}{ex:Nat->Option (Rx×Nat)}(hx:xN ex):xN (bY t ex):=fun a r a' h=>by
 unfold bY at h
 cases e:fI t ex a with
 | none=>rw[e]at h;cases h
 | some y=>
  obtain⟨r2,a2⟩:=y;have hg:=Fw hx _ _ _ e;rw[e]at h;simp only at h;split at h
  ·injection h with h;injection h with h1 _;rw[←h1];exact hg
  ·rename_i hm;injection h with h;injection h with h1 _;rw[←h1];intro f hf;rw[(L6 hm r2 0 0).2.2.1]at hf;exact hg f hf
theorem M6 {t:ByteArray}{ex:Nat->Option (Rx×Nat)}(hx:xN ex):∀(n:Nat) (r:Rx) (a:Nat) (r':Rx) (a':Nat),r.good->fK t ex n r a=some (r',a')->r'.good:=by
 intro n
 induction n with
 | zero=>intro r a r' a' _ h;cases h
 | succ k ih=>
  intro r a r' a' hr h;rw[fK]at h;split at h
  ·injection h with h;injection h with h1 _;rw[←h1];exact hr
  ·cases e:bY t ex a with
   | none=>rw[e]at h;cases h
   | some y=>
    obtain⟨r2,a2⟩:=y;rw[e]at h;exact ih _ _ _ _ (Ry hr (zW hx _ _ _ e)) h
theorem P6 {t:ByteArray}{ex:Nat->Option (Rx×Nat)}(hx:xN ex):xN (oV t ex):=fun a r a' h=>by
 unfold oV at h
 cases e:bY t ex a with
 | none=>rw[e]at h;cases h
 | some y=>
  obtain⟨r2,a2⟩:=y;rw[e]at h;exact M6 hx _ _ _ _ _ (zW hx _ _ _ e) h
theorem F4 {t:ByteArray}{ex:Nat->Option (Rx×Nat)}(hx:xN ex):∀(n:Nat) (r:Rx) (a:Nat) (r':Rx) (a':Nat),r.good->dT t ex n r a=some (r',a')->r'.good:=by
 intro n
 induction n with
 | zero=>intro r a r' a' _ h;cases h
 | succ k ih=>
  intro r a r' a' hr h;rw[dT]at h;split at h
  ·injection h with h;injection h with h1 _;rw[←h1];exact hr
  ·cases e:oV t ex (a+1)with
   | none=>rw[e]at h;cases h
   | some y=>
    obtain⟨r2,a2⟩:=y;rw[e]at h;exact ih _ _ _ _ (Py hr (P6 hx _ _ _ e)) h
theorem Fv (t:ByteArray):∀f,xN (dS t f):=by
 intro f
 induction f with
 | zero=>intro a r a' h;cases h
 | succ k ih=>
  intro a r a' h;rw[dS]at h
  cases e:oV t (dS t k) a with
  | none=>rw[e]at h;cases h
  | some y=>
   obtain⟨r2,a2⟩:=y;rw[e]at h;exact F4 ih _ _ _ _ _ (P6 ih _ _ _ e) h
structure mZ (x:aY):Prop where
 b0:0<=x.2.1
 b5:x.2.1<=5
 c4:∀c,4<=c->x.1 c=false
 c0:∃c,c<4/\x.1 c=true
 g:x.2.2.good
theorem wI {t:ByteArray}{a a':Nat}{x:Int}(h:eH t a=some (x,a')):∃c:Nat,x=(c:Int)/\c<4:=by
 unfold eH at h;split at h
 ·injection h with h;injection h with h1 _;exact⟨x.toNat,by omega,by omega⟩
 ·cases h
theorem N5 {t:ByteArray}:∀(n:Nat) (f:Nat->Bool) (last:Int) (a:Nat) (g:Nat->Bool) (a':Nat),(∀c,4<=c->f c=false)->(∃c,c<4/\f c=true)->dC t n f last a=some (g,a')->(∀c,4<=c->g c=false)/\∃c,c<4/\g c=true:=by
 intro n
 induction n with
 | zero=>intro f last a g a' _ _ h;cases h
 | succ k ih=>
  intro f last a g a' h1 h2 h;rw[dC]at h
  cases e:eH t a with
  | none=>rw[e]at h;injection h with h;injection h with h3 _;rw[←h3];exact⟨h1,h2⟩
  | some y=>
   obtain⟨x,a1⟩:=y;obtain⟨c,rfl,hc⟩:=wI e;rw[e]at h;simp only at h;split at h
   ·cases h
   ·refine ih _ _ _ _ _ (fun d hd=> ?_) ?_ h
    ·unfold mF;rw[if_neg (by omega)];exact h1 d hd
    ·exact⟨c,hc,by unfold mF;rw[if_pos rfl]⟩
theorem Ee {t:ByteArray}{a a':Nat}{x:aY}(h:iY t a=some (x,a')):mZ x:=by
 unfold iY at h
 cases e:lM t a with
 | none=>rw[e]at h;cases h
 | some y=>
  obtain⟨f,a1⟩:=y;rw[e]at h;simp only at h;have hf:(∀c,4<=c->f c=false)/\∃c,c<4/\f c=true:=by
   unfold lM at e
   cases e2:eH t a with
   | none=>rw[e2]at e;cases e
   | some z=>
    obtain⟨u,a2⟩:=z;obtain⟨c,rfl,hc⟩:=wI e2;rw[e2]at e;refine N5 _ _ _ _ _ _ (fun d hd=> ?_) ?_ e
    ·unfold mF;rw[if_neg (by omega)];rfl
    ·exact⟨c,hc,by unfold mF;rw[if_pos rfl]⟩
  split at h
  ·cases h
  ·cases e2:dS t (t.size+1) (a1+1)with
   | none=>rw[e2]at h;cases h
   | some z=>
    obtain⟨r,a2⟩:=z;rw[e2]at h;simp only at h;split at h
    ·cases h
    ·cases e3:jT t (a2+1)with
     | none=>rw[e3]at h;cases h
     | some u=>
      obtain⟨b,a3⟩:=u;rw[e3]at h;injection h with h;injection h with h1 _;have hb:0<=b/\b<=5:=by
       unfold jT at e3;split at e3
       ·injection e3 with e3;injection e3 with e4 _;omega
       ·split at e3
        ·injection e3 with e3;injection e3 with e4 _;omega
        ·cases e5:eH t (a2+1)with
         | none=>rw[e5]at e3;cases e3
         | some v=>
          obtain⟨c,a4⟩:=v;obtain⟨d,rfl,hd⟩:=wI e5;rw[e5]at e3;injection e3 with e3;injection e3 with e4 _;omega
      rw[←h1];exact⟨hb.1,hb.2,hf.1,hf.2,Fv t _ _ _ _ e2⟩
theorem O4 {t:ByteArray}:∀(n:Nat) (l:List aY) (a:Nat) (l':List aY) (a':Nat),(∀x∈l,mZ x)->0<l.length->dJ t n l a=some (l',a')->(∀x∈l',mZ x)/\0<l'.length:=by
 intro n
 induction n with
 | zero=>intro l a l' a' _ _ h;cases h
 | succ k ih=>
  intro l a l' a' h1 h2 h;rw[dJ]at h;split at h
  ·injection h with h;injection h with h3 _;rw[←h3];exact⟨h1,h2⟩
  ·cases e:iY t (a+1)with
   | none=>rw[e]at h;cases h
   | some y=>
    obtain⟨x,a1⟩:=y;rw[e]at h;refine ih _ _ _ _ (fun z hz=> ?_) (by simp) h;rcases bN.1 hz with q | q
    ·exact h1 z q
    ·rw[bK]at q;rw[q];exact Ee e
theorem lY {t:ByteArray}{l:List aY}(h:oN t=some l):(∀x∈l,mZ x)/\0<l.length/\l.length<=8:=by
 unfold oN vU at h
 cases e:iY t 0 with
 | none=>rw[e]at h;cases h
 | some y=>
  obtain⟨x,a1⟩:=y;rw[e]at h;simp only at h
  cases e2:dJ t (t.size+1) [x] a1 with
  | none=>rw[e2]at h;cases h
  | some z=>
   obtain⟨l',a'⟩:=z;rw[e2]at h;simp only at h;have:=O4 _ _ _ _ _ (fun z hz=>by rw[bK]at hz;rw[hz];exact Ee e) (by simp) e2;split at h
   ·rename_i hyes;injection h with h;rw[←h];exact⟨this.1,this.2,hyes.2⟩
   ·cases h
def qB (k:Nat)(x:Int×Int×Int):Prop:=0<=x.1/\x.1<=5/\(x.1=0->0<=x.2.1/\x.2.1<10)/\(x.1≠0->0<=x.2.1/\x.2.1<k/\0<=x.2.2/\x.2.2<k)
def fW (nb:Nat)(l:List (Int×Int×Int)):Prop:=∀k x,l[k]? =some x->qB (nb+k) x
theorem fW.app {nb:Nat}{l m:List (Int×Int×Int)}(h:fW nb l)(k:fW (nb+l.length) m):fW nb (l++m):=fun i x hx=>by
 by_cases e:i<l.length
 ·rw[List.getElem?_append_left e]at hx;exact h i x hx
 ·rw[cF (by omega)]at hx;have:=k _ x hx;rw[show nb+l.length+(i - l.length)=nb+i by omega]at this;exact this
theorem fW.one {nb:Nat}{x:Int×Int×Int}(h:qB nb x):fW nb [x]:=fun i y hy=>by
 cases i with
 | zero=>simp at hy;rw[←hy];exact h
 | succ j=>simp at hy
theorem Rx.flat_ok:∀(r:Rx) (nb pb:Nat),pb+r.np<=10->fW nb (r.flat nb pb)
 | .pl f,nb,pb,h=>fW.one (by have h:pb+1<=10:=h;unfold qB;simp only;omega)
 | .cat a b,nb,pb,h=>by
  have h:pb+(a.np+b.np)<=10:=h;have:=a.sz_pos;have:=b.sz_pos;refine(a.flat_ok nb pb (by omega)).app ?_;rw[a.flat_len];refine(b.flat_ok _ _ (by omega)).app ?_;rw[b.flat_len];exact fW.one (by unfold qB;simp only;omega)
 | .alt a b,nb,pb,h=>by
  have h:pb+(a.np+b.np)<=10:=h;have:=a.sz_pos;have:=b.sz_pos;refine(a.flat_ok nb pb (by omega)).app ?_;rw[a.flat_len];refine(b.flat_ok _ _ (by omega)).app ?_;rw[b.flat_len];exact fW.one (by unfold qB;simp only;omega)
 | .opt a,nb,pb,h=>by
  have:=a.sz_pos;refine(a.flat_ok nb pb h).app ?_;rw[a.flat_len];exact fW.one (by unfold qB;simp only;omega)
 | .plus a,nb,pb,h=>by
  have:=a.sz_pos;refine(a.flat_ok nb pb h).app ?_;rw[a.flat_len];exact fW.one (by unfold qB;simp only;omega)
 | .star a,nb,pb,h=>by
  have:=a.sz_pos;refine(a.flat_ok nb pb h).app ?_;rw[a.flat_len];exact fW.one (by unfold qB;simp only;omega)
structure Z8 (st:PSt):Prop where
 no:fW 0 st.nodes
 ro:∀x∈st.rules,0<=x.2.2/\x.2.2<st.nodes.length
 be:∀x∈st.rules,0<=x.2.1/\x.2.1<=5
def fZ:List aY->Nat
 | []=>0
 | x::l=>x.2.2.np+fZ l
theorem lD:∀(l:List aY) (st:PSt),(aB st l).places.length=st.places.length+fZ l
 | [],st=>rfl
 | x::l,st=>by rw[aB,lD l];simp[dX,fZ,Rx.fns_len];omega
theorem sZ:∀(l:List aY) (st:PSt),Z8 st->(∀x∈l,mZ x)->st.places.length+fZ l<=10->Z8 (aB st l)
 | [],st,h,_,_=>h
 | x::l,st,h,hl,hp=>by
  have hx:=hl x cL;have hp:st.places.length+(x.2.2.np+fZ l)<=10:=hp;have hsz:=x.2.2.sz_pos;refine sZ l _ ⟨?_,fun y hy=> ?_,fun y hy=> ?_⟩ (fun y hy=>hl y (cR _ hy)) ?_
  ·refine h.no.app ?_;rw[cO];exact x.2.2.flat_ok _ _ (by omega)
  ·show 0<=y.2.2/\y.2.2<((st.nodes++x.2.2.flat st.nodes.length st.places.length).length:Nat);rw[aR,Rx.flat_len];rcases bN.1 hy with q | q
   ·have:=h.ro y q;omega
   ·rw[bK]at q;rw[q];simp only;omega
  ·rcases bN.1 hy with q | q
   ·exact h.be y q
   ·rw[bK]at q;rw[q];exact⟨hx.b0,hx.b5⟩
  ·show(st.places++x.2.2.fns).length+fZ l<=10;rw[aR,Rx.fns_len];omega
theorem Ac {t:ByteArray}:∀(n:Nat) (ok:Bool) (st:PSt),st.at_<=t.size->st.nodes.length<=3*st.at_->(eZ t n ok st).2.nodes.length<=3*t.size:=by
 intro n
 induction n with
 | zero=>intro ok st h1 h2;rw[eZ];simp only;omega
 | succ k ih=>
  intro ok st h1 h2;rw[eZ];split
  ·simp only;omega
  ·split
   ·simp only;omega
   ·rename_i hn;have hlt:=bV (t:=t) (b:=10) (st:=st) (by omega) (by simpa using hn);have hg:=(wK (t:=t) (st:=adv st) (by rw[bF];omega)).1;obtain⟨g1,g2,g3,g4⟩:=hg;rw[bF]at g1 g3;have e:(adv st).nodes=st.nodes:=rfl;rw[e]at g3;exact ih _ _ g2 (by omega)
theorem Fe (t:ByteArray):(bB t).nodes.length<=3*t.size:=by
 unfold bB gF;have hg:=(wK (t:=t) (st:=st0) (gO _)).1;obtain⟨g1,g2,g3,g4⟩:=hg;have e:st0.nodes.length=0:=rfl;have e2:st0.at_=0:=rfl;rw[e,e2]at g3;exact Ac _ _ _ g2 (by omega)
theorem Pc:Z8 st0:=⟨fun k x hx=>by simp[st0]at hx,fun x hx=>absurd hx bM,fun x hx=>absurd hx bM⟩
theorem xW {t:ByteArray}(h:dD t=0):t.size<=120/\∃l,oN t=some l/\fZ l<=10/\(bB t).rules=(aB st0 l).rules/\(bB t).nodes=(aB st0 l).nodes/\(bB t).places=(aB st0 l).places:=by
 obtain⟨h1,h2,h3⟩:=D9 t;by_cases hs:120<t.size
 ·rw[h1 hs]at h;cases h
 ·refine⟨by omega, ?_⟩
  cases e:oN t with
  | none=>rw[h2 (by omega) e]at h;cases h
  | some l=>
   obtain⟨a,b⟩:=h3 (by omega) l e;by_cases hp:10<(aB st0 l).places.length
   ·rw[a hp]at h;cases h
   ·obtain⟨_,c⟩:=b (by omega);rw[lD]at hp;have e0:st0.places.length=0:=rfl;have c1:=congrArg PSt.rules c;have c2:=congrArg PSt.nodes c;have c3:=congrArg PSt.places c;exact⟨l,rfl,by omega,c1,c2,c3⟩
theorem Tq {t:ByteArray}(h:dD t=0):Qh (bB t):=by
 obtain⟨hs,l,hl,hn,e1,e2,e3⟩:=xW h;obtain⟨k1,k2,k3⟩:=lY hl;have e0:st0.places.length=0:=rfl;have e4:st0.rules.length=0:=rfl;have hok:=sZ l st0 Pc k1 (by omega);have hfew:=Fe t;have hlen:(aB st0 l).rules.length=l.length:=by rw[kF];omega
 have hpl:(aB st0 l).places.length=fZ l:=by rw[lD];omega
 obtain⟨g0,g1,g2⟩:=E1 (bB t).places;have hnp:0<fZ l:=by
  cases l with
  | nil=>simp at k2
  | cons x r=>have:=x.2.2.np_pos;show 0<x.2.2.np+fZ r;omega
 have hnn:0<(aB st0 l).nodes.length:=by
  cases hr:(aB st0 l).rules with
  | nil=>rw[hr]at hlen;simp at hlen;omega
  | cons x r=>have:=hok.ro x (by rw[hr];exact cL);omega
 refine⟨by omega,by rw[e2];exact hnn, ?_,by rw[e1,hlen];exact k2,by rw[e1,hlen];omega, ?_, ?_,by rw[e3,hpl];exact hnp,by rw[e3,hpl];exact hn,g0,g1,g2⟩
 ·rw[e2];intro k x hx;have:=hok.no k x hx;rw[cO]at this;exact this
 ·rw[e1,e2];exact hok.ro
 ·rw[e1];intro x hx;have:=hok.be x hx;omega
end Go.Stn
namespace Go.Stn
open Go.Proofs.YtgjgjgihceijnaaGreat (kU rD mO)
theorem R8:∀(l m:List (Int×Int×Int)) (k:Nat) (ps:Nat->kN) (next:Nat->Int),cQ (l++m) k ps next=cQ m (k+l.length) (cQ l k ps next).1 (cQ l k ps next).2
 | [],m,k,ps,next=>rfl
 | x::l,m,k,ps,next=>by
  rw[List.cons_append,cQ,R8 l m,cQ,cN,show k+1+l.length=k+(l.length+1) by omega]
def eB:Nat->List aY->List (Rx×Nat)
 | _,[]=>[]
 | k,x::l=>(x.2.2,k)::eB (k+x.2.2.np) l
theorem mW:∀(l:List aY) (k:Nat),(eB k l).length=l.length
 | [],_=>rfl
 | x::l,k=>by simp[eB,mW l]
theorem L2:∀(l:List aY) (k:Nat) (y:Rx×Nat),y∈eB k l->k<=y.2/\y.2+y.1.np<=k+fZ l
 | [],_,y,h=>absurd h bM
 | x::l,k,y,h=>by
  rcases eL.1 h with e | e
  ·rw[e];show k<=k/\k+x.2.2.np<=k+(x.2.2.np+fZ l);omega
  ·have:=L2 l _ y e;show k<=y.2/\y.2+y.1.np<=k+(x.2.2.np+fZ l);omega
theorem tD:∀(l:List aY) (k i j:Nat) (y z:Rx×Nat),(eB k l)[i]? =some y->(eB k l)[j]? =some z->i<j->y.2+y.1.np<=z.2
 | [],_,_,_,_,_,h,_,_=>by simp[eB]at h
 | x::l,k,i,j,y,z,hy,hz,hij=>by
  obtain⟨j',rfl⟩:∃j',j=j'+1:=⟨j - 1,by omega⟩
  rw[eB,aL]at hz
  cases i with
  | zero=>
   rw[eB,bD]at hy;injection hy with hy;have:=L2 l _ z (List.mem_of_getElem? hz);rw[←hy];exact this.1
  | succ i'=>
   rw[eB,aL]at hy;exact tD l _ i' j' y z hy hz (by omega)
def plA (places:List (Nat->Bool))(p b:Nat):Bool:=places.getD p aP b
theorem qN:∀(r:Rx) (pre post:List (Nat->Bool)),r.says (plA (pre++(r.fns++post))) pre.length
 | .pl f,pre,post=>fun b _=>by
  unfold plA;rw[bC,cF (bT _),eM]
  rfl
 | .cat a b,pre,post=>by
  refine⟨?_, ?_⟩
  ·have:=qN a pre (b.fns++post);show a.says (plA (pre++((a.fns++b.fns)++post))) pre.length;rw[aO];exact this
  ·have:=qN b (pre++a.fns) post;rw[aR,a.fns_len,aO]at this;show b.says (plA (pre++((a.fns++b.fns)++post))) (pre.length+a.np);rw[aO];exact this
 | .alt a b,pre,post=>by
  refine⟨?_, ?_⟩
  ·have:=qN a pre (b.fns++post);show a.says (plA (pre++((a.fns++b.fns)++post))) pre.length;rw[aO];exact this
  ·have:=qN b (pre++a.fns) post;rw[aR,a.fns_len,aO]at this;show b.says (plA (pre++((a.fns++b.fns)++post))) (pre.length+a.np);rw[aO];exact this
 | .opt a,pre,post=>qN a pre post
 | .plus a,pre,post=>qN a pre post
 | .star a,pre,post=>qN a pre post
def jZ:List aY->List (Nat->Bool)
 | []=>[]
 | x::l=>x.2.2.fns++jZ l
theorem oY:∀(l:List aY) (st:PSt),(aB st l).places=st.places++jZ l
 | [],st=>(cP _).symm
 | x::l,st=>by
  rw[aB,oY l];show(st.places++x.2.2.fns)++jZ l=_;rw[aO];rfl
theorem E2:∀(l:List aY) (pre:List (Nat->Bool)) (y:Rx×Nat),y∈eB pre.length l->y.1.says (plA (pre++jZ l)) y.2
 | [],_,y,h=>absurd h bM
 | x::l,pre,y,h=>by
  rcases eL.1 h with e | e
  ·rw[e];exact qN x.2.2 pre (jZ l)
  ·have:=E2 l (pre++x.2.2.fns) y (by rw[aR,Rx.fns_len];exact e);rw[aO]at this;exact this
theorem L8 (P0:Nat->kN)(N0:Nat->Int):∀(l:List aY) (st:PSt),st.places.length+fZ l<=10->(∀p,cA ((cQ st.nodes 0 P0 N0).2 p))->
  (∀i,i<st.nodes.length->(cQ (aB st l).nodes 0 P0 N0).1 i=(cQ st.nodes 0 P0 N0).1 i)/\st.nodes.length<=(aB st l).nodes.length/\
  (∀p,cA ((cQ (aB st l).nodes 0 P0 N0).2 p))/\
  (∀p q,inS ((cQ (aB st l).nodes 0 P0 N0).2 p) q=true↔(inS ((cQ st.nodes 0 P0 N0).2 p) q=true\/∃y∈eB st.places.length l,y.1.fol y.2 p q))/\
  ∃R:List ((Nat->Bool)×Int×Int),(aB st l).rules=st.rules++R/\R.length=l.length/\∀(r:Nat) (x:aY) (y:Rx×Nat),l[r]? =some x->(eB st.places.length l)[r]? =some y->
   ∃root:Nat,R[r]? =some (x.1,x.2.1,(root:Int))/\pM ((cQ (aB st l).nodes 0 P0 N0).1 root) y.1 y.2
 | [],st,_,hn=>by
  refine⟨fun _ _=>rfl,bT _,hn,fun p q=>⟨fun h=> .inl h,fun h=>h.elim id (fun⟨y,hy,_⟩=>absurd hy bM)⟩,[],(cP _).symm,rfl,fun r x y h=>by simp at h⟩
 | x::l,st,hp,hn=>by
  have hp:st.places.length+(x.2.2.np+fZ l)<=10:=hp;obtain⟨ps1,n1,e1,k1,p1,o1⟩:=nQ x.2.2 st.nodes.length st.places.length [] (cQ st.nodes 0 P0 N0).1 (cQ st.nodes 0 P0 N0).2 (by omega) hn;have hsz:=x.2.2.sz_pos;have hlink:cQ (dX st x st.at_).nodes 0 P0 N0=(ps1,n1):=by
   show cQ (st.nodes++x.2.2.flat st.nodes.length st.places.length) 0 P0 N0=_;rw[R8,cO];rw[cP]at e1;rw[e1];rfl
  have hlen:(dX st x st.at_).nodes.length=st.nodes.length+x.2.2.sz:=by
   show(st.nodes++x.2.2.flat st.nodes.length st.places.length).length=_;rw[aR,Rx.flat_len]
  have hpl:(dX st x st.at_).places.length=st.places.length+x.2.2.np:=by
   show(st.places++x.2.2.fns).length=_;rw[aR,Rx.fns_len]
  obtain⟨a1,a2,a3,a4,R,b1,b2,b3⟩:=L8 P0 N0 l (dX st x st.at_) (by rw[hpl];omega) (by rw[hlink];exact o1.s);rw[hlink]at a1 a4;rw[hpl]at a4 b3;rw[hlen]at a1 a2;refine⟨fun i hi=> ?_,by show st.nodes.length<=(aB (dX st x st.at_) l).nodes.length;omega,a3,fun p q=> ?_,(x.1,x.2.1,((st.nodes.length+x.2.2.sz - 1:Nat):Int))::R, ?_,by simp[b2],fun r z y hz hy=> ?_⟩
  ·show(cQ (aB (dX st x st.at_) l).nodes 0 P0 N0).1 i=_;rw[a1 i (by omega)];exact k1 i hi
  ·show inS ((cQ (aB (dX st x st.at_) l).nodes 0 P0 N0).2 p) q=true↔_;rw[a4,o1.f];constructor
   ·rintro((h | h) | ⟨y,hy,h⟩)
    ·exact .inl h
    ·exact .inr ⟨(x.2.2,st.places.length),cL,h⟩
    ·exact .inr ⟨y,cR _ hy,h⟩
   ·rintro(h | ⟨y,hy,h⟩)
    ·exact .inl (.inl h)
    ·rcases eL.1 hy with e | e
     ·rw[e]at h;exact .inl (.inr h)
     ·exact .inr ⟨y,e,h⟩
  ·show(aB (dX st x st.at_) l).rules=_;rw[b1];show(st.rules++ [_])++R=_;rw[aO];rfl
  ·cases r with
   | zero=>
    rw[bD]at hz;rw[eB,bD]at hy;injection hz with hz;injection hy with hy;rw[←hz,←hy];refine⟨st.nodes.length+x.2.2.sz - 1,rfl, ?_⟩;show pM ((cQ (aB (dX st x st.at_) l).nodes 0 P0 N0).1 _) _ _;rw[a1 _ (by omega)];exact p1
   | succ r'=>
    rw[aL]at hz;rw[eB,aL]at hy;obtain⟨root,h1,h2⟩:=b3 r' z y hz hy;exact⟨root,by rw[aL];exact h1,h2⟩
structure Ww (l:List aY)(next:Nat->Int)(fi la:List Int):Prop where
 s:∀p,cA (next p)
 f:∀p q,inS (next p) q=true↔∃y∈eB 0 l,y.1.fol y.2 p q
 fl:fi.length=l.length
 ll:la.length=l.length
 fs:∀x∈fi,cA x
 ls:∀x∈la,cA x
 ff:∀r y,(eB 0 l)[r]? =some y->∀p,inS (fi.getD r 0) p=true↔y.1.fst y.2 p
 lf:∀r y,(eB 0 l)[r]? =some y->∀p,inS (la.getD r 0) p=true↔y.1.lst y.2 p
theorem U9 (l:List aY)(h:fZ l<=10):Ww l (kU (aB st0 l).nodes) (rD (aB st0 l).nodes (aB st0 l).rules) (mO (aB st0 l).nodes (aB st0 l).rules)/\
  (aB st0 l).rules.map (fun x=>(x.1,x.2.1))=l.map (fun x=>(x.1,x.2.1)):=by
 have e0:st0.places.length=0:=rfl;have en:st0.nodes= []:=rfl;obtain⟨_,_,a3,a4,R,b1,b2,b3⟩:=L8 (fun _=>kM) (fun _=>0) l st0 (by omega) (fun p=>mU);rw[e0]at a4 b3;have hR:(aB st0 l).rules=R:=by rw[b1];rfl
 have hroot:∀(r:Nat) (y:Rx×Nat),(eB 0 l)[r]? =some y->∃(x:aY) (root:Nat),l[r]? =some x/\R[r]? =some (x.1,x.2.1,((root:Nat):Int))/\pM ((cQ (aB st0 l).nodes 0 (fun _=>kM) (fun _=>0)).1 root) y.1 y.2:=fun r y hy=>by
  have hr:r<l.length:=by rw[←mW l 0];exact(List.getElem?_eq_some_iff.1 hy).1
  obtain⟨root,h1,h2⟩:=b3 r l[r] y (aT hr) hy;exact⟨l[r],root,aT hr,h1,h2⟩
 have hall:∀x∈R,∃y:Rx×Nat,pM ((cQ (aB st0 l).nodes 0 (fun _=>kM) (fun _=>0)).1 x.2.2.toNat) y.1 y.2:=fun x hx=>by
  obtain⟨r,hr,he⟩:=List.getElem_of_mem hx;have hr2:r<(eB 0 l).length:=by rw[mW,←b2];exact hr
  obtain⟨z,root,_,h2,h3⟩:=hroot r _ (aT hr2);rw[aT hr,he]at h2;injection h2 with h2;exact⟨_,by rw[h2];exact h3⟩
 refine⟨⟨a3,fun p q=> ?_, ?_, ?_,fun x hx=> ?_,fun x hx=> ?_,fun r y hy p=> ?_,fun r y hy p=> ?_⟩, ?_⟩
 ·show inS ((cQ (aB st0 l).nodes 0 (fun _=>kM) (fun _=>0)).2 p) q=true↔_;rw[a4];constructor
  ·rintro(hz | hz)
   ·rw[show(cQ st0.nodes 0 (fun _=>kM) (fun _=>(0:Int))).2 p=0 from rfl,nX]at hz;cases hz
   ·exact hz
  ·intro hz;exact .inr hz
 ·unfold rD;rw[eR,hR,b2]
 ·unfold mO;rw[eR,hR,b2]
 ·unfold rD at hx;rw[eX]at hx;obtain⟨z,hz,rfl⟩:=hx;rw[hR]at hz;obtain⟨y,hy⟩:=hall z hz;exact hy.s1
 ·unfold mO at hx;rw[eX]at hx;obtain⟨z,hz,rfl⟩:=hx;rw[hR]at hz;obtain⟨y,hy⟩:=hall z hz;exact hy.s2
 ·obtain⟨x,root,h1,h2,h3⟩:=hroot r y hy;unfold rD;rw[hR,bC,bO,h2];simp only[eS,eO,eN];exact h3.f p
 ·obtain⟨x,root,h1,h2,h3⟩:=hroot r y hy;unfold mO;rw[hR,bC,bO,h2];simp only[eS,eO,eN];exact h3.l p
 ·rw[hR];refine List.ext_getElem? (fun r=> ?_);rw[bO,bO];by_cases hr:r<l.length
  ·obtain⟨x,root,h1,h2,h3⟩:=hroot r _ (aT (by rw[mW];exact hr));rw[h1,h2];rfl
  ·rw[bS (by omega),bS (by omega)]
   rfl
theorem Cv (f:Nat->Bool)(fr:Int)(c:Nat)(b:Int):uO f fr c 4 b=if c<4/\f c=true then orI b fr else b:=by
 have h:∀k,k<=4->uO f fr c k b=if c<k/\f c=true then orI b fr else b:=by
  intro k
  induction k with
  | zero=>intro _;rw[uO,if_neg (by omega)]
  | succ j ih=>
   intro hk;rw[uO,ih (by omega)];by_cases e:j=c
   ·subst e;by_cases hf:f j=true
    ·rw[if_pos ⟨hf,rfl⟩,if_neg (by omega),if_pos ⟨by omega,hf⟩]
    ·rw[if_neg (fun h=>hf h.1),if_neg (by omega),if_neg (fun h=>hf h.2)]
   ·rw[if_neg (fun h=>e h.2)];by_cases hf:c<j/\f c=true
    ·rw[if_pos hf,if_pos ⟨by omega,hf.2⟩]
    ·rw[if_neg hf,if_neg (fun h=>hf ⟨by omega,h.2⟩)]
 exact h 4 (bT _)
theorem S5 (fi:Nat->Int)(c:Nat):∀(rules:List ((Nat->Bool)×Int×Int)) (r:Nat) (b:Int),cA b->(∀i,i<rules.length->cA (fi (r+i)))->
  cA (lN fi c rules r b)/\∀q,inS (lN fi c rules r b) q=true↔(inS b q=true\/∃i x,rules[i]? =some x/\(c<4/\x.1 c=true)/\inS (fi (r+i)) q=true)
 | [],r,b,hb,_=>⟨hb,fun q=>⟨fun h=> .inl h,fun h=>h.elim id (fun⟨i,x,h,_⟩=>by simp at h)⟩⟩
 | x::l,r,b,hb,hf=>by
  have h0:=hf 0 (by simp);rw[gL]at h0;have hb':cA (uO x.1 (fi r) c 4 b):=by
   rw[Cv];split
   ·exact nO hb h0
   ·exact hb
  obtain⟨h1,h2⟩:=S5 fi c l (r+1) (uO x.1 (fi r) c 4 b) hb' (fun i hi=>by have:=hf (i+1) (by simp;omega);rw[show r+1+i=r+(i+1) by omega];exact this);rw[lN];refine⟨h1,fun q=> ?_⟩;rw[h2,Cv];constructor
  ·rintro(h | ⟨i,y,h3,h4,h5⟩)
   ·split at h
    ·rename_i hc;rw[oH hb h0,eT]at h;rcases h with h | h
     ·exact .inl h
     ·exact .inr ⟨0,x,rfl,hc,h⟩
    ·exact .inl h
   ·exact .inr ⟨i+1,y,by rw[aL];exact h3,h4,by rw[show r+(i+1)=r+1+i by omega];exact h5⟩
  ·rintro(h | ⟨i,y,h3,h4,h5⟩)
   ·left;split
    ·rw[oH hb h0,h];rfl
    ·exact h
   ·cases i with
    | zero=>
     rw[bD]at h3;injection h3 with h3;subst h3;left;rw[if_pos h4,oH hb h0];rw[gL]at h5;rw[h5,Bool.or_true]
    | succ j=>
     rw[aL]at h3;exact .inr ⟨j,y,h3,h4,by rw[show r+1+j=r+(j+1) by omega];exact h5⟩
theorem Jy (b:Nat):∀(l:List (Nat->Bool)) (k:Nat) (a:Int),cA a->k+l.length<=10->cA (P4 b l k a)/\∀p,inS (P4 b l k a) p=true↔(inS a p=true\/(k<=p/\p<k+l.length/\l.getD (p - k) aP b=true))
 | [],k,a,ha,_=>⟨ha,fun p=>⟨fun h=> .inl h,fun h=>h.elim id (fun h=>by simp at h;omega)⟩⟩
 | f::l,k,a,ha,hk=>by
  simp only[cN]at hk;have hs:cA (if f b=true then orI a (lZ k)else a):=by
   split
   ·exact nO ha (mK (by omega))
   ·exact ha
  obtain⟨h1,h2⟩:=Jy b l (k+1) _ hs (by omega);rw[P4];refine⟨h1,fun p=> ?_⟩;rw[h2];simp only[cN];constructor
  ·rintro(h | ⟨h3,h4,h5⟩)
   ·split at h
    ·rename_i hf;rw[oH ha (mK (by omega)),eT,uM,decide_eq_true_eq]at h;rcases h with h | h
     ·exact .inl h
     ·subst h;exact .inr ⟨bT _,by omega,by rw[eM];exact hf⟩
    ·exact .inl h
   ·refine .inr ⟨by omega,by omega, ?_⟩;rw[show p - k=(p - (k+1))+1 by omega,cT];exact h5
  ·rintro(h | ⟨h3,h4,h5⟩)
   ·left;split
    ·rw[oH ha (mK (by omega)),h];rfl
    ·exact h
   ·by_cases e:p=k
    ·subst e;rw[eM,List.getD_cons_zero]at h5;left;rw[if_pos h5,oH ha (mK (by omega)),uM];simp
    ·right;refine⟨by omega,by omega, ?_⟩;rw[show p - k=(p - (k+1))+1 by omega,cT]at h5;exact h5
theorem Tp {places:List (Nat->Bool)}(h:places.length<=10)(b:Nat):cA (uR places b)/\∀p,inS (uR places b) p=true↔plA places p b=true:=by
 obtain⟨h1,h2⟩:=Jy b places 0 0 mU (by omega);refine⟨h1,fun p=> ?_⟩;unfold uR;rw[h2,nX];unfold plA;constructor
 ·rintro(h | ⟨_,_,h⟩)
  ·cases h
  ·rw[gN]at h;exact h
 ·intro hp;refine .inr ⟨gO _, ?_,by rw[gN];exact hp⟩;rw[cO];apply Classical.byContradiction;intro hc;rw[bC,bS (by omega)]at hp
  cases hp
end Go.Stn
