import Derived.Test.YtgjgjgihceijnaaGreatG26
import Derived.Test.YtgjgjgihceijnaaGreatG21
import Derived.Test.YtgjgjgihceijnaaGreatG01
import Derived.Test.YtgjgjgihceijnaaGreatG02
import Derived.Test.YtgjgjgihceijnaaGreatG03
import Derived.Test.YtgjgjgihceijnaaGreatG04
import Derived.Deep.QuietTactic
import Derived.BigQuiet
import Derived.Test.YtgjgjgihceijnaaGreatChecked
import Derived.WalkKit
import Derived.WalkSpells
import Derived.WalkLawsBesides
import Derived.Test.YtgjgjgihceijnaaGreatG28
import Derived.Test.YtgjgjgihceijnaaGreatG06
open List renaming getD_eq_getElem?_getD->aL,length_append->aR,getElem?_eq_getElem->aT,getElem?_append_right->cL,getElem?_append_left->cN,getElem_of_mem->cP,getElem?_eq_some_iff->cR,length_cons->eL,length_nil->eN,getElem?_map->eR,getElem_mem->eT,mem_map->gO
open UInt8 renaming ofNat->aO
open Classical renaming byContradiction->bD
open Nat renaming le_refl->bO,add_zero->cF,mul_le_mul_right->cO,mod_eq_of_lt->cT,succ_mul->eM,zero_add->eO,mul_one->eX,le_of_lt->gN
open Bool renaming and_eq_true->eS
open Option renaming map_some->gL
namespace Go.Stn
theorem PJ.new {q:Nat->Nat->Bool}{s:Nat}{fin firsts:List Nat}(h:PJ q s fin firsts)(hf:aX q firsts s firsts.length=firsts.length):PJ q (s+1) (fin++ [firsts.length]) (firsts++ [s]):=by
 have hno:=tJ (q:=q) (l:=firsts) (s:=s) firsts.length (bO _) hf;have hlen:=h.pi.len;have hend:(fin++ [firsts.length]).getD s 0=firsts.length:=by have:= @cC fin firsts.length;rw[hlen]at this;exact this
 refine⟨⟨by simp[hlen],fun x hx=> ?_,fun f hff=> ?_⟩,fun x hx=> ?_,fun f f' hff hf'=> ?_,fun f f' hff hf'=> ?_,fun _=> ?_⟩
 ·by_cases e:x=s
  ·subst e;rw[hend];exact⟨by simp,.inl cC⟩
  ·have hx':x<s:=by omega
   obtain⟨h1,h2⟩:=h.pi.cl x hx';rw[aW (l:=fin) (by rw[hlen];exact hx'),aW h1];exact⟨Nat.lt_of_lt_of_le h1 (by simp),h2⟩
 ·simp at hff;by_cases e:f=firsts.length
  ·subst e;rw[cC,hend];exact⟨by omega,rfl⟩
  ·have hf':f<firsts.length:=by omega
   obtain⟨h1,h2⟩:=h.pi.rep f hf';rw[aW hf',aW (by rw[hlen];exact h1)];exact⟨by omega,h2⟩
 ·by_cases e:x=s
  ·subst e;rw[hend,cC];exact bO _
  ·have hx':x<s:=by omega
   rw[aW (l:=fin) (by rw[hlen];exact hx'),aW (h.pi.cl x hx').1];exact h.le x hx'
 ·simp at hf';by_cases e:f'=firsts.length
  ·subst e;rw[cC,aW hff];exact(h.pi.rep f hff).1
  ·rw[aW (by omega),aW (by omega)];exact h.mono f f' hff (by omega)
 ·simp at hf';by_cases e:f'=firsts.length
  ·subst e;rw[cC,aW hff];exact hno f (by omega) hff
  ·rw[aW (by omega),aW (by omega)];exact h.no f f' hff (by omega)
 ·refine⟨by simp, ?_⟩;by_cases e:s=0
  ·subst e;have:firsts= []:=by
    cases firsts with
    | nil=>rfl
    | cons a r=>have:=(h.pi.rep 0 (by simp)).1;omega
   rw[this];rfl
  ·have:=h.zero (by omega);rw[aW this.1];exact this.2
theorem PJ.old {q:Nat->Nat->Bool}{s:Nat}{fin firsts:List Nat}(h:PJ q s fin firsts)(hf:¬aX q firsts s firsts.length=firsts.length):PJ q (s+1) (fin++ [aX q firsts s firsts.length]) firsts:=by
 have hlen:=h.pi.len;have hlt:aX q firsts s firsts.length<firsts.length:=by have:=mS q firsts s firsts.length;omega
 have hq:=Cu _ (bO _) hlt;have hend:(fin++ [aX q firsts s firsts.length]).getD s 0=aX q firsts s firsts.length:=by have:= @cC fin (aX q firsts s firsts.length);rw[hlen]at this;exact this
 refine⟨⟨by simp[hlen],fun x hx=> ?_,fun f hff=> ?_⟩,fun x hx=> ?_,h.mono,h.no,fun _=> ?_⟩
 ·by_cases e:x=s
  ·subst e;rw[hend];exact⟨hlt,.inr hq⟩
  ·have hx':x<s:=by omega
   rw[aW (l:=fin) (by rw[hlen];exact hx')];exact h.pi.cl x hx'
 ·obtain⟨h1,h2⟩:=h.pi.rep f hff;rw[aW (by rw[hlen];exact h1)];exact⟨by omega,h2⟩
 ·by_cases e:x=s
  ·subst e;rw[hend];exact gN (h.pi.rep _ hlt).1
  ·have hx':x<s:=by omega
   rw[aW (l:=fin) (by rw[hlen];exact hx')];exact h.le x hx'
 ·have:0<s:=by have:=(h.pi.rep _ hlt).1;omega
  exact h.zero this
theorem Va {q:Nat->Nat->Bool}:∀d s fin firsts,PJ q s fin firsts->PJ q (s+d) (oK q d s fin firsts).1 (oK q d s fin firsts).2:=by
 intro d
 induction d with
 | zero=>intro s fin firsts h;exact h
 | succ k ih=>
  intro s fin firsts h;rw[oK,show s+(k+1)=s+1+k by omega];by_cases hf:aX q firsts s firsts.length=firsts.length
  ·rw[if_pos hf];exact ih _ _ _ (h.new hf)
  ·rw[if_neg hf];exact ih _ _ _ (h.old hf)
theorem Uv (K:Nat)(q:Nat->Nat->Bool):PJ q K (gB K q).1 (gB K q).2:=by
 have:=Va (q:=q) K 0 [] [] ⟨⟨rfl,fun x hx=>by omega,fun f hf=>by simp at hf⟩,fun x hx=>by omega,fun f f' _ hf=>by simp at hf,fun f f' _ hf=>by simp at hf,fun h=>by omega⟩;rw[eO]at this;exact this
structure Vm (K k:Nat)(q:Nat->Nat->Bool)(cls fi:Nat->Nat):Prop where
 pos:0<K->0<k
 le:k<=K
 lt:∀g,g<K->cls g<k
 eq:∀g g',g<K->g'<K->(cls g=cls g'↔q g g'=true)
 fi1:∀j,j<k->fi j<K/\cls (fi j)=j
 fi2:∀g,g<K->fi (cls g)<=g
 fi3:∀j j',j<j'->j'<k->fi j<fi j'
theorem Vr (K:Nat)(q:Nat->Nat->Bool)(hr:∀x,q x x=true)(hs:∀x y,q x y=true->q y x=true)(ht:∀x y z,q x y=true->q y z=true->q x z=true):
  Vm K (gB K q).2.length q (fun g=>(gB K q).1.getD g 0) (fun j=>(gB K q).2.getD j 0):=by
 have h:=Uv K q;have hf:=vK q K;exact⟨hf.2.2.2.2,hf.2.1,fun g hg=>(h.pi.cl g hg).1,fun g g' hg hg'=>h.part hr hs ht hg hg',fun j hj=>h.pi.rep j hj,fun g hg=>h.le g hg,fun j j'=>h.mono j j'⟩
theorem Mt (ns:Nat->Nat)(nx:Nat->Nat->Nat->Int)(n g:Nat):fQ ns nx n g g=true:=I8 (fun _ _ _ _=>rfl)
theorem kY {ns:Nat->Nat}{nx:Nat->Nat->Nat->Int}{n g h:Nat}:fQ ns nx n g h=true↔∀c,c<n->∀s,s<ns c->nx c s g=nx c s h:=by unfold fQ;rw[decide_eq_true_eq]
theorem Ah (K:Nat)(ns:Nat->Nat)(nx:Nat->Nat->Nat->Int)(n:Nat):Vm K (gB K (fQ ns nx n)).2.length (fQ ns nx n) (fun g=>(gB K (fQ ns nx n)).1.getD g 0) (fun j=>(gB K (fQ ns nx n)).2.getD j 0):=
 Vr K _ (Mt ns nx n) (fun _ _ h=>kY.2 (fun c hc s hs=>(kY.1 h c hc s hs).symm)) (fun _ _ _ h k=>kY.2 (fun c hc s hs=>(kY.1 h c hc s hs).trans (kY.1 k c hc s hs)))
theorem tW {m:Nat}{f:Nat->List UInt8}:∀n,(∀i,i<n->(f i).length=m)->(flr n f).length=n*m
 | 0,_=>by simp[flr]
 | n+1,h=>by
  rw[iC,aR,tW n (fun i hi=>h i (by omega)),h n (by omega),eM]
theorem wV {m:Nat}{f:Nat->List UInt8}:∀n i j,(∀i,i<n->(f i).length=m)->i<n->j<m->(flr n f).getD (i*m+j) 0=(f i).getD j 0
 | 0,i,j,_,hi,_=>by omega
 | n+1,i,j,h,hi,hj=>by
  have hl:=tW n (fun i hi=>h i (show i<n+1 by omega));rw[iC];by_cases e:i<n
  ·have:i*m+j<(flr n f).length:=by
    rw[hl];have:=cO m (show i+1<=n from e);rw[eM]at this;omega
   rw[aL,cN this,←aL];exact wV n i j (fun i hi=>h i (by omega)) e hj
  ·have e:i=n:=by omega
   subst e;rw[aL,cL (by rw[hl];omega),hl,←aL];congr 1;omega
def lJ (ns:Nat->Nat)(k:Nat):Nat->Nat
 | 0=>0
 | c+1=>lJ ns k c+1+ns c*(1+k)
theorem V5 {ns:Nat->Nat}{k:Nat}{f:Nat->List UInt8}(h:∀c,(f c).length=1+ns c*(1+k)):∀n,(flr n f).length=lJ ns k n
 | 0=>rfl
 | n+1=>by rw[iC,aR,V5 h n,h n,lJ];omega
theorem yV {ns:Nat->Nat}{k:Nat}{c d:Nat}(h:c<=d):lJ ns k c<=lJ ns k d:=by
 induction d with
 | zero=>
  have:c=0:=by omega
  subst this;exact bO _
 | succ e ih=>
  by_cases hc:c=e+1
  ·subst hc;exact bO _
  ·have:=ih (by omega);rw[lJ];omega
theorem B3 {ns:Nat->Nat}{k:Nat}{f:Nat->List UInt8}(h:∀c,(f c).length=1+ns c*(1+k)):∀n c j,c<n->j<1+ns c*(1+k)->(flr n f).getD (lJ ns k c+j) 0=(f c).getD j 0
 | 0,c,j,hc,_=>by omega
 | n+1,c,j,hc,hj=>by
  have hl:=V5 h n;rw[iC];by_cases e:c<n
  ·have:lJ ns k c+j<(flr n f).length:=by
    rw[hl];have:=yV (ns:=ns) (k:=k) (show c+1<=n from e);rw[lJ]at this;omega
   rw[aL,cN this,←aL];exact B3 h n c j e hj
  ·have e:c=n:=by omega
   subst e;rw[aL,cL (by rw[hl];omega),hl,←aL];congr 1;omega
theorem wG {A B:List UInt8}{n i:Nat}(h:A.length=n):(A++B).getD (n+i) 0=B.getD i 0:=by
 rw[aL,cL (by omega),←aL,h];congr 1;omega
theorem oD {A B:List UInt8}{i:Nat}(h:i<A.length):(A++B).getD i 0=A.getD i 0:=by
 rw[aL,cN h,←aL]
theorem iZ {x:Nat}(h:x<256):(aO x).toNat=x:=by
 rw[UInt8.toNat_ofNat'];exact cT h
structure Xb (s:ByteArray)(R n k:Nat)(beh cls:Nat->Nat)(ns:Nat->Nat)(tk:Nat->Nat->Nat)(ld:Nat->Nat->Nat->Nat):Prop where
 ok:fV s=true
 fr:iR s=R
 fm:iM s=n
 fk:iK s=k
 fb:∀i,i<R->fE s i=beh i
 fc:∀b,b<256->oO s b=cls b
 fn:∀c,c<n->nSt s c=ns c
 ft:∀c st,c<n->st<ns c->eA s c st=tk c st
 fl:∀c st j,c<n->st<ns c->j<k->bt s (oA s c st+1+j)=ld c st j
 fz:s.size=262+R+lJ ns k n
theorem F2 (rules:List ((Nat->Bool)×Int×Int))(n K:Nat)(ofs ns:Nat->Nat)(tk:Nat->Nat->Nat)(nx:Nat->Nat->Nat->Int)
  (hR1:1<=rules.length) (hR8:rules.length<=8) (hn1:1<=n) (hn4:n<=4) (hK1:0<K) (hK:K<=256) (hbe:∀i,i<rules.length->mR rules i<=1+n) (hof:∀b,b<256->ofs b<K) (hns:∀c,c<n->1<=ns c/\ns c<=100) (htk:∀c st,c<n->st<ns c->tk c st<=rules.length)
  (hnx:∀c st g,c<n->st<ns c->g<K->nx c st g= -1\/(0<=nx c st g/\nx c st g<(ns c:Int))):
  Xb ⟨(wrL rules n K ofs ns tk nx).toArray⟩ rules.length n (gB K (fQ ns nx n)).2.length (mR rules) (fun b=>(gB K (fQ ns nx n)).1.getD (ofs b) 0) ns tk (fun c st j=>ldB (nx c st ((gB K (fQ ns nx n)).2.getD j 0))):=by
 have hcls:=Ah K ns nx n;obtain⟨fi,hfi⟩:∃fi,fi=(gB K (fQ ns nx n)).2:=⟨_,rfl⟩
 obtain⟨cs,hcs⟩:∃cs,cs=(gB K (fQ ns nx n)).1:=⟨_,rfl⟩
 have hL:wrL rules n K ofs ns tk nx=(mI rules++flr rules.length (fun k=>[aO (mR rules k)])++ [aO n,aO (fi.length - 1)]++flr 256 (fun b=>[aO (cs.getD (ofs b) 0)]))++flr n (fun c=>[aO (ns c)]++flr (ns c) (stB tk nx fi c)):=by
  rw[hfi,hcs];rfl
 rw[hL];rw[←hfi,←hcs]at hcls ⊢;clear hL hfi hcs;have hk0:=hcls.pos hK1;have hkK:=hcls.le;obtain⟨R,hR⟩:∃R,rules.length=R:=⟨_,rfl⟩
 rw[hR]at hR1 hR8 hbe htk ⊢;obtain⟨k,hk⟩:∃k,fi.length=k:=⟨_,rfl⟩
 rw[hk]at hcls hk0 hkK ⊢;have l1:(mI rules).length=4:=rfl;have l2:(flr R (fun k=>[aO (mR rules k)])).length=R:=by have:=tW (m:=1) (f:=fun k=>[aO (mR rules k)]) R (fun _ _=>rfl);omega
 have l4:(flr 256 (fun b=>[aO (cs.getD (ofs b) 0)])).length=256:=by have:=tW (m:=1) (f:=fun b=>[aO (cs.getD (ofs b) 0)]) 256 (fun _ _=>rfl);omega
 have hst:∀c st,(stB tk nx fi c st).length=1+k:=fun c st=>by
  unfold stB;rw[aR,tW (m:=1) fi.length (fun _ _=>rfl),hk];simp
 have hc:∀c,([aO (ns c)]++flr (ns c) (stB tk nx fi c)).length=1+ns c*(1+k):=fun c=>by
  rw[aR,tW (ns c) (fun st _=>hst c st)];simp
 have lH:(mI rules++flr R (fun k=>[aO (mR rules k)])++ [aO n,aO (k - 1)]++flr 256 (fun b=>[aO (cs.getD (ofs b) 0)])).length=262+R:=by
  simp only[aR,l1,l2,l4,eL,eN];omega
 obtain⟨s,hs⟩:∃s:ByteArray,s=⟨((mI rules++flr R (fun k=>[aO (mR rules k)])++ [aO n,aO (k - 1)]++flr 256 (fun b=>[aO (cs.getD (ofs b) 0)]))++flr n (fun c=>[aO (ns c)]++flr (ns c) (stB tk nx fi c))).toArray⟩:=⟨_,rfl⟩
 rw[←hs];have hbt:∀i,bt s i=(((mI rules++flr R (fun k=>[aO (mR rules k)])++ [aO n,aO (k - 1)]++flr 256 (fun b=>[aO (cs.getD (ofs b) 0)]))++flr n (fun c=>[aO (ns c)]++flr (ns c) (stB tk nx fi c))).getD i 0).toNat:=fun i=>by
  rw[hs];rfl
 have hsize:s.size=262+R+lJ ns k n:=by
  rw[hs];show(List.toArray _).size=_;rw[List.size_toArray,aR,lH,V5 hc]
 have b0:bt s 0=83/\bt s 1=84/\bt s 2=1/\bt s 3=R:=by
  refine⟨?_, ?_, ?_, ?_⟩
  all_goals
   rw[hbt];rw[oD (by rw[lH];omega),oD (by simp only[aR,l1,l2,eL,eN];omega),oD (by simp only[aR,l1,l2];omega),oD (by rw[l1];omega)]
  ·rfl
  ·rfl
  ·rfl
  ·show(aO rules.length).toNat=R;rw[hR];exact iZ (by omega)
 have hiR:iR s=R:=b0.2.2.2;have bbe:∀i,i<R->bt s (4+i)=mR rules i:=fun i hi=>by
  rw[hbt,oD (by rw[lH];omega),oD (by simp only[aR,l1,l2,eL,eN];omega),oD (by simp only[aR,l1,l2];omega),wG l1];have:=wV (m:=1) (f:=fun k=>[aO (mR rules k)]) R i 0 (fun _ _=>rfl) hi (by omega);rw[eX,cF]at this;rw[this];show(aO (mR rules i)).toNat=_;exact iZ (by have:=hbe i hi;omega)
 have l12:(mI rules++flr R (fun k=>[aO (mR rules k)])).length=4+R:=by rw[aR,l1,l2]
 have bM:bt s (4+R)=n:=by
  rw[hbt,oD (by rw[lH];omega),oD (by rw[aR,l12];simp)];have:=wG (i:=0) (B:= [aO n,aO (k - 1)]) l12;rw[cF]at this;rw[this];exact iZ (by omega)
 have bK:bt s (5+R)=k - 1:=by
  rw[hbt,oD (by rw[lH];omega),oD (by rw[aR,l12];simp;omega)];have:=wG (i:=1) (B:= [aO n,aO (k - 1)]) l12;rw[show 5+R=4+R+1 by omega,this];exact iZ (by omega)
 have l123:(mI rules++flr R (fun k=>[aO (mR rules k)])++ [aO n,aO (k - 1)]).length=6+R:=by rw[aR,l12];simp;omega
 have bC:∀b,b<256->bt s (6+R+b)=cs.getD (ofs b) 0:=fun b hb=>by
  rw[hbt,oD (by rw[lH];omega),wG l123];have:=wV (m:=1) (f:=fun b=>[aO (cs.getD (ofs b) 0)]) 256 b 0 (fun _ _=>rfl) hb (by omega);rw[eX,cF]at this;rw[this];show(aO (cs.getD (ofs b) 0)).toNat=_;exact iZ (by have:=hcls.lt (ofs b) (hof b hb);omega)
 have bT:∀c j,c<n->j<1+ns c*(1+k)->bt s (262+R+(lJ ns k c+j))=(([aO (ns c)]++flr (ns c) (stB tk nx fi c)).getD j 0).toNat:=fun c j hcn hj=>by
  rw[hbt,wG lH,B3 hc n c j hcn hj]
 have bN:∀c,c<n->bt s (262+R+lJ ns k c)=ns c:=fun c hcn=>by
  have:=bT c 0 hcn (by omega);rw[cF]at this;rw[this];exact iZ (by have:=(hns c hcn).2;omega)
 have bS:∀c st j,c<n->st<ns c->j<1+k->bt s (262+R+lJ ns k c+1+st*(1+k)+j)=((stB tk nx fi c st).getD j 0).toNat:=fun c st j hcn hst' hj=>by
  have hlt:st*(1+k)+j<ns c*(1+k):=by
   have:=cO (1+k) (show st+1<=ns c from hst');rw[eM]at this;omega
  have:=bT c (1+(st*(1+k)+j)) hcn (by omega);rw[show 262+R+lJ ns k c+1+st*(1+k)+j=262+R+(lJ ns k c+(1+(st*(1+k)+j))) by omega,this,wG (by rfl),wV (ns c) st j (fun st _=>hst c st) hst' hj]
 have bMk:∀c st,c<n->st<ns c->bt s (262+R+lJ ns k c+1+st*(1+k))=tk c st:=fun c st hcn hst'=>by
  have:=bS c st 0 hcn hst' (by omega);rw[cF]at this;rw[this];show(aO (tk c st)).toNat=_;exact iZ (by have:=htk c st hcn hst';omega)
 have bLd:∀c st j,c<n->st<ns c->j<k->bt s (262+R+lJ ns k c+1+st*(1+k)+(j+1))=ldB (nx c st (fi.getD j 0)):=fun c st j hcn hst' hj=>by
  have:=bS c st (j+1) hcn hst' (by omega);rw[this];unfold stB;rw[Nat.add_comm j 1,wG (by rfl)];have:=wV (m:=1) (f:=fun i=>[aO (ldB (nx c st (fi.getD i 0)))]) fi.length j 0 (fun _ _=>rfl) (by omega) (by omega);rw[eX,cF]at this;rw[this];show(aO (ldB (nx c st (fi.getD j 0)))).toNat=_;refine iZ ?_;unfold ldB;split
  ·omega
  ·exact Nat.mod_lt _ (by omega)
 have hldv:∀c st j,c<n->st<ns c->j<k->ldB (nx c st (fi.getD j 0))<ns c\/ldB (nx c st (fi.getD j 0))=255:=fun c st j hcn hst' hj=>by
  unfold ldB;have h100:=(hns c hcn).2;rcases hnx c st (fi.getD j 0) hcn hst' (hcls.fi1 j hj).1 with e | e
  ·rw[if_pos e];exact .inr rfl
  ·rw[if_neg (by omega)];left;rw[cT (by omega)];omega
 have hiM:iM s=n:=by unfold iM;rw[hiR];exact bM
 have hiK:iK s=k:=by unfold iK;rw[hiR,bK];omega
 have hat:∀c,c<=n->iAt s c=262+R+lJ ns k c/\(c<n->xM s R k (iAt s c)=true):=by
  intro c
  induction c with
  | zero=>
   intro _;have e0:iAt s 0=262+R+lJ ns k 0:=by show 262+iR s=262+R+0;omega
   refine⟨e0,fun hc0=> ?_⟩;rw[e0];have hoff:=yV (ns:=ns) (k:=k) (show 0+1<=n from hc0);rw[lJ]at hoff;rw[nN,bN 0 hc0,hsize];have:=hns 0 hc0;refine⟨by omega,by omega,by omega,by omega,fun st hst'=> ?_⟩;rw[pA];refine⟨by rw[bMk 0 st hc0 hst'];exact htk 0 st hc0 hst',fun j hj=> ?_⟩;rw[bLd 0 st j hc0 hst' hj];exact hldv 0 st j hc0 hst' hj
  | succ d ih=>
   intro hd;obtain⟨h1,h2⟩:=ih (by omega);have h2:=h2 (by omega);have e1:iAt s (d+1)=262+R+lJ ns k (d+1):=by
    show vC s (iR s) (iK s) (iAt s d)=_;rw[hiR,hiK,(Hx h2).2,h1,bN d (by omega),lJ];omega
   refine⟨e1,fun hc0=> ?_⟩;rw[e1];have hoff:=yV (ns:=ns) (k:=k) (show d+1+1<=n from hc0);rw[lJ]at hoff;rw[nN,bN (d+1) hc0,hsize];have:=hns (d+1) hc0;refine⟨by omega,by omega,by omega,by omega,fun st hst'=> ?_⟩;rw[pA];refine⟨by rw[bMk (d+1) st hc0 hst'];exact htk (d+1) st hc0 hst',fun j hj=> ?_⟩;rw[bLd (d+1) st j hc0 hst' hj];exact hldv (d+1) st j hc0 hst' hj
 have hrw:∀c st,c<n->oA s c st=262+R+lJ ns k c+1+st*(1+k):=fun c st hcn=>by
  unfold oA;rw[(hat c (by omega)).1,hiK]
 refine⟨?_,hiR,hiM,hiK,bbe,fun b hb=>by unfold oO;rw[hiR];exact bC b hb,fun c hcn=>by unfold nSt;rw[(hat c (by omega)).1];exact bN c hcn,fun c st hcn hst'=>by unfold eA;rw[hrw c st hcn];exact bMk c st hcn hst',fun c st j hcn hst' hj=> ?_,hsize⟩
 ·rw[hZ,pC];unfold Dw Di T4;rw[hiR,hiM,hiK];refine⟨⟨by omega,⟨b0.1,b0.2.1,b0.2.2.1⟩,hR1,hR8⟩, ?_, ?_, ?_,fun c hcn=>(hat c (by omega)).2 hcn,by rw[(hat n (bO _)).1,hsize]⟩
  ·rw[eS,decide_eq_true_eq];refine⟨kB (by omega) (fun j hj=> ?_),by omega⟩;have:j=0:=by omega
   subst this;rw[cF,bM];omega
  ·rw[eS];refine⟨kB (by omega) (fun j hj=> ?_),kB (by omega) (fun j hj=> ?_)⟩
   ·rw[bbe j hj];have:=hbe j hj;omega
   ·have:=jS s (5+R+j);omega
  ·refine kB (by omega) (fun j hj=> ?_);rw[bC j hj];have:=hcls.lt (ofs j) (hof j hj);omega
 ·rw[hrw c st hcn,show 262+R+lJ ns k c+1+st*(1+k)+1+j=262+R+lJ ns k c+1+st*(1+k)+(j+1) by omega];exact bLd c st j hcn hst' hj
end Go.Stn
namespace Go.Stn
open Go.Proofs.YtgjgjgihceijnaaGreat (kU rD mO iQ gQ)
theorem Z6 (f:Nat->Bool):∀k c,c<=oZ f k c/\oZ f k c<=max c k/\∀j,j<k->f j=true->j+1<=oZ f k c
 | 0,c=>⟨bO _,by rw[oZ];omega,fun j hj=>by omega⟩
 | k+1,c=>by
  obtain⟨h1,h2,h3⟩:=Z6 f k c;rw[oZ];split
  ·rename_i h;exact⟨by omega,by omega,fun j hj _=>by omega⟩
  ·rename_i h;refine⟨h1,by omega,fun j hj hf=> ?_⟩;by_cases e:j=k
   ·subst e;apply bD;intro hc;exact h ⟨hf,by omega⟩
   ·exact h3 j (by omega) hf
theorem Us (x:(Nat->Bool)×Int×Int)(c:Nat):c<=wY x c/\(x.2.1<=5->wY x c<=max c 4)/\x.2.1<=1+(wY x c:Int)/\∀j,j<4->x.1 j=true->j+1<=wY x c:=by
 obtain⟨h1,h2,h3⟩:=Z6 x.1 4 c;unfold wY;split
 ·exact⟨by omega,fun h=>by omega,by omega,fun j hj hf=>by have:=h3 j hj hf;omega⟩
 ·exact⟨h1,fun _=>h2,by omega,h3⟩
theorem xU:∀(l:List ((Nat->Bool)×Int×Int)) (c:Nat),c<=bJ l c/\((∀x∈l,x.2.1<=5)->bJ l c<=max c 4)/\∀x∈l,x.2.1<=1+(bJ l c:Int)/\∀j,j<4->x.1 j=true->j+1<=bJ l c
 | [],c=>⟨bO _,fun _=>by rw[bJ];omega,fun x hx=>absurd hx List.not_mem_nil⟩
 | x::l,c=>by
  obtain⟨h1,h2,h3,h4⟩:=Us x c;obtain⟨k1,k2,k3⟩:=xU l (wY x c);rw[bJ];refine⟨by omega,fun h=> ?_,fun y hy=> ?_⟩
  ·have:=h2 (h x List.mem_cons_self);have:=k2 (fun y hy=>h y (List.mem_cons_of_mem _ hy));omega
  ·rcases List.mem_cons.1 hy with e | e
   ·rw[e];exact⟨by omega,fun j hj hf=>by have:=h4 j hj hf;omega⟩
   ·exact k3 y e
theorem U2 (cs:Nat->Option (List (Nat×List Int))):∀(d c:Nat) (acc:List (List (Nat×List Int))),(∀ls,qU cs d c acc=some ls->∃L,ls=acc++L/\L.length=d/\∀i,i<d->cs (c+i)=some (L.getD i []))/\(qU cs d c acc=none->∃i,i<d/\cs (c+i)=none)
 | 0,c,acc=>⟨fun ls h=>by rw[qU]at h;injection h with h;exact⟨[],by rw[h,List.append_nil],rfl,fun i hi=>by omega⟩,fun h=>by rw[qU]at h;cases h⟩
 | d+1,c,acc=>by
  cases e:cs c with
  | none=>
   refine⟨fun ls h=> ?_,fun _=>⟨0,by omega,by rw[cF];exact e⟩⟩;rw[qU,e]at h;cases h
  | some x=>
   obtain⟨h1,h2⟩:=U2 cs d (c+1) (acc++ [x]);refine⟨fun ls h=> ?_,fun h=> ?_⟩
   ·rw[qU,e]at h;obtain⟨L,a1,a2,a3⟩:=h1 ls h;refine⟨x::L,by rw[a1,List.append_assoc];rfl,by simp[a2],fun i hi=> ?_⟩
    cases i with
    | zero=>rw[cF];exact e
    | succ j=>
     have:=a3 j (by omega);rw[show c+(j+1)=c+1+j by omega,this]
     rfl
   ·rw[qU,e]at h;obtain⟨i,a1,a2⟩:=h2 h;exact⟨i+1,by omega,by rw[show c+(i+1)=c+1+i by omega];exact a2⟩
def aU (l:List aY):Nat:=bJ (aB st0 l).rules 1
theorem mP (l:List aY)(hl:∀x∈l,mZ x)(hn:fZ l<=10):1<=aU l/\aU l<=4/\(∀x∈l,x.2.1<=1+(aU l:Int))/\∀x∈l,∀c,x.1 c=true->c<aU l:=by
 obtain⟨h1,h2,h3⟩:=xU (aB st0 l).rules 1;have hok:=sZ l st0 Pc hl (by show 0+fZ l<=10;omega);have hru:=(U9 l hn).2;have hmem:∀x∈l,∃y∈(aB st0 l).rules,(y.1,y.2.1)=(x.1,x.2.1):=fun x hx=>by
  have:(x.1,x.2.1)∈l.map (fun x=>(x.1,x.2.1)):=gO.2 ⟨x,hx,rfl⟩;rw[←hru,gO]at this;exact this
 refine⟨h1, ?_,fun x hx=> ?_,fun x hx c hc=> ?_⟩
 ·have:=h2 (fun x hx=>(hok.be x hx).2);unfold aU;omega
 ·obtain⟨y,hy,e⟩:=hmem x hx;injection e with e1 e2;have:=(h3 y hy).1;rw[e2]at this;exact this
 ·obtain⟨y,hy,e⟩:=hmem x hx;injection e with e1 e2;have h4:c<4:=by
   apply bD;intro hcon;have:=(hl x hx).c4 c (by omega);rw[this]at hc;cases hc
  have:=(h3 y hy).2 c h4 (by rw[e1];exact hc);unfold aU;omega
structure Sx (l:List aY)(ls:List (List (Nat×List Int))):Prop where
 len:ls.length=aU l
 tab:∀c,c<aU l->Vq l c (ls.getD c [])
theorem T7 {t:ByteArray}(h:dD t=0){l:List aY}(hl:oN t=some l):
  (∀ls,qU (iQ (bB t).nodes (bB t).rules (kH (bB t).places).2) (bJ (bB t).rules 1) 0 []=some ls->Sx l ls)/\
  (qU (iQ (bB t).nodes (bB t).rules (kH (bB t).places).2) (bJ (bB t).rules 1) 0 []=none->∃c,c<aU l/\uJ l c):=by
 obtain⟨hs,l',hl',hn,e1,e2,e3⟩:=xW h;rw[hl]at hl';injection hl' with hl';subst hl';have hok:=(lY hl).1;have hm:=mP l hok hn;have ep:(aB st0 l).places=jZ l:=by rw[oY];rfl
 rw[e1,e2,e3,ep];obtain⟨a1,a2⟩:=U2 (iQ (aB st0 l).nodes (aB st0 l).rules (kH (jZ l)).2) (bJ (aB st0 l).rules 1) 0 [];refine⟨fun ls hls=> ?_,fun hls=> ?_⟩
 ·obtain⟨L,b1,b2,b3⟩:=a1 ls hls;rw[List.nil_append]at b1;subst b1;refine⟨b2,fun c hc=> ?_⟩;have:=b3 c hc;rw[eO]at this;exact(Q6 l hok hn c (by omega)).1 _ this
 ·obtain⟨c,b1,b2⟩:=a2 hls;rw[eO]at b2;exact⟨c,b1,(Q6 l hok hn c (by show c<4;have:c<aU l:=b1;omega)).2 b2⟩
theorem Tl (l:List aY):0<(eU l).length/\(eU l).length<=256:=by
 obtain⟨g0,g1,_⟩:=E1 (jZ l);exact⟨g0,g1⟩
theorem Rg {l:List aY}{ls:List (List (Nat×List Int))}(h:Sx l ls)(hl:l.length<=8)(hm:aU l<=4):D6 (eU l).length ls:=by
 have hmem:∀x∈ls,∃c,c<aU l/\x=ls.getD c []:=fun x hx=>by
  obtain⟨c,hc,e⟩:=cP hx;exact⟨c,by rw[←h.len];exact hc,by rw[aL,aT hc,←e];rfl⟩
 refine⟨by rw[h.len];omega,fun x hx=> ?_,fun x hx z hz=> ?_,fun x hx z hz=> ?_,fun x hx z hz y hy=> ?_⟩
 ·obtain⟨c,hc,rfl⟩:=hmem x hx;have:=(h.tab c hc).few;omega
 ·obtain⟨c,hc,rfl⟩:=hmem x hx;have:=(h.tab c hc).rul z hz;omega
 ·obtain⟨c,hc,rfl⟩:=hmem x hx;exact(h.tab c hc).len z hz
 ·obtain⟨c,hc,rfl⟩:=hmem x hx;have ht:=h.tab c hc;obtain⟨s,hs,e⟩:=cP hz;obtain⟨g,hg,e2⟩:=cP hy;have hgl:g<(eU l).length:=by rw[←ht.len z hz];exact hg
  have:=ht.cn.au.rng s g hs hgl;have e3:((ls.getD c []).getD s (0,[])).2.getD g 0=y:=by
   rw[show(ls.getD c []).getD s (0,[])=z by rw[aL,aT hs,←e];rfl];rw[aL,aT hg,←e2];rfl
  simp only[e3]at this;have:=ht.few;omega
theorem pQ (t:ByteArray):(dD t≠0/\gQ t=([],dD t))\/(dD t=0/\∃l,oN t=some l/\fZ l<=10/\
  ((gQ t=([],4)/\∃c,c<aU l/\uJ l c)\/
   ∃ls,Sx l ls/\gQ t=(wrL (aB st0 l).rules (aU l) (eU l).length (ofB l) (nsF ls) (tkF ls) (nxF ls),0))):=by
 by_cases h:dD t=0
 ·right;obtain⟨hs,l,hl,hn,e1,e2,e3⟩:=xW h;have ep:(aB st0 l).places=jZ l:=by rw[oY];rfl
  refine⟨h,l,hl,hn, ?_⟩;obtain⟨a1,a2⟩:=T7 h hl;have hc:∀X,qU (iQ (bB t).nodes (bB t).rules (kH (bB t).places).2) (bJ (bB t).rules 1) 0 []=X->gQ t=match X with
    | none=>([],4)
    | some ls=>(wrL (bB t).rules ls.length (kH (bB t).places).2.length (fun b=>(kH (bB t).places).1.getD b 0) (nsF ls) (tkF ls) (nxF ls),0):=fun X hX=>by
   unfold Go.Proofs.YtgjgjgihceijnaaGreat.gQ;rw[if_pos h,hX]
   cases X<;> rfl
  cases e:qU (iQ (bB t).nodes (bB t).rules (kH (bB t).places).2) (bJ (bB t).rules 1) 0 []with
  | none=>exact .inl ⟨hc _ e,a2 e⟩
  | some ls=>
   have ht:=a1 ls e;refine .inr ⟨ls,ht, ?_⟩;rw[hc _ e];simp only;rw[ht.len,e1,e3,ep]
   rfl
 ·left;refine⟨h, ?_⟩;unfold Go.Proofs.YtgjgjgihceijnaaGreat.gQ;rw[if_neg h]
structure mC (l:List aY)(s:ByteArray):Prop where
 ok:fV s=true
 sz:s.size<=120000
 fr:iR s=l.length
 fm:iM s=aU l
 fb:∀(i:Nat) (x:aY),l[i]? =some x->(fE s i:Int)=x.2.1
 cn:∀c,c<aU l->nI (nSt s c) 256 (eA s c) (fun p b=>fD (bE s c p b))
 z:∀c,c<aU l->eA s c 0=0
 tok:∀c,c<aU l->∀b u,eE 256 (b::u)->uU l c (b::u) (cI (eA s c) (fun p b=>fD (bE s c p b)) 0 (b::u))
 apr:∀c,c<aU l->∃r,r<=nSt s c/\∀p q,p<nSt s c->q<nSt s c->p≠q->¬Eqv (eA s c) (fun p j=>fD (bt s (oA s c p+1+j))) (iK s) r p q
 cl:∃fb:Nat->Nat,(∀j,j<iK s->fb j<256/\oO s (fb j)=j)/\(∀b,b<256->fb (oO s b)<=b)/\(∀j j',j<j'->j'<iK s->fb j<fb j')
 ca:∀j j',j<iK s->j'<iK s->j≠j'->∃c p,c<aU l/\p<nSt s c/\bt s (oA s c p+1+j)≠bt s (oA s c p+1+j')
theorem kJ {x:Int}{n:Nat}(hn:n<=100)(h:x= -1\/(0<=x/\x<(n:Int))):fD (ldB x)=x:=by
 unfold fD ldB;rcases h with h | h
 ·rw[if_pos h,if_pos rfl,h]
 ·have h1:¬x= -1:=by omega
  have h2:x.toNat<256:=by omega
  have h3:¬x.toNat=255:=by omega
  rw[if_neg h1,cT h2,if_neg h3];omega
theorem Eqv.letters {n K k:Nat}{tk:Nat->Nat}{nx nx':Nat->Nat->Int}(ha:iX n K nx)(h:∀g,g<K->∃j,j<k/\∀p,p<n->nx p g=nx' p j):∀(r s t:Nat),s<n->t<n->Eqv tk nx' k r s t->Eqv tk nx K r s t
 | 0,_,_,_,_,_=>trivial
 | r+1,s,t,hs,ht,hE=>by
  refine⟨Eqv.letters ha h r s t hs ht hE.1,hE.2.1,fun g hg=> ?_⟩;obtain⟨j,hj,e⟩:=h g hg;obtain⟨h1,h2⟩:=hE.2.2 j hj;rw[←e s hs,←e t ht]at h1 h2;refine⟨h1,fun hne=> ?_⟩;have r1:=ha.rng s g hs hg;have r2:=ha.rng t g ht hg;have:nx t g≠ -1:=fun e2=>hne (h1.2 e2)
  exact Eqv.letters ha h r _ _ (by omega) (by omega) (h2 hne)
theorem I4 {l:List aY}{ls:List (List (Nat×List Int))}(hok:∀x∈l,mZ x)(h1:0<l.length)(h8:l.length<=8)(hn:fZ l<=10)(h:Sx l ls):
  mC l ⟨(wrL (aB st0 l).rules (aU l) (eU l).length (ofB l) (nsF ls) (tkF ls) (nxF ls)).toArray⟩:=by
 obtain⟨m1,m4,mb,_⟩:=mP l hok hn;have hrl:(aB st0 l).rules.length=l.length:=by rw[kF];show 0+l.length=l.length;omega
 have hru:=(U9 l hn).2;have hgrp:=Pl (jZ l);obtain⟨lo,lo1,lo2,lo3⟩:=hgrp.lo;have hK:=Tl l;have hbeh:∀(i:Nat) (x:aY),l[i]? =some x->(mR (aB st0 l).rules i:Int)=x.2.1:=fun i x hx=>by
  have hi:i<(aB st0 l).rules.length:=by rw[hrl];exact(cR.1 hx).1
  have e:=congrArg (fun m=>m[i]?) hru;simp only[eR,hx,aT hi,gL]at e;injection e with e;injection e with _ e2;unfold mR;rw[aL,eR,aT hi];simp only[gL,Option.getD_some];rw[e2];have:=(hok x (List.mem_of_getElem? hx)).b0;omega
 have hnx:∀c st g,c<aU l->st<nsF ls c->g<(eU l).length->nxF ls c st g= -1\/(0<=nxF ls c st g/\nxF ls c st g<(nsF ls c:Int)):=fun c st g hc hst hg=>(h.tab c hc).cn.au.rng st g hst hg
 have hns:∀c,c<aU l->1<=nsF ls c/\nsF ls c<=100:=fun c hc=>⟨(h.tab c hc).cn.au.pos,(h.tab c hc).few⟩
 have hw:=F2 (aB st0 l).rules (aU l) (eU l).length (ofB l) (nsF ls) (tkF ls) (nxF ls) (by omega) (by omega) m1 m4 hK.1 hK.2 (fun i hi=>by
   have hi2:i<l.length:=by omega
   have e:=hbeh i l[i] (aT hi2);have:=mb l[i] (eT hi2);omega) hgrp.lt hns (fun c st hc hst=>by
   rw[hrl];refine(h.tab c hc).rul _ ?_;have hst:st<(ls.getD c []).length:=hst;show(ls.getD c []).getD st (0,[])∈ls.getD c [];generalize ls.getD c []=tab at*;rw[aL,aT hst];exact eT hst) hnx
 have hcls:=Ah (eU l).length (nsF ls) (nxF ls) (aU l);generalize (⟨(wrL (aB st0 l).rules (aU l) (eU l).length (ofB l) (nsF ls) (tkF ls) (nxF ls)).toArray⟩:ByteArray)=s at*;generalize hk:(gB (eU l).length (fQ (nsF ls) (nxF ls) (aU l))).2.length=k at*;generalize (gB (eU l).length (fQ (nsF ls) (nxF ls) (aU l))).2=fi at*;generalize (gB (eU l).length (fQ (nsF ls) (nxF ls) (aU l))).1=cs at*;have hsame:∀c st g,c<aU l->st<nsF ls c->g<(eU l).length->nxF ls c st (fi.getD (cs.getD g 0) 0)=nxF ls c st g:=fun c st g hc hst hg=>by
  have hj:=hcls.lt g hg;obtain⟨f1,f2⟩:=hcls.fi1 _ hj;have:=(hcls.eq _ g f1 hg).1 f2;exact kY.1 this c hc st hst
 have hofl:∀b,b<256->ofB l b<(eU l).length:=fun b hb=>hgrp.lt b hb
 have hlead:∀c st b,c<aU l->st<nsF ls c->b<256->fD (bE s c st b)=nxF ls c st (ofB l b):=fun c st b hc hst hb=>by
  unfold bE;rw[hw.fc b hb,hw.fl c st _ hc hst (hcls.lt _ (hofl b hb)),hsame c st _ hc hst (hofl b hb)];exact kJ (hns c hc).2 (hnx c st _ hc hst (hofl b hb))
 have hcb:∀c,c<aU l->nI (nsF ls c) 256 (tkF ls c) (fun p b=>nxF ls c p (ofB l b)):=fun c hc=>(h.tab c hc).cn.bytes hofl lo1 lo2 lo3
 have hauto:∀c,c<aU l->∀b u,eE 256 (b::u)->cI (eA s c) (fun p b=>fD (bE s c p b)) 0 (b::u)=cI (tkF ls c) (nxF ls c) 0 ((b::u).map (ofB l)):=fun c hc b u hw2=>by
  rw[←sV];exact(sI (hcb c hc).au (fun p hp=>(hw.ft c p hc hp).symm) (fun p b hp hb=>(hlead c p b hc hp hb).symm) (b::u) 0 (hns c hc).1 hw2).symm
 refine⟨hw.ok, ?_,by rw[hw.fr,hrl],hw.fm,fun i x hx=> ?_,fun c hc=> ?_,fun c hc=> ?_,fun c hc b u hl2=> ?_,fun c hc=> ?_, ?_,fun j j' hj hj' hne=> ?_⟩
 ·rw[hw.fz,hrl];have:∀d,d<=aU l->lJ (nsF ls) k d<=d*25801:=by
   intro d
   induction d with
   | zero=>intro _;exact Nat.zero_le _
   | succ e ih=>
    intro he;have h1:=ih (by omega);have h2:=Nat.mul_le_mul (hns e (by omega)).2 (show 1+k<=257 by have:=hcls.le;omega);rw[lJ,eM];omega
  have h2:=this (aU l) (bO _);have h3:=cO 25801 m4;omega
 ·rw[hw.fb i (by rw[hrl];exact(cR.1 hx).1)];exact hbeh i x hx
 ·rw[hw.fn c hc];exact(hcb c hc).congr (fun p hp=>(hw.ft c p hc hp).symm) (fun p b hp hb=>(hlead c p b hc hp hb).symm)
 ·rw[hw.ft c 0 hc (hns c hc).1];exact(h.tab c hc).z
 ·rw[hauto c hc b u hl2];exact(h.tab c hc).tok b u hl2
 ·obtain⟨r,hr,hap⟩:=(h.tab c hc).apr;rw[hw.fn c hc];refine⟨r,hr,fun p q hp hq hne hE=>hap p q hp hq hne ?_⟩;have hcan:=(h.tab c hc).cn;refine Eqv.letters (nx':=fun p j=>nxF ls c p (fi.getD j 0)) (k:=k) hcan.au (fun g hg=>⟨cs.getD g 0,hcls.lt g hg,fun p hp=>(hsame c p g hc hp hg).symm⟩) r p q hp hq ?_;rw[hw.fk]at hE;have hcl:iX (nsF ls c) k (fun p j=>fD (bt s (oA s c p+1+j))):=⟨(hns c hc).1,fun p j hp hj=>by
   rw[hw.fl c p j hc hp hj,kJ (hns c hc).2 (hnx c p _ hc hp (hcls.fi1 j hj).1)];exact hnx c p _ hc hp (hcls.fi1 j hj).1⟩
  exact Eqv.congr hcl (fun p hp=>hw.ft c p hc hp) (fun p j hp hj=>by rw[hw.fl c p j hc hp hj,kJ (hns c hc).2 (hnx c p _ hc hp (hcls.fi1 j hj).1)]) r p q hp hq hE
 ·refine⟨fun j=>lo (fi.getD j 0),fun j hj=> ?_,fun b hb=> ?_,fun j j' hj hj'=> ?_⟩
  ·rw[hw.fk]at hj;obtain⟨f1,f2⟩:=hcls.fi1 j hj;obtain⟨g1,g2⟩:=lo1 _ f1;refine⟨g1, ?_⟩;rw[hw.fc _ g1];show cs.getD (ofB l (lo (fi.getD j 0))) 0=j;rw[show ofB l (lo (fi.getD j 0))=fi.getD j 0 from g2];exact f2
  ·rw[hw.fc b hb];have h1:=hcls.fi2 (ofB l b) (hofl b hb);have h2:=lo3 b hb;have h3:lo (fi.getD (cs.getD (ofB l b) 0) 0)<=lo (ofB l b):=by
    by_cases e:fi.getD (cs.getD (ofB l b) 0) 0=ofB l b
    ·rw[e];exact bO _
    ·exact gN (lo2 _ _ (by omega) (hofl b hb))
   exact Nat.le_trans h3 h2
  ·rw[hw.fk]at hj';exact lo2 _ _ (hcls.fi3 j j' hj hj') (hcls.fi1 j' hj').1
 ·rw[hw.fk]at hj hj';obtain⟨f1,f2⟩:=hcls.fi1 j hj;obtain⟨f3,f4⟩:=hcls.fi1 j' hj';have hno:¬fQ (nsF ls) (nxF ls) (aU l) (fi.getD j 0) (fi.getD j' 0)=true:=fun e=>by
   have:=(hcls.eq _ _ f1 f3).2 e;exact hne (f2.symm.trans (this.trans f4))
  apply bD;intro hcon;refine hno (kY.2 (fun c hc p hp=> ?_));apply bD;intro hne2;refine hcon ⟨c,p,hc,by rw[hw.fn c hc];exact hp,fun e=>hne2 ?_⟩;rw[hw.fl c p j hc hp hj,hw.fl c p j' hc hp hj']at e;have e:=congrArg fD e;rw[kJ (hns c hc).2 (hnx c p _ hc hp f1),kJ (hns c hc).2 (hnx c p _ hc hp f3)]at e;exact e
end Go.Stn
namespace Go.Proofs.YtgjgjgihceijnaaGreat
open Go.RowKit Go.Stn
theorem Ca (t:ByteArray)(w:World):Calls Tryz.prog 7 #[.string t] w fun e w'=>e= .returned (.tuple #[.string ⟨(gQ t).1.toArray⟩,.int .i64 (gQ t).2])/\Below w.heap.size w w':=by
 refine Le t w (fun h=>Tq h) (fun h ls hls=> ?_);obtain⟨hs,l,hl,hn,e1,e2,e3⟩:=xW h;have ep:(aB st0 l).places=jZ l:=by rw[oY];rfl
 have hok:=lY hl;have:=Rg ((T7 h hl).1 ls hls) hok.2.2 (mP l hok.1 hn).2.1;rw[e3,ep];exact this
end Go.Proofs.YtgjgjgihceijnaaGreat
namespace Go.Stn
section
variable {n:Nat} {mk:Nat->Nat} {ld:Nat->Nat->Nat}
def iV (mk:Nat->Nat)(tc:Nat->Nat->Nat)(K:Nat)(d:Nat->Nat->Bool)(i j:Nat):Bool:=
 decide (mk i≠mk j\/∃k,k<K/\((¬(tc i k=255↔tc j k=255))\/(tc i k≠255/\d (tc i k) (tc j k)=true)))
end
end Go.Stn
namespace Go.Stn
open Go.RowKit
theorem cB (w:World)(b i:Nat)(v:Value){k:Nat}(h:k≠b):(w.setCell ⟨b,i,none⟩ v).heap[k]? =w.heap[k]? :=Below.heap_setCell w ⟨b,i,none⟩ v k (by intro e;exact h e)
end Go.Stn
