/- Texts put together: WdPure, TkComp, LePure, KpMem. -/
import Derived.Test.YtgjgjgihceijnaaG21
import Derived.Test.YtgjgjgihceijnaaG16
import Derived.Test.YtgjgjgihceijnaaG01
import Derived.Test.YtgjgjgihceijnaaG02
import Derived.Test.YtgjgjgihceijnaaG03
import Derived.Deep.QuietTactic
import Derived.BigQuiet
import Derived.Test.YtgjgjgihceijnaaChecked
import Derived.WalkKit
import Derived.WalkSpells
import Derived.WalkLawsBesides
import Derived.Test.YtgjgjgihceijnaaG23
namespace Go.Stn
theorem PJ.new {q:Nat→Nat→Bool}{s:Nat}{fin firsts:List Nat}(h:PJ q s fin firsts)(hf:firstP q firsts s firsts.length=firsts.length):PJ q (s+1) (fin++ [firsts.length]) (firsts++ [s]):=by
 have hno:=firstP_none (q:=q) (l:=firsts) (s:=s) firsts.length (Nat.le_refl _) hf
 have hlen:=h.pi.len
 have hend:(fin++ [firsts.length]).getD s 0=firsts.length:=by have:= @getD_app_end fin firsts.length;rw[hlen]at this;exact this
 refine⟨⟨by simp[hlen],fun x hx=> ?_,fun f hff=> ?_⟩,fun x hx=> ?_,fun f f' hff hf'=> ?_,fun f f' hff hf'=> ?_,fun _=> ?_⟩
 ·by_cases e:x=s
  ·subst e
   rw[hend]
   exact⟨by simp,.inl getD_app_end⟩
  ·have hx':x<s:=by omega
   obtain⟨h1,h2⟩:=h.pi.cl x hx'
   rw[getD_app_lt (l:=fin) (by rw[hlen];exact hx'),getD_app_lt h1]
   exact⟨Nat.lt_of_lt_of_le h1 (by simp),h2⟩
 ·simp at hff
  by_cases e:f=firsts.length
  ·subst e
   rw[getD_app_end,hend]
   exact⟨by omega,rfl⟩
  ·have hf':f<firsts.length:=by omega
   obtain⟨h1,h2⟩:=h.pi.rep f hf'
   rw[getD_app_lt hf',getD_app_lt (by rw[hlen];exact h1)]
   exact⟨by omega,h2⟩
 ·by_cases e:x=s
  ·subst e
   rw[hend,getD_app_end]
   exact Nat.le_refl _
  ·have hx':x<s:=by omega
   rw[getD_app_lt (l:=fin) (by rw[hlen];exact hx'),getD_app_lt (h.pi.cl x hx').1]
   exact h.le x hx'
 ·simp at hf'
  by_cases e:f'=firsts.length
  ·subst e
   rw[getD_app_end,getD_app_lt hff]
   exact(h.pi.rep f hff).1
  ·rw[getD_app_lt (by omega),getD_app_lt (by omega)]
   exact h.mono f f' hff (by omega)
 ·simp at hf'
  by_cases e:f'=firsts.length
  ·subst e
   rw[getD_app_end,getD_app_lt hff]
   exact hno f (by omega) hff
  ·rw[getD_app_lt (by omega),getD_app_lt (by omega)]
   exact h.no f f' hff (by omega)
 ·refine⟨by simp, ?_⟩
  by_cases e:s=0
  ·subst e
   have:firsts= []:=by
    cases firsts with
    | nil=>rfl
    | cons a r=>have:=(h.pi.rep 0 (by simp)).1;omega
   rw[this];rfl
  ·have:=h.zero (by omega)
   rw[getD_app_lt this.1];exact this.2
theorem PJ.old {q:Nat→Nat→Bool}{s:Nat}{fin firsts:List Nat}(h:PJ q s fin firsts)(hf:¬firstP q firsts s firsts.length=firsts.length):PJ q (s+1) (fin++ [firstP q firsts s firsts.length]) firsts:=by
 have hlen:=h.pi.len
 have hlt:firstP q firsts s firsts.length<firsts.length:=by have:=firstP_le q firsts s firsts.length;omega
 have hq:=firstP_q _ (Nat.le_refl _) hlt
 have hend:(fin++ [firstP q firsts s firsts.length]).getD s 0=firstP q firsts s firsts.length:=by have:= @getD_app_end fin (firstP q firsts s firsts.length);rw[hlen]at this;exact this
 refine⟨⟨by simp[hlen],fun x hx=> ?_,fun f hff=> ?_⟩,fun x hx=> ?_,h.mono,h.no,fun _=> ?_⟩
 ·by_cases e:x=s
  ·subst e
   rw[hend]
   exact⟨hlt,.inr hq⟩
  ·have hx':x<s:=by omega
   rw[getD_app_lt (l:=fin) (by rw[hlen];exact hx')]
   exact h.pi.cl x hx'
 ·obtain⟨h1,h2⟩:=h.pi.rep f hff
  rw[getD_app_lt (by rw[hlen];exact h1)]
  exact⟨by omega,h2⟩
 ·by_cases e:x=s
  ·subst e
   rw[hend]
   exact Nat.le_of_lt (h.pi.rep _ hlt).1
  ·have hx':x<s:=by omega
   rw[getD_app_lt (l:=fin) (by rw[hlen];exact hx')]
   exact h.le x hx'
 ·have:0<s:=by have:=(h.pi.rep _ hlt).1;omega
  exact h.zero this
theorem clsL_PJ {q:Nat→Nat→Bool}:∀d s fin firsts,PJ q s fin firsts→PJ q (s+d) (clsL q d s fin firsts).1 (clsL q d s fin firsts).2:=by
 intro d
 induction d with
 | zero=>intro s fin firsts h;exact h
 | succ k ih=>
  intro s fin firsts h
  rw[clsL,show s+(k+1)=s+1+k by omega]
  by_cases hf:firstP q firsts s firsts.length=firsts.length
  ·rw[if_pos hf];exact ih _ _ _ (h.new hf)
  ·rw[if_neg hf];exact ih _ _ _ (h.old hf)
theorem clsP_PJ (K:Nat)(q:Nat→Nat→Bool):PJ q K (clsP K q).1 (clsP K q).2:=by
 have:=clsL_PJ (q:=q) K 0 [] [] ⟨⟨rfl,fun x hx=>by omega,fun f hf=>by simp at hf⟩,fun x hx=>by omega,fun f f' _ hf=>by simp at hf,fun f f' _ hf=>by simp at hf,fun h=>by omega⟩
 rw[Nat.zero_add]at this
 exact this
structure ClsOk (K k:Nat)(q:Nat→Nat→Bool)(cls fi:Nat→Nat):Prop where
 pos:0<K→0<k
 le:k≤K
 lt:∀g,g<K→cls g<k
 eq:∀g g',g<K→g'<K→(cls g=cls g'↔q g g'=true)
 fi1:∀j,j<k→fi j<K∧cls (fi j)=j
 fi2:∀g,g<K→fi (cls g)≤g
 fi3:∀j j',j<j'→j'<k→fi j<fi j'
theorem cls_ok (K:Nat)(q:Nat→Nat→Bool)(hr:∀x,q x x=true)(hs:∀x y,q x y=true→q y x=true)(ht:∀x y z,q x y=true→q y z=true→q x z=true):
  ClsOk K (clsP K q).2.length q (fun g=>(clsP K q).1.getD g 0) (fun j=>(clsP K q).2.getD j 0):=by
 have h:=clsP_PJ K q
 have hf:=clsP_facts q K
 exact⟨hf.2.2.2.2,hf.2.1,fun g hg=>(h.pi.cl g hg).1,fun g g' hg hg'=>h.part hr hs ht hg hg',fun j hj=>h.pi.rep j hj,fun g hg=>h.le g hg,fun j j'=>h.mono j j'⟩
theorem samB_refl (ns:Nat→Nat)(nx:Nat→Nat→Nat→Int)(n g:Nat):samB ns nx n g g=true:=samB_yes (fun _ _ _ _=>rfl)
theorem samB_iff {ns:Nat→Nat}{nx:Nat→Nat→Nat→Int}{n g h:Nat}:samB ns nx n g h=true↔∀c,c<n→∀s,s<ns c→nx c s g=nx c s h:=by unfold samB;rw[decide_eq_true_eq]
theorem sam_cls (K:Nat)(ns:Nat→Nat)(nx:Nat→Nat→Nat→Int)(n:Nat):ClsOk K (clsP K (samB ns nx n)).2.length (samB ns nx n) (fun g=>(clsP K (samB ns nx n)).1.getD g 0) (fun j=>(clsP K (samB ns nx n)).2.getD j 0):=
 cls_ok K _ (samB_refl ns nx n) (fun _ _ h=>samB_iff.2 (fun c hc s hs=>(samB_iff.1 h c hc s hs).symm)) (fun _ _ _ h k=>samB_iff.2 (fun c hc s hs=>(samB_iff.1 h c hc s hs).trans (samB_iff.1 k c hc s hs)))
theorem flr_len {m:Nat}{f:Nat→List UInt8}:∀n,(∀i,i<n→(f i).length=m)→(flr n f).length=n*m
 | 0,_=>by simp[flr]
 | n+1,h=>by
  rw[flr_succ,List.length_append,flr_len n (fun i hi=>h i (by omega)),h n (by omega),Nat.succ_mul]
theorem flr_get {m:Nat}{f:Nat→List UInt8}:∀n i j,(∀i,i<n→(f i).length=m)→i<n→j<m→(flr n f).getD (i*m+j) 0=(f i).getD j 0
 | 0,i,j,_,hi,_=>by omega
 | n+1,i,j,h,hi,hj=>by
  have hl:=flr_len n (fun i hi=>h i (show i<n+1 by omega))
  rw[flr_succ]
  by_cases e:i<n
  ·have:i*m+j<(flr n f).length:=by
    rw[hl]
    have:=Nat.mul_le_mul_right m (show i+1≤n from e)
    rw[Nat.succ_mul]at this
    omega
   rw[List.getD_eq_getElem?_getD,List.getElem?_append_left this,←List.getD_eq_getElem?_getD]
   exact flr_get n i j (fun i hi=>h i (by omega)) e hj
  ·have e:i=n:=by omega
   subst e
   rw[List.getD_eq_getElem?_getD,List.getElem?_append_right (by rw[hl];omega),hl,←List.getD_eq_getElem?_getD]
   congr 1
   omega
def offC (ns:Nat→Nat)(k:Nat):Nat→Nat
 | 0=>0
 | c+1=>offC ns k c+1+ns c*(1+k)
theorem flr_off {ns:Nat→Nat}{k:Nat}{f:Nat→List UInt8}(h:∀c,(f c).length=1+ns c*(1+k)):∀n,(flr n f).length=offC ns k n
 | 0=>rfl
 | n+1=>by rw[flr_succ,List.length_append,flr_off h n,h n,offC];omega
theorem offC_mono {ns:Nat→Nat}{k:Nat}{c d:Nat}(h:c≤d):offC ns k c≤offC ns k d:=by
 induction d with
 | zero=>
  have:c=0:=by omega
  subst this;exact Nat.le_refl _
 | succ e ih=>
  by_cases hc:c=e+1
  ·subst hc;exact Nat.le_refl _
  ·have:=ih (by omega)
   rw[offC];omega
theorem flr_off_get {ns:Nat→Nat}{k:Nat}{f:Nat→List UInt8}(h:∀c,(f c).length=1+ns c*(1+k)):∀n c j,c<n→j<1+ns c*(1+k)→(flr n f).getD (offC ns k c+j) 0=(f c).getD j 0
 | 0,c,j,hc,_=>by omega
 | n+1,c,j,hc,hj=>by
  have hl:=flr_off h n
  rw[flr_succ]
  by_cases e:c<n
  ·have:offC ns k c+j<(flr n f).length:=by
    rw[hl]
    have:=offC_mono (ns:=ns) (k:=k) (show c+1≤n from e)
    rw[offC]at this
    omega
   rw[List.getD_eq_getElem?_getD,List.getElem?_append_left this,←List.getD_eq_getElem?_getD]
   exact flr_off_get h n c j e hj
  ·have e:c=n:=by omega
   subst e
   rw[List.getD_eq_getElem?_getD,List.getElem?_append_right (by rw[hl];omega),hl,←List.getD_eq_getElem?_getD]
   congr 1
   omega
theorem getD_r {A B:List UInt8}{n i:Nat}(h:A.length=n):(A++B).getD (n+i) 0=B.getD i 0:=by
 rw[List.getD_eq_getElem?_getD,List.getElem?_append_right (by omega),←List.getD_eq_getElem?_getD,h]
 congr 1
 omega
theorem getD_l {A B:List UInt8}{i:Nat}(h:i<A.length):(A++B).getD i 0=A.getD i 0:=by
 rw[List.getD_eq_getElem?_getD,List.getElem?_append_left h,←List.getD_eq_getElem?_getD]
theorem ofNat_small {x:Nat}(h:x<256):(UInt8.ofNat x).toNat=x:=by
 rw[UInt8.toNat_ofNat'];exact Nat.mod_eq_of_lt h
structure WrOk (s:ByteArray)(R n k:Nat)(beh cls:Nat→Nat)(ns:Nat→Nat)(tk:Nat→Nat→Nat)(ld:Nat→Nat→Nat→Nat):Prop where
 ok:imgOk s=true
 fr:iR s=R
 fm:iM s=n
 fk:iK s=k
 fb:∀i,i<R→thenB s i=beh i
 fc:∀b,b<256→clsN s b=cls b
 fn:∀c,c<n→nSt s c=ns c
 ft:∀c st,c<n→st<ns c→markN s c st=tk c st
 fl:∀c st j,c<n→st<ns c→j<k→bt s (rwAt s c st+1+j)=ld c st j
 fz:s.size=262+R+offC ns k n
theorem written_ok (rules:List ((Nat→Bool)×Int×Int))(n K:Nat)(ofs ns:Nat→Nat)(tk:Nat→Nat→Nat)(nx:Nat→Nat→Nat→Int)
  (hR1:1≤rules.length) (hR8:rules.length≤8) (hn1:1≤n) (hn4:n≤4) (hK1:0<K) (hK:K≤256) (hbe:∀i,i<rules.length→behF rules i≤1+n) (hof:∀b,b<256→ofs b<K) (hns:∀c,c<n→1≤ns c∧ns c≤100) (htk:∀c st,c<n→st<ns c→tk c st≤rules.length)
  (hnx:∀c st g,c<n→st<ns c→g<K→nx c st g= -1∨(0≤nx c st g∧nx c st g<(ns c:Int))):
  WrOk ⟨(wrL rules n K ofs ns tk nx).toArray⟩ rules.length n (clsP K (samB ns nx n)).2.length (behF rules) (fun b=>(clsP K (samB ns nx n)).1.getD (ofs b) 0) ns tk (fun c st j=>ldB (nx c st ((clsP K (samB ns nx n)).2.getD j 0))):=by
 have hcls:=sam_cls K ns nx n
 obtain⟨fi,hfi⟩:∃fi,fi=(clsP K (samB ns nx n)).2:=⟨_,rfl⟩
 obtain⟨cs,hcs⟩:∃cs,cs=(clsP K (samB ns nx n)).1:=⟨_,rfl⟩
 have hL:wrL rules n K ofs ns tk nx=(imgHB rules++flr rules.length (fun k=>[UInt8.ofNat (behF rules k)])++ [UInt8.ofNat n,UInt8.ofNat (fi.length - 1)]++flr 256 (fun b=>[UInt8.ofNat (cs.getD (ofs b) 0)]))++flr n (fun c=>[UInt8.ofNat (ns c)]++flr (ns c) (stB tk nx fi c)):=by
  rw[hfi,hcs];rfl
 rw[hL]
 rw[←hfi,←hcs]at hcls ⊢
 clear hL hfi hcs
 have hk0:=hcls.pos hK1
 have hkK:=hcls.le
 obtain⟨R,hR⟩:∃R,rules.length=R:=⟨_,rfl⟩
 rw[hR]at hR1 hR8 hbe htk ⊢
 obtain⟨k,hk⟩:∃k,fi.length=k:=⟨_,rfl⟩
 rw[hk]at hcls hk0 hkK ⊢
 have l1:(imgHB rules).length=4:=rfl
 have l2:(flr R (fun k=>[UInt8.ofNat (behF rules k)])).length=R:=by have:=flr_len (m:=1) (f:=fun k=>[UInt8.ofNat (behF rules k)]) R (fun _ _=>rfl);omega
 have l4:(flr 256 (fun b=>[UInt8.ofNat (cs.getD (ofs b) 0)])).length=256:=by have:=flr_len (m:=1) (f:=fun b=>[UInt8.ofNat (cs.getD (ofs b) 0)]) 256 (fun _ _=>rfl);omega
 have hst:∀c st,(stB tk nx fi c st).length=1+k:=fun c st=>by
  unfold stB
  rw[List.length_append,flr_len (m:=1) fi.length (fun _ _=>rfl),hk]
  simp
 have hc:∀c,([UInt8.ofNat (ns c)]++flr (ns c) (stB tk nx fi c)).length=1+ns c*(1+k):=fun c=>by
  rw[List.length_append,flr_len (ns c) (fun st _=>hst c st)];simp
 have lH:(imgHB rules++flr R (fun k=>[UInt8.ofNat (behF rules k)])++ [UInt8.ofNat n,UInt8.ofNat (k - 1)]++flr 256 (fun b=>[UInt8.ofNat (cs.getD (ofs b) 0)])).length=262+R:=by
  simp only[List.length_append,l1,l2,l4,List.length_cons,List.length_nil];omega
 obtain⟨s,hs⟩:∃s:ByteArray,s=⟨((imgHB rules++flr R (fun k=>[UInt8.ofNat (behF rules k)])++ [UInt8.ofNat n,UInt8.ofNat (k - 1)]++flr 256 (fun b=>[UInt8.ofNat (cs.getD (ofs b) 0)]))++flr n (fun c=>[UInt8.ofNat (ns c)]++flr (ns c) (stB tk nx fi c))).toArray⟩:=⟨_,rfl⟩
 rw[←hs]
 have hbt:∀i,bt s i=(((imgHB rules++flr R (fun k=>[UInt8.ofNat (behF rules k)])++ [UInt8.ofNat n,UInt8.ofNat (k - 1)]++flr 256 (fun b=>[UInt8.ofNat (cs.getD (ofs b) 0)]))++flr n (fun c=>[UInt8.ofNat (ns c)]++flr (ns c) (stB tk nx fi c))).getD i 0).toNat:=fun i=>by
  rw[hs];rfl
 have hsize:s.size=262+R+offC ns k n:=by
  rw[hs]
  show(List.toArray _).size=_
  rw[List.size_toArray,List.length_append,lH,flr_off hc]
 have b0:bt s 0=83∧bt s 1=84∧bt s 2=1∧bt s 3=R:=by
  refine⟨?_, ?_, ?_, ?_⟩
  all_goals
   rw[hbt]
   rw[getD_l (by rw[lH];omega),getD_l (by simp only[List.length_append,l1,l2,List.length_cons,List.length_nil];omega),getD_l (by simp only[List.length_append,l1,l2];omega),getD_l (by rw[l1];omega)]
  ·rfl
  ·rfl
  ·rfl
  ·show(UInt8.ofNat rules.length).toNat=R
   rw[hR];exact ofNat_small (by omega)
 have hiR:iR s=R:=b0.2.2.2
 have bbe:∀i,i<R→bt s (4+i)=behF rules i:=fun i hi=>by
  rw[hbt,getD_l (by rw[lH];omega),getD_l (by simp only[List.length_append,l1,l2,List.length_cons,List.length_nil];omega),getD_l (by simp only[List.length_append,l1,l2];omega),getD_r l1]
  have:=flr_get (m:=1) (f:=fun k=>[UInt8.ofNat (behF rules k)]) R i 0 (fun _ _=>rfl) hi (by omega)
  rw[Nat.mul_one,Nat.add_zero]at this
  rw[this]
  show(UInt8.ofNat (behF rules i)).toNat=_
  exact ofNat_small (by have:=hbe i hi;omega)
 have l12:(imgHB rules++flr R (fun k=>[UInt8.ofNat (behF rules k)])).length=4+R:=by rw[List.length_append,l1,l2]
 have bM:bt s (4+R)=n:=by
  rw[hbt,getD_l (by rw[lH];omega),getD_l (by rw[List.length_append,l12];simp)]
  have:=getD_r (i:=0) (B:= [UInt8.ofNat n,UInt8.ofNat (k - 1)]) l12
  rw[Nat.add_zero]at this
  rw[this]
  exact ofNat_small (by omega)
 have bK:bt s (5+R)=k - 1:=by
  rw[hbt,getD_l (by rw[lH];omega),getD_l (by rw[List.length_append,l12];simp;omega)]
  have:=getD_r (i:=1) (B:= [UInt8.ofNat n,UInt8.ofNat (k - 1)]) l12
  rw[show 5+R=4+R+1 by omega,this]
  exact ofNat_small (by omega)
 have l123:(imgHB rules++flr R (fun k=>[UInt8.ofNat (behF rules k)])++ [UInt8.ofNat n,UInt8.ofNat (k - 1)]).length=6+R:=by rw[List.length_append,l12];simp;omega
 have bC:∀b,b<256→bt s (6+R+b)=cs.getD (ofs b) 0:=fun b hb=>by
  rw[hbt,getD_l (by rw[lH];omega),getD_r l123]
  have:=flr_get (m:=1) (f:=fun b=>[UInt8.ofNat (cs.getD (ofs b) 0)]) 256 b 0 (fun _ _=>rfl) hb (by omega)
  rw[Nat.mul_one,Nat.add_zero]at this
  rw[this]
  show(UInt8.ofNat (cs.getD (ofs b) 0)).toNat=_
  exact ofNat_small (by have:=hcls.lt (ofs b) (hof b hb);omega)
 have bT:∀c j,c<n→j<1+ns c*(1+k)→bt s (262+R+(offC ns k c+j))=(([UInt8.ofNat (ns c)]++flr (ns c) (stB tk nx fi c)).getD j 0).toNat:=fun c j hcn hj=>by
  rw[hbt,getD_r lH,flr_off_get hc n c j hcn hj]
 have bN:∀c,c<n→bt s (262+R+offC ns k c)=ns c:=fun c hcn=>by
  have:=bT c 0 hcn (by omega)
  rw[Nat.add_zero]at this
  rw[this]
  exact ofNat_small (by have:=(hns c hcn).2;omega)
 have bS:∀c st j,c<n→st<ns c→j<1+k→bt s (262+R+offC ns k c+1+st*(1+k)+j)=((stB tk nx fi c st).getD j 0).toNat:=fun c st j hcn hst' hj=>by
  have hlt:st*(1+k)+j<ns c*(1+k):=by
   have:=Nat.mul_le_mul_right (1+k) (show st+1≤ns c from hst')
   rw[Nat.succ_mul]at this
   omega
  have:=bT c (1+(st*(1+k)+j)) hcn (by omega)
  rw[show 262+R+offC ns k c+1+st*(1+k)+j=262+R+(offC ns k c+(1+(st*(1+k)+j))) by omega,this,getD_r (by rfl),flr_get (ns c) st j (fun st _=>hst c st) hst' hj]
 have bMk:∀c st,c<n→st<ns c→bt s (262+R+offC ns k c+1+st*(1+k))=tk c st:=fun c st hcn hst'=>by
  have:=bS c st 0 hcn hst' (by omega)
  rw[Nat.add_zero]at this
  rw[this]
  show(UInt8.ofNat (tk c st)).toNat=_
  exact ofNat_small (by have:=htk c st hcn hst';omega)
 have bLd:∀c st j,c<n→st<ns c→j<k→bt s (262+R+offC ns k c+1+st*(1+k)+(j+1))=ldB (nx c st (fi.getD j 0)):=fun c st j hcn hst' hj=>by
  have:=bS c st (j+1) hcn hst' (by omega)
  rw[this]
  unfold stB
  rw[Nat.add_comm j 1,getD_r (by rfl)]
  have:=flr_get (m:=1) (f:=fun i=>[UInt8.ofNat (ldB (nx c st (fi.getD i 0)))]) fi.length j 0 (fun _ _=>rfl) (by omega) (by omega)
  rw[Nat.mul_one,Nat.add_zero]at this
  rw[this]
  show(UInt8.ofNat (ldB (nx c st (fi.getD j 0)))).toNat=_
  refine ofNat_small ?_
  unfold ldB
  split
  ·omega
  ·exact Nat.mod_lt _ (by omega)
 have hldv:∀c st j,c<n→st<ns c→j<k→ldB (nx c st (fi.getD j 0))<ns c∨ldB (nx c st (fi.getD j 0))=255:=fun c st j hcn hst' hj=>by
  unfold ldB
  have h100:=(hns c hcn).2
  rcases hnx c st (fi.getD j 0) hcn hst' (hcls.fi1 j hj).1 with e | e
  ·rw[if_pos e];exact .inr rfl
  ·rw[if_neg (by omega)]
   left
   rw[Nat.mod_eq_of_lt (by omega)];omega
 have hiM:iM s=n:=by unfold iM;rw[hiR];exact bM
 have hiK:iK s=k:=by unfold iK;rw[hiR,bK];omega
 have hat:∀c,c≤n→iAt s c=262+R+offC ns k c∧(c<n→stOk s R k (iAt s c)=true):=by
  intro c
  induction c with
  | zero=>
   intro _
   have e0:iAt s 0=262+R+offC ns k 0:=by show 262+iR s=262+R+0;omega
   refine⟨e0,fun hc0=> ?_⟩
   rw[e0]
   have hoff:=offC_mono (ns:=ns) (k:=k) (show 0+1≤n from hc0)
   rw[offC]at hoff
   rw[stOk_iff,bN 0 hc0,hsize]
   have:=hns 0 hc0
   refine⟨by omega,by omega,by omega,by omega,fun st hst'=> ?_⟩
   rw[rowOk_iff]
   refine⟨by rw[bMk 0 st hc0 hst'];exact htk 0 st hc0 hst',fun j hj=> ?_⟩
   rw[bLd 0 st j hc0 hst' hj]
   exact hldv 0 st j hc0 hst' hj
  | succ d ih=>
   intro hd
   obtain⟨h1,h2⟩:=ih (by omega)
   have h2:=h2 (by omega)
   have e1:iAt s (d+1)=262+R+offC ns k (d+1):=by
    show stNext s (iR s) (iK s) (iAt s d)=_
    rw[hiR,hiK,(st_yes h2).2,h1,bN d (by omega),offC]
    omega
   refine⟨e1,fun hc0=> ?_⟩
   rw[e1]
   have hoff:=offC_mono (ns:=ns) (k:=k) (show d+1+1≤n from hc0)
   rw[offC]at hoff
   rw[stOk_iff,bN (d+1) hc0,hsize]
   have:=hns (d+1) hc0
   refine⟨by omega,by omega,by omega,by omega,fun st hst'=> ?_⟩
   rw[rowOk_iff]
   refine⟨by rw[bMk (d+1) st hc0 hst'];exact htk (d+1) st hc0 hst',fun j hj=> ?_⟩
   rw[bLd (d+1) st j hc0 hst' hj]
   exact hldv (d+1) st j hc0 hst' hj
 have hrw:∀c st,c<n→rwAt s c st=262+R+offC ns k c+1+st*(1+k):=fun c st hcn=>by
  unfold rwAt;rw[(hat c (by omega)).1,hiK]
 refine⟨?_,hiR,hiM,hiK,bbe,fun b hb=>by unfold clsN;rw[hiR];exact bC b hb,fun c hcn=>by unfold nSt;rw[(hat c (by omega)).1];exact bN c hcn,fun c st hcn hst'=>by unfold markN;rw[hrw c st hcn];exact bMk c st hcn hst',fun c st j hcn hst' hj=> ?_,hsize⟩
 ·rw[imgOk_iff,headA_iff]
  unfold headB headC headD
  rw[hiR,hiM,hiK]
  refine⟨⟨by omega,⟨b0.1,b0.2.1,b0.2.2.1⟩,hR1,hR8⟩, ?_, ?_, ?_,fun c hcn=>(hat c (by omega)).2 hcn,by rw[(hat n (Nat.le_refl _)).1,hsize]⟩
  ·rw[Bool.and_eq_true,decide_eq_true_eq]
   refine⟨belowB_yes (by omega) (fun j hj=> ?_),by omega⟩
   have:j=0:=by omega
   subst this
   rw[Nat.add_zero,bM];omega
  ·rw[Bool.and_eq_true]
   refine⟨belowB_yes (by omega) (fun j hj=> ?_),belowB_yes (by omega) (fun j hj=> ?_)⟩
   ·rw[bbe j hj];have:=hbe j hj;omega
   ·have:=bt_lt s (5+R+j);omega
  ·refine belowB_yes (by omega) (fun j hj=> ?_)
   rw[bC j hj]
   have:=hcls.lt (ofs j) (hof j hj)
   omega
 ·rw[hrw c st hcn,show 262+R+offC ns k c+1+st*(1+k)+1+j=262+R+offC ns k c+1+st*(1+k)+(j+1) by omega]
  exact bLd c st j hcn hst' hj
end Go.Stn

namespace Go.Stn
open Go.Proofs.Ytgjgjgihceijnaa (netN netF netL fileSt compP)
theorem cntC_ge (f:Nat→Bool):∀k c,c≤cntC f k c∧cntC f k c≤max c k∧∀j,j<k→f j=true→j+1≤cntC f k c
 | 0,c=>⟨Nat.le_refl _,by rw[cntC];omega,fun j hj=>by omega⟩
 | k+1,c=>by
  obtain⟨h1,h2,h3⟩:=cntC_ge f k c
  rw[cntC]
  split
  ·rename_i h
   exact⟨by omega,by omega,fun j hj _=>by omega⟩
  ·rename_i h
   refine⟨h1,by omega,fun j hj hf=> ?_⟩
   by_cases e:j=k
   ·subst e
    apply Classical.byContradiction
    intro hc
    exact h ⟨hf,by omega⟩
   ·exact h3 j (by omega) hf
theorem cntR_ge (x:(Nat→Bool)×Int×Int)(c:Nat):c≤cntR x c∧(x.2.1≤5→cntR x c≤max c 4)∧x.2.1≤1+(cntR x c:Int)∧∀j,j<4→x.1 j=true→j+1≤cntR x c:=by
 obtain⟨h1,h2,h3⟩:=cntC_ge x.1 4 c
 unfold cntR
 split
 ·exact⟨by omega,fun h=>by omega,by omega,fun j hj hf=>by have:=h3 j hj hf;omega⟩
 ·exact⟨h1,fun _=>h2,by omega,h3⟩
theorem fileConds_ge:∀(l:List ((Nat→Bool)×Int×Int)) (c:Nat),c≤fileConds l c∧((∀x∈l,x.2.1≤5)→fileConds l c≤max c 4)∧∀x∈l,x.2.1≤1+(fileConds l c:Int)∧∀j,j<4→x.1 j=true→j+1≤fileConds l c
 | [],c=>⟨Nat.le_refl _,fun _=>by rw[fileConds];omega,fun x hx=>absurd hx List.not_mem_nil⟩
 | x::l,c=>by
  obtain⟨h1,h2,h3,h4⟩:=cntR_ge x c
  obtain⟨k1,k2,k3⟩:=fileConds_ge l (cntR x c)
  rw[fileConds]
  refine⟨by omega,fun h=> ?_,fun y hy=> ?_⟩
  ·have:=h2 (h x List.mem_cons_self)
   have:=k2 (fun y hy=>h y (List.mem_cons_of_mem _ hy))
   omega
  ·rcases List.mem_cons.1 hy with e | e
   ·rw[e]
    exact⟨by omega,fun j hj hf=>by have:=h4 j hj hf;omega⟩
   ·exact k3 y e
theorem allL_spec (cs:Nat→Option (List (Nat×List Int))):∀(d c:Nat) (acc:List (List (Nat×List Int))),(∀ls,allL cs d c acc=some ls→∃L,ls=acc++L∧L.length=d∧∀i,i<d→cs (c+i)=some (L.getD i []))∧(allL cs d c acc=none→∃i,i<d∧cs (c+i)=none)
 | 0,c,acc=>⟨fun ls h=>by rw[allL]at h;injection h with h;exact⟨[],by rw[h,List.append_nil],rfl,fun i hi=>by omega⟩,fun h=>by rw[allL]at h;cases h⟩
 | d+1,c,acc=>by
  cases e:cs c with
  | none=>
   refine⟨fun ls h=> ?_,fun _=>⟨0,by omega,by rw[Nat.add_zero];exact e⟩⟩
   rw[allL,e]at h;cases h
  | some x=>
   obtain⟨h1,h2⟩:=allL_spec cs d (c+1) (acc++ [x])
   refine⟨fun ls h=> ?_,fun h=> ?_⟩
   ·rw[allL,e]at h
    obtain⟨L,a1,a2,a3⟩:=h1 ls h
    refine⟨x::L,by rw[a1,List.append_assoc];rfl,by simp[a2],fun i hi=> ?_⟩
    cases i with
    | zero=>rw[Nat.add_zero];exact e
    | succ j=>
     have:=a3 j (by omega)
     rw[show c+(j+1)=c+1+j by omega,this]
     rfl
   ·rw[allL,e]at h
    obtain⟨i,a1,a2⟩:=h2 h
    exact⟨i+1,by omega,by rw[show c+(i+1)=c+1+i by omega];exact a2⟩
def nConds (l:List RuleX):Nat:=fileConds (putRules st0 l).rules 1
theorem nConds_ok (l:List RuleX)(hl:∀x∈l,RuleOk x)(hn:sumNp l≤10):1≤nConds l∧nConds l≤4∧(∀x∈l,x.2.1≤1+(nConds l:Int))∧∀x∈l,∀c,x.1 c=true→c<nConds l:=by
 obtain⟨h1,h2,h3⟩:=fileConds_ge (putRules st0 l).rules 1
 have hok:=putRules_ok l st0 st0_ok hl (by show 0+sumNp l≤10;omega)
 have hru:=(net_ok l hn).2
 have hmem:∀x∈l,∃y∈(putRules st0 l).rules,(y.1,y.2.1)=(x.1,x.2.1):=fun x hx=>by
  have:(x.1,x.2.1)∈l.map (fun x=>(x.1,x.2.1)):=List.mem_map.2 ⟨x,hx,rfl⟩
  rw[←hru,List.mem_map]at this
  exact this
 refine⟨h1, ?_,fun x hx=> ?_,fun x hx c hc=> ?_⟩
 ·have:=h2 (fun x hx=>(hok.be x hx).2)
  unfold nConds;omega
 ·obtain⟨y,hy,e⟩:=hmem x hx
  injection e with e1 e2
  have:=(h3 y hy).1
  rw[e2]at this
  exact this
 ·obtain⟨y,hy,e⟩:=hmem x hx
  injection e with e1 e2
  have h4:c<4:=by
   apply Classical.byContradiction
   intro hcon
   have:=(hl x hx).c4 c (by omega)
   rw[this]at hc;cases hc
  have:=(h3 y hy).2 c h4 (by rw[e1];exact hc)
  unfold nConds;omega
structure Tabs (l:List RuleX)(ls:List (List (Nat×List Int))):Prop where
 len:ls.length=nConds l
 tab:∀c,c<nConds l→TabOk l c (ls.getD c [])
theorem comp_tabs {t:ByteArray}(h:parseC t=0){l:List RuleX}(hl:fileX t=some l):
  (∀ls,allL (fileSt (parsedP t).nodes (parsedP t).rules (grpP (parsedP t).places).2) (fileConds (parsedP t).rules 1) 0 []=some ls→Tabs l ls)∧
  (allL (fileSt (parsedP t).nodes (parsedP t).rules (grpP (parsedP t).places).2) (fileConds (parsedP t).rules 1) 0 []=none→∃c,c<nConds l∧TooMany l c):=by
 obtain⟨hs,l',hl',hn,e1,e2,e3⟩:=parse_ok h
 rw[hl]at hl'
 injection hl' with hl'
 subst hl'
 have hok:=(fileX_ok hl).1
 have hm:=nConds_ok l hok hn
 have ep:(putRules st0 l).places=fnsOf l:=by rw[putRules_fns];rfl
 rw[e1,e2,e3,ep]
 obtain⟨a1,a2⟩:=allL_spec (fileSt (putRules st0 l).nodes (putRules st0 l).rules (grpP (fnsOf l)).2) (fileConds (putRules st0 l).rules 1) 0 []
 refine⟨fun ls hls=> ?_,fun hls=> ?_⟩
 ·obtain⟨L,b1,b2,b3⟩:=a1 ls hls
  rw[List.nil_append]at b1
  subst b1
  refine⟨b2,fun c hc=> ?_⟩
  have:=b3 c hc
  rw[Nat.zero_add]at this
  exact(fileSt_ok l hok hn c (by omega)).1 _ this
 ·obtain⟨c,b1,b2⟩:=a2 hls
  rw[Nat.zero_add]at b2
  exact⟨c,b1,(fileSt_ok l hok hn c (by show c<4;have:c<nConds l:=b1;omega)).2 b2⟩
theorem grpG_le (l:List RuleX):0<(grpG l).length∧(grpG l).length≤256:=by
 obtain⟨g0,g1,_⟩:=grpP_facts (fnsOf l)
 exact⟨g0,g1⟩
theorem conds_ok {l:List RuleX}{ls:List (List (Nat×List Int))}(h:Tabs l ls)(hl:l.length≤8)(hm:nConds l≤4):CondsOk (grpG l).length ls:=by
 have hmem:∀x∈ls,∃c,c<nConds l∧x=ls.getD c []:=fun x hx=>by
  obtain⟨c,hc,e⟩:=List.getElem_of_mem hx
  exact⟨c,by rw[←h.len];exact hc,by rw[List.getD_eq_getElem?_getD,List.getElem?_eq_getElem hc,←e];rfl⟩
 refine⟨by rw[h.len];omega,fun x hx=> ?_,fun x hx z hz=> ?_,fun x hx z hz=> ?_,fun x hx z hz y hy=> ?_⟩
 ·obtain⟨c,hc,rfl⟩:=hmem x hx
  have:=(h.tab c hc).few;omega
 ·obtain⟨c,hc,rfl⟩:=hmem x hx
  have:=(h.tab c hc).rul z hz;omega
 ·obtain⟨c,hc,rfl⟩:=hmem x hx
  exact(h.tab c hc).len z hz
 ·obtain⟨c,hc,rfl⟩:=hmem x hx
  have ht:=h.tab c hc
  obtain⟨s,hs,e⟩:=List.getElem_of_mem hz
  obtain⟨g,hg,e2⟩:=List.getElem_of_mem hy
  have hgl:g<(grpG l).length:=by rw[←ht.len z hz];exact hg
  have:=ht.cn.au.rng s g hs hgl
  have e3:((ls.getD c []).getD s (0,[])).2.getD g 0=y:=by
   rw[show(ls.getD c []).getD s (0,[])=z by rw[List.getD_eq_getElem?_getD,List.getElem?_eq_getElem hs,←e];rfl]
   rw[List.getD_eq_getElem?_getD,List.getElem?_eq_getElem hg,←e2];rfl
  simp only[e3]at this
  have:=ht.few
  omega
theorem comp_cases (t:ByteArray):(parseC t≠0∧compP t=([],parseC t))∨(parseC t=0∧∃l,fileX t=some l∧sumNp l≤10∧
  ((compP t=([],4)∧∃c,c<nConds l∧TooMany l c)∨
   ∃ls,Tabs l ls∧compP t=(wrL (putRules st0 l).rules (nConds l) (grpG l).length (ofB l) (nsF ls) (tkF ls) (nxF ls),0))):=by
 by_cases h:parseC t=0
 ·right
  obtain⟨hs,l,hl,hn,e1,e2,e3⟩:=parse_ok h
  have ep:(putRules st0 l).places=fnsOf l:=by rw[putRules_fns];rfl
  refine⟨h,l,hl,hn, ?_⟩
  obtain⟨a1,a2⟩:=comp_tabs h hl
  have hc:∀X,allL (fileSt (parsedP t).nodes (parsedP t).rules (grpP (parsedP t).places).2) (fileConds (parsedP t).rules 1) 0 []=X→compP t=match X with
    | none=>([],4)
    | some ls=>(wrL (parsedP t).rules ls.length (grpP (parsedP t).places).2.length (fun b=>(grpP (parsedP t).places).1.getD b 0) (nsF ls) (tkF ls) (nxF ls),0):=fun X hX=>by
   unfold Go.Proofs.Ytgjgjgihceijnaa.compP
   rw[if_pos h,hX]
   cases X<;> rfl
  cases e:allL (fileSt (parsedP t).nodes (parsedP t).rules (grpP (parsedP t).places).2) (fileConds (parsedP t).rules 1) 0 []with
  | none=>exact .inl ⟨hc _ e,a2 e⟩
  | some ls=>
   have ht:=a1 ls e
   refine .inr ⟨ls,ht, ?_⟩
   rw[hc _ e]
   simp only
   rw[ht.len,e1,e3,ep]
   rfl
 ·left
  refine⟨h, ?_⟩
  unfold Go.Proofs.Ytgjgjgihceijnaa.compP
  rw[if_neg h]
structure ImgFile (l:List RuleX)(s:ByteArray):Prop where
 ok:imgOk s=true
 sz:s.size≤120000
 fr:iR s=l.length
 fm:iM s=nConds l
 fb:∀(i:Nat) (x:RuleX),l[i]? =some x→(thenB s i:Int)=x.2.1
 cn:∀c,c<nConds l→Canon (nSt s c) 256 (markN s c) (fun p b=>leadI (leadN s c p b))
 z:∀c,c<nConds l→markN s c 0=0
 tok:∀c,c<nConds l→∀b u,lets 256 (b::u)→isTok l c (b::u) (obsA (markN s c) (fun p b=>leadI (leadN s c p b)) 0 (b::u))
 apr:∀c,c<nConds l→∃r,r≤nSt s c∧∀p q,p<nSt s c→q<nSt s c→p≠q→¬Eqv (markN s c) (fun p j=>leadI (bt s (rwAt s c p+1+j))) (iK s) r p q
 cl:∃fb:Nat→Nat,(∀j,j<iK s→fb j<256∧clsN s (fb j)=j)∧(∀b,b<256→fb (clsN s b)≤b)∧(∀j j',j<j'→j'<iK s→fb j<fb j')
 ca:∀j j',j<iK s→j'<iK s→j≠j'→∃c p,c<nConds l∧p<nSt s c∧bt s (rwAt s c p+1+j)≠bt s (rwAt s c p+1+j')
theorem leadI_ldB {x:Int}{n:Nat}(hn:n≤100)(h:x= -1∨(0≤x∧x<(n:Int))):leadI (ldB x)=x:=by
 unfold leadI ldB
 rcases h with h | h
 ·rw[if_pos h,if_pos rfl,h]
 ·have h1:¬x= -1:=by omega
  have h2:x.toNat<256:=by omega
  have h3:¬x.toNat=255:=by omega
  rw[if_neg h1,Nat.mod_eq_of_lt h2,if_neg h3];omega
theorem Eqv.letters {n K k:Nat}{tk:Nat→Nat}{nx nx':Nat→Nat→Int}(ha:Auto n K nx)(h:∀g,g<K→∃j,j<k∧∀p,p<n→nx p g=nx' p j):∀(r s t:Nat),s<n→t<n→Eqv tk nx' k r s t→Eqv tk nx K r s t
 | 0,_,_,_,_,_=>trivial
 | r+1,s,t,hs,ht,hE=>by
  refine⟨Eqv.letters ha h r s t hs ht hE.1,hE.2.1,fun g hg=> ?_⟩
  obtain⟨j,hj,e⟩:=h g hg
  obtain⟨h1,h2⟩:=hE.2.2 j hj
  rw[←e s hs,←e t ht]at h1 h2
  refine⟨h1,fun hne=> ?_⟩
  have r1:=ha.rng s g hs hg
  have r2:=ha.rng t g ht hg
  have:nx t g≠ -1:=fun e2=>hne (h1.2 e2)
  exact Eqv.letters ha h r _ _ (by omega) (by omega) (h2 hne)
theorem img_file {l:List RuleX}{ls:List (List (Nat×List Int))}(hok:∀x∈l,RuleOk x)(h1:0<l.length)(h8:l.length≤8)(hn:sumNp l≤10)(h:Tabs l ls):
  ImgFile l ⟨(wrL (putRules st0 l).rules (nConds l) (grpG l).length (ofB l) (nsF ls) (tkF ls) (nxF ls)).toArray⟩:=by
 obtain⟨m1,m4,mb,_⟩:=nConds_ok l hok hn
 have hrl:(putRules st0 l).rules.length=l.length:=by rw[putRules_len];show 0+l.length=l.length;omega
 have hru:=(net_ok l hn).2
 have hgrp:=grp_ok (fnsOf l)
 obtain⟨lo,lo1,lo2,lo3⟩:=hgrp.lo
 have hK:=grpG_le l
 have hbeh:∀(i:Nat) (x:RuleX),l[i]? =some x→(behF (putRules st0 l).rules i:Int)=x.2.1:=fun i x hx=>by
  have hi:i<(putRules st0 l).rules.length:=by rw[hrl];exact(List.getElem?_eq_some_iff.1 hx).1
  have e:=congrArg (fun m=>m[i]?) hru
  simp only[List.getElem?_map,hx,List.getElem?_eq_getElem hi,Option.map_some]at e
  injection e with e
  injection e with _ e2
  unfold behF
  rw[List.getD_eq_getElem?_getD,List.getElem?_map,List.getElem?_eq_getElem hi]
  simp only[Option.map_some,Option.getD_some]
  rw[e2]
  have:=(hok x (List.mem_of_getElem? hx)).b0
  omega
 have hnx:∀c st g,c<nConds l→st<nsF ls c→g<(grpG l).length→nxF ls c st g= -1∨(0≤nxF ls c st g∧nxF ls c st g<(nsF ls c:Int)):=fun c st g hc hst hg=>(h.tab c hc).cn.au.rng st g hst hg
 have hns:∀c,c<nConds l→1≤nsF ls c∧nsF ls c≤100:=fun c hc=>⟨(h.tab c hc).cn.au.pos,(h.tab c hc).few⟩
 have hw:=written_ok (putRules st0 l).rules (nConds l) (grpG l).length (ofB l) (nsF ls) (tkF ls) (nxF ls) (by omega) (by omega) m1 m4 hK.1 hK.2 (fun i hi=>by
   have hi2:i<l.length:=by omega
   have e:=hbeh i l[i] (List.getElem?_eq_getElem hi2)
   have:=mb l[i] (List.getElem_mem hi2)
   omega) hgrp.lt hns (fun c st hc hst=>by
   rw[hrl]
   refine(h.tab c hc).rul _ ?_
   have hst:st<(ls.getD c []).length:=hst
   show(ls.getD c []).getD st (0,[])∈ls.getD c []
   generalize ls.getD c []=tab at*
   rw[List.getD_eq_getElem?_getD,List.getElem?_eq_getElem hst]
   exact List.getElem_mem hst) hnx
 have hcls:=sam_cls (grpG l).length (nsF ls) (nxF ls) (nConds l)
 generalize (⟨(wrL (putRules st0 l).rules (nConds l) (grpG l).length (ofB l) (nsF ls) (tkF ls) (nxF ls)).toArray⟩:ByteArray)=s at*
 generalize hk:(clsP (grpG l).length (samB (nsF ls) (nxF ls) (nConds l))).2.length=k at*
 generalize (clsP (grpG l).length (samB (nsF ls) (nxF ls) (nConds l))).2=fi at*
 generalize (clsP (grpG l).length (samB (nsF ls) (nxF ls) (nConds l))).1=cs at*
 have hsame:∀c st g,c<nConds l→st<nsF ls c→g<(grpG l).length→nxF ls c st (fi.getD (cs.getD g 0) 0)=nxF ls c st g:=fun c st g hc hst hg=>by
  have hj:=hcls.lt g hg
  obtain⟨f1,f2⟩:=hcls.fi1 _ hj
  have:=(hcls.eq _ g f1 hg).1 f2
  exact samB_iff.1 this c hc st hst
 have hofl:∀b,b<256→ofB l b<(grpG l).length:=fun b hb=>hgrp.lt b hb
 have hlead:∀c st b,c<nConds l→st<nsF ls c→b<256→leadI (leadN s c st b)=nxF ls c st (ofB l b):=fun c st b hc hst hb=>by
  unfold leadN
  rw[hw.fc b hb,hw.fl c st _ hc hst (hcls.lt _ (hofl b hb)),hsame c st _ hc hst (hofl b hb)]
  exact leadI_ldB (hns c hc).2 (hnx c st _ hc hst (hofl b hb))
 have hcb:∀c,c<nConds l→Canon (nsF ls c) 256 (tkF ls c) (fun p b=>nxF ls c p (ofB l b)):=fun c hc=>(h.tab c hc).cn.bytes hofl lo1 lo2 lo3
 have hauto:∀c,c<nConds l→∀b u,lets 256 (b::u)→obsA (markN s c) (fun p b=>leadI (leadN s c p b)) 0 (b::u)=obsA (tkF ls c) (nxF ls c) 0 ((b::u).map (ofB l)):=fun c hc b u hw2=>by
  rw[←obsA_map]
  exact(obsA_congr (hcb c hc).au (fun p hp=>(hw.ft c p hc hp).symm) (fun p b hp hb=>(hlead c p b hc hp hb).symm) (b::u) 0 (hns c hc).1 hw2).symm
 refine⟨hw.ok, ?_,by rw[hw.fr,hrl],hw.fm,fun i x hx=> ?_,fun c hc=> ?_,fun c hc=> ?_,fun c hc b u hl2=> ?_,fun c hc=> ?_, ?_,fun j j' hj hj' hne=> ?_⟩
 ·rw[hw.fz,hrl]
  have:∀d,d≤nConds l→offC (nsF ls) k d≤d*25801:=by
   intro d
   induction d with
   | zero=>intro _;exact Nat.zero_le _
   | succ e ih=>
    intro he
    have h1:=ih (by omega)
    have h2:=Nat.mul_le_mul (hns e (by omega)).2 (show 1+k≤257 by have:=hcls.le;omega)
    rw[offC,Nat.succ_mul]
    omega
  have h2:=this (nConds l) (Nat.le_refl _)
  have h3:=Nat.mul_le_mul_right 25801 m4
  omega
 ·rw[hw.fb i (by rw[hrl];exact(List.getElem?_eq_some_iff.1 hx).1)]
  exact hbeh i x hx
 ·rw[hw.fn c hc]
  exact(hcb c hc).congr (fun p hp=>(hw.ft c p hc hp).symm) (fun p b hp hb=>(hlead c p b hc hp hb).symm)
 ·rw[hw.ft c 0 hc (hns c hc).1];exact(h.tab c hc).z
 ·rw[hauto c hc b u hl2]
  exact(h.tab c hc).tok b u hl2
 ·obtain⟨r,hr,hap⟩:=(h.tab c hc).apr
  rw[hw.fn c hc]
  refine⟨r,hr,fun p q hp hq hne hE=>hap p q hp hq hne ?_⟩
  have hcan:=(h.tab c hc).cn
  refine Eqv.letters (nx':=fun p j=>nxF ls c p (fi.getD j 0)) (k:=k) hcan.au (fun g hg=>⟨cs.getD g 0,hcls.lt g hg,fun p hp=>(hsame c p g hc hp hg).symm⟩) r p q hp hq ?_
  rw[hw.fk]at hE
  have hcl:Auto (nsF ls c) k (fun p j=>leadI (bt s (rwAt s c p+1+j))):=⟨(hns c hc).1,fun p j hp hj=>by
   rw[hw.fl c p j hc hp hj,leadI_ldB (hns c hc).2 (hnx c p _ hc hp (hcls.fi1 j hj).1)]
   exact hnx c p _ hc hp (hcls.fi1 j hj).1⟩
  exact Eqv.congr hcl (fun p hp=>hw.ft c p hc hp) (fun p j hp hj=>by rw[hw.fl c p j hc hp hj,leadI_ldB (hns c hc).2 (hnx c p _ hc hp (hcls.fi1 j hj).1)]) r p q hp hq hE
 ·refine⟨fun j=>lo (fi.getD j 0),fun j hj=> ?_,fun b hb=> ?_,fun j j' hj hj'=> ?_⟩
  ·rw[hw.fk]at hj
   obtain⟨f1,f2⟩:=hcls.fi1 j hj
   obtain⟨g1,g2⟩:=lo1 _ f1
   refine⟨g1, ?_⟩
   rw[hw.fc _ g1]
   show cs.getD (ofB l (lo (fi.getD j 0))) 0=j
   rw[show ofB l (lo (fi.getD j 0))=fi.getD j 0 from g2]
   exact f2
  ·rw[hw.fc b hb]
   have h1:=hcls.fi2 (ofB l b) (hofl b hb)
   have h2:=lo3 b hb
   have h3:lo (fi.getD (cs.getD (ofB l b) 0) 0)≤lo (ofB l b):=by
    by_cases e:fi.getD (cs.getD (ofB l b) 0) 0=ofB l b
    ·rw[e];exact Nat.le_refl _
    ·exact Nat.le_of_lt (lo2 _ _ (by omega) (hofl b hb))
   exact Nat.le_trans h3 h2
  ·rw[hw.fk]at hj'
   exact lo2 _ _ (hcls.fi3 j j' hj hj') (hcls.fi1 j' hj').1
 ·rw[hw.fk]at hj hj'
  obtain⟨f1,f2⟩:=hcls.fi1 j hj
  obtain⟨f3,f4⟩:=hcls.fi1 j' hj'
  have hno:¬samB (nsF ls) (nxF ls) (nConds l) (fi.getD j 0) (fi.getD j' 0)=true:=fun e=>by
   have:=(hcls.eq _ _ f1 f3).2 e
   exact hne (f2.symm.trans (this.trans f4))
  apply Classical.byContradiction
  intro hcon
  refine hno (samB_iff.2 (fun c hc p hp=> ?_))
  apply Classical.byContradiction
  intro hne2
  refine hcon ⟨c,p,hc,by rw[hw.fn c hc];exact hp,fun e=>hne2 ?_⟩
  rw[hw.fl c p j hc hp hj,hw.fl c p j' hc hp hj']at e
  have e:=congrArg leadI e
  rw[leadI_ldB (hns c hc).2 (hnx c p _ hc hp f1),leadI_ldB (hns c hc).2 (hnx c p _ hc hp f3)]at e
  exact e
end Go.Stn
namespace Go.Proofs.Ytgjgjgihceijnaa
open Go.RowKit Go.Stn
theorem comp_any (t:ByteArray)(w:World):Calls Try.prog 17 #[.string t] w fun e w'=>e= .returned (.tuple #[.string ⟨(compP t).1.toArray⟩,.int .i64 (compP t).2])∧Below w.heap.size w w':=by
 refine pcomp_any t w (fun h=>file_ok h) (fun h ls hls=> ?_)
 obtain⟨hs,l,hl,hn,e1,e2,e3⟩:=parse_ok h
 have ep:(putRules st0 l).places=fnsOf l:=by rw[putRules_fns];rfl
 have hok:=fileX_ok hl
 have:=conds_ok ((comp_tabs h hl).1 ls hls) hok.2.2 (nConds_ok l hok.1 hn).2.1
 rw[e3,ep]
 exact this
end Go.Proofs.Ytgjgjgihceijnaa

namespace Go.Stn
section
variable {n:Nat} {mk:Nat→Nat} {ld:Nat→Nat→Nat}
def tellB (mk:Nat→Nat)(tc:Nat→Nat→Nat)(K:Nat)(d:Nat→Nat→Bool)(i j:Nat):Bool:=
 decide (mk i≠mk j∨∃k,k<K∧((¬(tc i k=255↔tc j k=255))∨(tc i k≠255∧d (tc i k) (tc j k)=true)))
end
end Go.Stn

namespace Go.Stn
open Go.RowKit
theorem set_keep (w:World)(b i:Nat)(v:Value){k:Nat}(h:k≠b):(w.setCell ⟨b,i,none⟩ v).heap[k]? =w.heap[k]? :=Below.heap_setCell w ⟨b,i,none⟩ v k (by intro e;exact h e)
end Go.Stn

