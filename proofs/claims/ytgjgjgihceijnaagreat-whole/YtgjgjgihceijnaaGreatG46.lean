import Derived.Test.YtgjgjgihceijnaaGreatG45
import Derived.BigRegion
import Derived.Test.YtgjgjgihceijnaaGreatG29
open Nat renaming le_refl->aL,lt_of_lt_of_le->bM
open Go.World renaming cell?_of_block->aO,cell?_setCell_other->aT,cell?_setCell_same->a9,frozen?_of_block->bK,setCell->bN
open Go.RowKit.Below renaming refl->aR
open List renaming getElem?_eq_getElem->bC
set_option maxRecDepth 100000
set_option maxHeartbeats 8000000
namespace Go.Proofs.YtgjgjgihceijnaaGreat
open Go.RowKit Go.Stn
def Uz (al:Nat->Bool)(d:Nat->Nat->Bool)(To:Nat->Nat->Int)(lw:List Nat)(i j:Nat)(r:Bool):Prop:=
 (r=true/\∃b,b<256/\iV al d To i j b=true)\/(r=false/\∀b,b<256->lw[b]? =some b->iV al d To i j b=false)
theorem Fn {gb n gO qO gT qT ab dg db0:Nat}{rw db:Nat->Nat}{of:Nat->Int}{To:Nat->Nat->Int}{al:Nat->Bool}{d:Nat->Nat->Bool}{w:World}(h:GV gb w n gO qO gT qT rw of To)(hau:iX n 256 To)(hba:BA w ab n al)(hab:ab<w.heap.size)(hd:DAt w dg n db d){i j:Nat}(hi:i<n)(hj:j<n){gl ol vc:Nat}{lw:List Nat}(hlw:lw.length=256)(hgl:gl<w.heap.size)(hcl:∀(i m:Nat),lw[i]? =some m->w.cell? ⟨gl,ol+i,none⟩=some (.int .i64 (m:Int)))(hlo:∀(b k:Nat),lw[b]? =some k->k<=b):
  Calls Tryz.prog 78 #[.pointer (some ⟨gb,0,none⟩),.slice (some ⟨ab,0,none⟩) n n,.slice (some ⟨dg,0,none⟩) n db0,.int .i64 (i:Int),.int .i64 (j:Int),.slice (some ⟨gl,ol,none⟩) 256 vc] w fun e w'=>∃r,e= .returned (.bool r)/\Below w.heap.size w w'/\Uz al d To lw i j r:=by
 have HG:=aA h;have c2:=h.c2;have ti:=h.t i hi;have tj:=h.t j hj;have HAU:=aA hau;have HBA:=aA hba;have HD:=aA hd;have HCL:=aA hcl;have HLO:=aA hlo;have HLW:=aA hlw;have hiI:(0:Int)<=(i:Int)/\(i:Int)<(n:Int):=by omega
 have hjI:(0:Int)<=(j:Int)/\(j:Int)<(n:Int):=by omega
 clear h hau hba hd hcl hlo hlw;go_enter Tryz.func78,Tryz.ntmps78;go_wp2_with fail
 go_loopw [13] (fun z wr=>∃(b:Nat),b<=256/\z= .int .i64 (b:Int)/\Hid (∀b',b'<b->lw[b']? =some b'->iV al d To i j b'=false)/\wr=w) (fun z _=>256 - (intOf z).toNat)
 case atStart=>exact⟨0,by omega,rfl,aA (fun b' hb'=>by omega),rfl⟩
 case round=>
  obtain⟨b,hb,rfl,HA,rfl⟩:=hrel;by_cases hlt:b<256
  ·obtain⟨x,hx⟩:∃x,lw[b]? =some x:=⟨lw[b]'(by rw[HLW.out];exact hlt),bC _⟩
   have y0:=HCL.out b x hx;have hxb:=HLO.out b x hx;have hbI:(0:Int)<=(b:Int)/\(b:Int)<(256:Int):=by omega
   have hI:=HAU.out.rng i b hi hlt;have hJ:=HAU.out.rng j b hj hlt;have ri:=HG.out.r i b hi hlt;have rj:=HG.out.r j b hj hlt;by_cases hlow:x<b
   ·have HA2:Hid (∀b',b'<b+1->lw[b']? =some b'->iV al d To i j b'=false):=fun b' hb' h2=>by
     by_cases e:b'=b
     ·subst e;rw[hx]at h2;injection h2 with h2;omega
     ·exact HA.out b' (by omega) h2
    clear hx;go_wp2;go_roundw
    case rel=>exact⟨b+1,by omega,by go_num,HA2,trivial⟩
    case measure=>simp[intOf];omega
   ·have HNX:Hid (iV al d To i j b=false->∀b',b'<b+1->lw[b']? =some b'->iV al d To i j b'=false):=fun h1 b' hb' h2=>by
     by_cases e:b'=b
     ·subst e;exact h1
     ·exact HA.out b' (by omega) h2
    obtain⟨TB,eTB⟩:∃x,iV al d To i j b=x:=⟨_,rfl⟩
    have eT2:=eTB;unfold iV fU at eT2;obtain⟨si,esi⟩:∃x,To i b=x:=⟨_,rfl⟩
    obtain⟨sj,esj⟩:∃x,To j b=x:=⟨_,rfl⟩
    rw[esi]at hI ri eT2;rw[esj]at hJ rj eT2;have HTB:=aA eTB;have HT2:=aA eT2;clear hx esi esj eTB eT2;rcases hI with e1 | e1
    ·subst e1;rcases hJ with e2 | e2
     ·subst e2;have HF:Hid (iV al d To i j b=false):=HTB.out.trans (HT2.out.symm.trans (by simp));have HN:=aA (HNX.out HF.out);clear HT2 HTB HNX HF;go_wp2;go_roundw
      case rel=>exact⟨b+1,by omega,by go_num,HN,trivial⟩
      case measure=>simp[intOf];omega
     ·obtain⟨tj2,etj⟩:∃t:Nat,sj=(t:Int):=⟨sj.toNat,by omega⟩
      subst etj;have htn:tj2<n:=by omega
      have htI:(0:Int)<=(tj2:Int)/\(tj2:Int)<(n:Int):=by omega
      have yj:=HBA.out.c tj2 htn;have HV:Hid (iV al d To i j b=al tj2):=HTB.out.trans (HT2.out.symm.trans (by simp))
      cases hav:al tj2 with
      | true=>
       rw[hav]at yj HV;clear HT2 HTB HNX hav;go_wp2;go_ret;exact⟨true,rfl,aR _ _,.inl ⟨rfl,b,hlt,HV.out⟩⟩
      | false=>
       rw[hav]at yj HV;have HN:=aA (HNX.out HV.out);clear HT2 HTB HNX hav HV;go_wp2;go_roundw
       case rel=>exact⟨b+1,by omega,by go_num,HN,trivial⟩
       case measure=>simp[intOf];omega
    ·obtain⟨ti2,eti⟩:∃t:Nat,si=(t:Int):=⟨si.toNat,by omega⟩
     subst eti;have htn:ti2<n:=by omega
     have htI:(0:Int)<=(ti2:Int)/\(ti2:Int)<(n:Int):=by omega
     have yi:=HBA.out.c ti2 htn;rcases hJ with e2 | e2
     ·subst e2;have HV:Hid (iV al d To i j b=al ti2):=HTB.out.trans (HT2.out.symm.trans (by simp))
      cases hav:al ti2 with
      | true=>
       rw[hav]at yi HV;clear HT2 HTB HNX hav;go_wp2;go_ret;exact⟨true,rfl,aR _ _,.inl ⟨rfl,b,hlt,HV.out⟩⟩
      | false=>
       rw[hav]at yi HV;have HN:=aA (HNX.out HV.out);clear HT2 HTB HNX hav HV;go_wp2;go_roundw
       case rel=>exact⟨b+1,by omega,by go_num,HN,trivial⟩
       case measure=>simp[intOf];omega
     ·obtain⟨tj2,etj⟩:∃t:Nat,sj=(t:Int):=⟨sj.toNat,by omega⟩
      subst etj;have htn2:tj2<n:=by omega
      have htI2:(0:Int)<=(tj2:Int)/\(tj2:Int)<(n:Int):=by omega
      have yj:=HBA.out.c tj2 htn2;have dr:=HD.out.r ti2 htn;have dc:=HD.out.c ti2 tj2 htn htn2;have HV:Hid (iV al d To i j b=((al ti2 !=al tj2) || (al ti2 && al tj2 && d ti2 tj2))):=HTB.out.trans (HT2.out.symm.trans (by simp));clear HT2 HTB
      cases ha1:al ti2<;> cases ha2:al tj2<;> rw[ha1]at yi HV<;> rw[ha2]at yj HV
      ·have HN:=aA (HNX.out (HV.out.trans rfl));clear HNX HV ha1 ha2 dr dc;go_wp2;go_roundw
       case rel=>exact⟨b+1,by omega,by go_num,HN,trivial⟩
       case measure=>simp[intOf];omega
      ·clear HNX ha1 ha2 dr dc;go_wp2;go_ret;exact⟨true,rfl,aR _ _,.inl ⟨rfl,b,hlt,HV.out.trans rfl⟩⟩
      ·clear HNX ha1 ha2 dr dc;go_wp2;go_ret;exact⟨true,rfl,aR _ _,.inl ⟨rfl,b,hlt,HV.out.trans rfl⟩⟩
      ·cases hdv:d ti2 tj2 with
       | true=>
        rw[hdv]at dc HV;clear HNX ha1 ha2 hdv;go_wp2;go_ret;exact⟨true,rfl,aR _ _,.inl ⟨rfl,b,hlt,HV.out.trans rfl⟩⟩
       | false=>
        rw[hdv]at dc HV;have HN:=aA (HNX.out (HV.out.trans rfl));clear HNX HV ha1 ha2 hdv;go_wp2;go_roundw
        case rel=>exact⟨b+1,by omega,by go_num,HN,trivial⟩
        case measure=>simp[intOf];omega
  ·have eb:b=256:=by omega
   have db:decide ((b:Int)<(256:Int))=false:=by simp;omega
   clear eb;go_wp2;go_ret;exact⟨false,rfl,aR _ _,.inr ⟨rfl,fun b' hb' h2=>HA.out b' (by omega) h2⟩⟩
end Go.Proofs.YtgjgjgihceijnaaGreat
namespace Go.Proofs.YtgjgjgihceijnaaGreat
open Go.RowKit Go.Stn
structure PD (W w:World)(dg m n:Nat)(db:Nat->Nat)(d:Nat->Nat->Bool):Prop where
 bl:Below W.heap.size W w
 lo0:W.heap.size<=dg/\dg<w.heap.size
 r:∀i,i<m->w.cell? ⟨dg,i,none⟩=some (.slice (some ⟨db i,0,none⟩) n n)
 a:∀i,i<n->∃v,w.cell? ⟨dg,i,none⟩=some v
 fz0:∀i,w.frozen? ⟨dg,i,none⟩=false
 c:∀i,i<m->BA w (db i) n (d i)
 lo:∀i,i<m->W.heap.size<=db i/\db i<w.heap.size
 ap:∀i,i<m->db i≠dg
 ij:∀i j,i<m->j<m->i≠j->db i≠db j
theorem PD.start {W w:World}{n:Nat}(hb:Below W.heap.size W w)(hz:W.heap.size<w.heap.size)(ha:∀i,i<n->∃v,w.cell? ⟨W.heap.size,i,none⟩=some v)(hf:∀i,w.frozen? ⟨W.heap.size,i,none⟩=false)(db:Nat->Nat)(d:Nat->Nat->Bool):PD W w W.heap.size 0 n db d:=
 ⟨hb,⟨aL _,hz⟩,fun i h=>by omega,ha,hf,fun i h=>by omega,fun i h=>by omega,fun i h=>by omega,fun i j h=>by omega⟩
theorem PD.row {W w w1:World}{dg m n:Nat}{db:Nat->Nat}{d:Nat->Nat->Bool}(h:PD W w dg m n db d)(hm:m<n)(hg:w.grownBy w1 none)(hba:BA w1 w.heap.size n (fun _=>false))(hz:w.heap.size<w1.heap.size):
  PD W (w1.setCell ⟨dg,m,none⟩ (.slice (some ⟨w.heap.size,0,none⟩) n n)) dg (m+1) n (fun i=>if i=m then w.heap.size else db i) (fun i=>if i=m then(fun _=>false)else d i):=by
 have hb1:Below w.heap.size w w1:=⟨hg.os,hg.tape,hg.output,hg.size,fun k hk=>hg.block k hk (by simp)⟩
 have hW:=h.bl.size;obtain⟨l1,l2⟩:=h.lo0;have hz2:(w1.setCell ⟨dg,m,none⟩ (.slice (some ⟨w.heap.size,0,none⟩) n n)).heap.size=w1.heap.size:=by simp[bN]
 have hk:∀k,k≠dg->(w1.setCell ⟨dg,m,none⟩ (.slice (some ⟨w.heap.size,0,none⟩) n n)).heap[k]? =w1.heap[k]? :=fun k hne=>cB w1 dg m _ hne
 obtain⟨v,hv⟩:=h.a m hm;have hv1:=(hb1.cell (p:=⟨dg,m,none⟩) l2).trans hv;refine⟨(dO h.bl hb1).setCell (p:=⟨dg,m,none⟩) l1 _,⟨l1,by omega⟩,fun i hi=> ?_,fun i hi=> ?_,fun i=>by rw[World.frozen?_setCell];exact(hb1.frozen (p:=⟨dg,i,none⟩) l2).trans (h.fz0 i),fun i hi=> ?_,fun i hi=> ?_,fun i hi=> ?_,fun i j hi hj hne=> ?_⟩
 ·by_cases e:i=m
  ·subst e;simp only[if_true];exact a9 _ _ _ hv1
  ·simp only[if_neg e];rw[aT (h:=by intro e';injection e';omega)];exact(hb1.cell (p:=⟨dg,i,none⟩) l2).trans (h.r i (by omega))
 ·by_cases e:i=m
  ·subst e;exact⟨_,a9 _ _ _ hv1⟩
  ·obtain⟨x,hx⟩:=h.a i hi;exact⟨x,by rw[aT (h:=by intro e';injection e';omega)];exact(hb1.cell (p:=⟨dg,i,none⟩) l2).trans hx⟩
 ·by_cases e:i=m
  ·subst e;simp only[if_true];exact hba.block (hk _ (by omega))
  ·simp only[if_neg e];have hl:=h.lo i (by omega);exact(h.c i (by omega)).block ((hk _ (h.ap i (by omega))).trans (hb1.block _ hl.2))
 ·by_cases e:i=m
  ·simp only[e,if_true];omega
  ·simp only[if_neg e];have:=h.lo i (by omega);omega
 ·by_cases e:i=m
  ·simp only[e,if_true];omega
  ·simp only[if_neg e];exact h.ap i (by omega)
 ·by_cases e:i=m<;> by_cases e2:j=m
  ·omega
  ·simp only[e,if_true,if_neg e2];have:=h.lo j (by omega);omega
  ·simp only[e2,if_true,if_neg e];have:=h.lo i (by omega);omega
  ·simp only[if_neg e,if_neg e2];exact h.ij i j (by omega) (by omega) hne
theorem PD.set {W w:World}{dg m n:Nat}{db:Nat->Nat}{d:Nat->Nat->Bool}(h:PD W w dg m n db d){i j:Nat}(hi:i<m)(hj:j<n)(v:Bool):PD W (w.setCell ⟨db i,j,none⟩ (.bool v)) dg m n db (fun p q=>if p=i/\q=j then v else d p q):=by
 have hz:(w.setCell ⟨db i,j,none⟩ (.bool v)).heap.size=w.heap.size:=by simp[bN]
 have hk:∀k,k≠db i->(w.setCell ⟨db i,j,none⟩ (.bool v)).heap[k]? =w.heap[k]? :=fun k hne=>cB w (db i) j _ hne
 have hd:=hk dg (Ne.symm (h.ap i hi));refine⟨h.bl.setCell (p:=⟨db i,j,none⟩) (h.lo i hi).1 _,⟨h.lo0.1,by have:=h.lo0.2;omega⟩,fun p hp=>(aO (w:=w) (a:=⟨dg,p,none⟩) hd).trans (h.r p hp),fun p hp=> ?_,fun p=>(bK (w:=w) (a:=⟨dg,p,none⟩) hd).trans (h.fz0 p),fun p hp=> ?_,fun p hp=>by have:=h.lo p hp;omega,h.ap,h.ij⟩
 ·obtain⟨x,hx⟩:=h.a p hp;exact⟨x,(aO (w:=w) (a:=⟨dg,p,none⟩) hd).trans hx⟩
 ·by_cases e:p=i
  ·subst e;have:=(h.c p hp).set hj v;refine⟨fun q hq=> ?_,this.f⟩;rw[this.c q hq];by_cases e2:q=j
   ·simp[e2]
   ·simp[e2]
  ·have e3:(fun q=>if p=i/\q=j then v else d p q)=d p:=by funext q;rw[if_neg (fun h=>e h.1)]
   rw[e3];exact(h.c p hp).block (hk _ (h.ij p i hp hi e))
theorem PD.done {W w:World}{dg n:Nat}{db:Nat->Nat}{d:Nat->Nat->Bool}(h:PD W w dg n n db d):DB W w dg n db d:=
 ⟨h.bl,⟨h.r,fun i j hi hj=>(h.c i hi).c j hj,h.lo0.2,fun i hi=>(h.lo i hi).2⟩,fun i j hi=>(h.c i hi).f j,fun i hi=>(h.lo i hi).1,h.ap,h.ij⟩
def qW (d:Nat->Nat->Bool):Nat->Nat
 | 0=>0
 | n+1=>qW d n+sM (d n) n
theorem M0 {d d':Nat->Nat->Bool}:∀n,(∀i j,i<n->j<i->d i j=d' i j)->qW d n=qW d' n
 | 0,_=>rfl
 | n+1,h=>by unfold qW;rw[M0 n (fun i j hi hj=>h i j (by omega) hj),mT n (fun p hp=>h n p (by omega) hp)]
theorem Ir (d:Nat->Nat->Bool):∀n,qW d n<=n*n
 | 0=>aL _
 | n+1=>by
  have h1:=Ir d n;have h2:=Ak (d n) n;unfold qW;rw[Nat.add_mul,Nat.mul_add];omega
def kZ (d:Nat->Nat->Bool)(i j:Nat):Nat->Nat->Bool:=fun p q=>if p=j/\q=i then true else if p=i/\q=j then true else d p q
theorem Dm {d:Nat->Nat->Bool}{i j:Nat}(hj:j<i)(hd:d i j=false):∀n,i<n->qW (kZ d i j) n+1=qW d n
 | 0,h=>by omega
 | n+1,h=>by
  unfold qW;by_cases e:i=n
  ·subst e;have h1:qW (kZ d i j) i=qW d i:=M0 i (fun p q hp hq=>by
    unfold kZ;rw[if_neg (fun e=>by omega),if_neg (fun e=>by omega)])
   have h2:sM (kZ d i j i) i=sM (fun q=>if q=j then true else d i q) i:=mT i (fun q hq=>by
    unfold kZ;by_cases e:q=j
    ·simp[e]
    ·rw[if_neg (fun e2=>by omega),if_neg (fun e2=>e e2.2),if_neg e])
   have h3:=K6 (al:=d i) i hj hd;rw[h1,h2];omega
  ·have h1:=Dm hj hd n (by omega);have h2:sM (kZ d i j n) n=sM (d n) n:=mT n (fun q hq=>by
    unfold kZ;rw[if_neg (fun e2=>by omega),if_neg (fun e2=>by omega)])
   rw[h2];omega
structure PI2 (n:Nat)(of:Nat->Int)(To:Nat->Nat->Int)(d:Nat->Nat->Bool):Prop where
 sd:∀i j,i<n->j<n->d i j=true->kT (mkF of) To i j
 mo:∀i j,i<n->j<n->d i j=false->of i=of j
 sy:∀i j,i<n->j<n->d i j=d j i
 di:∀i,i<n->d i i=false
theorem PI2.start {n:Nat}{of:Nat->Int}{To:Nat->Nat->Int}{d:Nat->Nat->Bool}(hof:∀i,i<n-> -1<=of i)(h:∀i j,i<n->j<n->d i j=(of i !=of j)):PI2 n of To d:=by
 refine⟨fun i j hi hj he=>⟨[],pN _,fun e=> ?_⟩,fun i j hi hj he=> ?_,fun i j hi hj=> ?_,fun i hi=> ?_⟩
 ·rw[h i j hi hj,bne_iff_ne]at he;have e:(of i+1).toNat=(of j+1).toNat:=e;have:=hof i hi;have:=hof j hj;exact he (by omega)
 ·rw[h i j hi hj]at he;simpa using he
 ·rw[h i j hi hj,h j i hj hi];simp only[bne,Bool.not_eq_eq_eq_not,Bool.not_not];rw[Bool.eq_iff_iff];simp only[beq_iff_eq];exact⟨fun e=>e.symm,fun e=>e.symm⟩
 ·rw[h i i hi hi];simp
theorem PI2.put {n:Nat}{of:Nat->Int}{To:Nat->Nat->Int}{d:Nat->Nat->Bool}(h:PI2 n of To d){i j:Nat}(hne:i≠j)(ha:kT (mkF of) To i j):PI2 n of To (kZ d i j):=by
 refine⟨fun p q hp hq he=> ?_,fun p q hp hq he=> ?_,fun p q hp hq=> ?_,fun p hp=> ?_⟩
 ·unfold kZ at he;split at he
  ·rename_i e;rw[e.1,e.2];exact ha.symm
  ·split at he
   ·rename_i e;rw[e.1,e.2];exact ha
   ·exact h.sd p q hp hq he
 ·unfold kZ at he;split at he
  ·cases he
  ·split at he
   ·cases he
   ·exact h.mo p q hp hq he
 ·unfold kZ;by_cases e1:p=j/\q=i
  ·rw[if_pos e1,if_neg (fun e=>by omega),if_pos ⟨e1.2,e1.1⟩]
  ·rw[if_neg e1];by_cases e2:p=i/\q=j
   ·rw[if_pos e2,if_pos ⟨e2.2,e2.1⟩]
   ·rw[if_neg e2,if_neg (fun e=>e2 ⟨e.2,e.1⟩),if_neg (fun e=>e1 ⟨e.2,e.1⟩)];exact h.sy p q hp hq
 ·unfold kZ;rw[if_neg (fun e=>by omega),if_neg (fun e=>by omega)];exact h.di p hp
theorem Md {n:Nat}{al:Nat->Bool}{d:Nat->Nat->Bool}{To:Nat->Nat->Int}(ha:iX n 256 To)(hs:∀i j,i<n->j<n->d i j=d j i){i j b:Nat}(hi:i<n)(hj:j<n)(hb:b<256):iV al d To i j b=iV al d To j i b:=by
 unfold iV
 cases e1:fU al (To i b)with
 | true=>
  cases e2:fU al (To j b)with
  | true=>
   obtain⟨k1,_⟩:=iN ha hi hb e1;obtain⟨m1,_⟩:=iN ha hj hb e2;rw[hs _ _ k1 m1]
  | false=>rfl
 | false=>cases e2:fU al (To j b)<;> rfl
theorem Il {n:Nat}{al:Nat->Bool}{d:Nat->Nat->Bool}{To:Nat->Nat->Int}(ha:iX n 256 To)(hd:∀i,i<n->d i i=false){i b:Nat}(hi:i<n)(hb:b<256):iV al d To i i b=false:=by
 unfold iV
 cases e1:fU al (To i b)with
 | true=>
  obtain⟨k1,_⟩:=iN ha hi hb e1;rw[hd _ k1];rfl
 | false=>rfl
def rZ (al:Nat->Bool)(d:Nat->Nat->Bool)(To:Nat->Nat->Int)(lw:List Nat)(s t:Nat):Prop:=∀i j,j<i->(i<s\/(i=s/\j<t))->d i j=false->∀b,b<256->lw[b]? =some b->iV al d To i j b=false
theorem PI2.partC {n:Nat}{of:Nat->Int}{To:Nat->Nat->Int}{al:Nat->Bool}{d:Nat->Nat->Bool}{lw:List Nat}(h:PI2 n of To d)(ha:iX n 256 To)(hc:rZ al d To lw n 0)(hrep:∀b,b<256->∃k,k<256/\lw[k]? =some k/\∀p,p<n->To p b=To p k):C4 n (mkF of) To al d:=by
 refine⟨h.sd,fun i j hi hj he=>by unfold mkF;rw[h.mo i j hi hj he],fun i j hi hj he b hb=> ?_⟩;obtain⟨k,hk,hl,hp⟩:=hrep b hb;have e:iV al d To i j b=iV al d To i j k:=by unfold iV;rw[hp i hi,hp j hj]
 rw[e];rcases Nat.lt_trichotomy i j with e2 | e2 | e2
 ·rw[Md ha h.sy hi hj hk];exact hc j i e2 (.inl hj) (by rw[←h.sy i j hi hj];exact he) k hk hl
 ·subst e2;exact Il ha h.di hi hk
 ·exact hc i j e2 (.inl hi) he k hk hl
end Go.Proofs.YtgjgjgihceijnaaGreat
namespace Go.Proofs.YtgjgjgihceijnaaGreat
open Go.RowKit Go.Stn
theorem Tryz.infoBoolsR:(Tryz.prog.info? 80).map (fun i=>(i.zero,i.size,i.bytes))=some (some (.slice none 0 0),1,24):=by kernel_rfl
theorem PD.draw {W w:World}{dg m n:Nat}{db:Nat->Nat}{d:Nat->Nat->Bool}(h:PD W w dg m n db d):PD W w.drew dg m n db d:=
 ⟨⟨h.bl.os,h.bl.tape,h.bl.output,h.bl.size,h.bl.block⟩,h.lo0,h.r,h.a,h.fz0,fun i hi=>⟨(h.c i hi).c,(h.c i hi).f⟩,h.lo,h.ap,h.ij⟩
theorem Co {gb n gO qO gT qT ab:Nat}{rw:Nat->Nat}{of:Nat->Int}{To:Nat->Nat->Int}{al:Nat->Bool}{w:World}(h:GV gb w n gO qO gT qT rw of To)(hn:n<=2000)(hof:∀i,i<n-> -1<=of i)(hau:iX n 256 To)(hal:C9 n (mkF of) To al)(hba:BA w ab n al)(hab:ab<w.heap.size)
  {gl ol vc:Nat} {lw:List Nat} (hlw:lw.length=256) (hgl:gl<w.heap.size) (hcl:∀(i m:Nat),lw[i]? =some m->w.cell? ⟨gl,ol+i,none⟩=some (.int .i64 (m:Int))) (hlo:∀(b k:Nat),lw[b]? =some k->k<=b) (hrep:∀b,b<256->∃k,k<256/\lw[k]? =some k/\∀p,p<n->To p b=To p k):
  Calls Tryz.prog 48 #[.pointer (some ⟨gb,0,none⟩),.slice (some ⟨ab,0,none⟩) n n,.slice (some ⟨gl,ol,none⟩) 256 vc] w fun e w'=>∃db d,e= .returned (.slice (some ⟨w.heap.size,0,none⟩) n n)/\DB w w' w.heap.size n db d/\C4 n (mkF of) To al d/\∀i,i<n->d i i=false:=by
 obtain⟨i0,hi0,hz0,hz1,hz2⟩:=info_parts Tryz.infoBool1;have HI:Hid (Tryz.prog.info? 4=some i0/\i0.zero=some (.bool false)/\i0.size=1/\i0.bytes=1):=⟨hi0,hz0,hz1,hz2⟩
 clear hi0 hz0 hz1 hz2;obtain⟨i1,hi0,hz0,hz1,hz2⟩:=info_parts Tryz.infoBoolsR;have HI2:Hid (Tryz.prog.info? 80=some i1/\i1.zero=some (.slice none 0 0)/\i1.size=1/\i1.bytes=24):=⟨hi0,hz0,hz1,hz2⟩
 have HG:=aA h;have k1:=h.c1;have hb0:=h.b0;have HOF:=aA hof;have HAU:=aA hau;have HREP:=aA hrep;have HLO:=aA hlo;have HAL:=aA hal;have HTL:=aA (fun(W:World) (hB:Below w.heap.size w W) (db:Nat->Nat) (d:Nat->Nat->Bool) (hd:DAt W w.heap.size n db d) (i j:Nat) (hi:i<n) (hj:j<n)=>Fn (db0:=n) (vc:=vc) (h.below hB (aL _)) hau (hba.below hB hab) (bM hab hB.size) hd hi hj hlw (bM hgl hB.size) (fun i m hm=>(hB.cell (p:=⟨gl,ol+i,none⟩) hgl).trans (hcl i m hm)) hlo);clear hi0 hz0 hz1 hz2 h hof hau hal hba hcl hlo hrep hlw;go_enter Tryz.func48,Tryz.ntmps48;go_upto_region 3 with(first | (at_make;refine wpList_make_full w rfl _ _ 129 rfl w.heap.size 80 i1 (.slice none 0 0) 1 Tryz.underlying129 HI2.out.1 HI2.out.2.1 HI2.out.2.2.1 .i64 .i64 _ n n rfl rfl rfl rfl (by rw[HI2.out.2.2.2];omega) (by unfold maxLen;omega) (aL _) ?_;intro w1 hown hg))
 have HPD:Hid (PD w w1 w.heap.size 0 n (fun _=>0) (fun _ _=>false)):=PD.start ⟨hg.os,hg.tape,hg.output,hg.size,fun k hk=>hg.block k hk (by simp)⟩ (hown.lt w.heap.size rfl).2 (fun i hi=>by
  have hx:=bC (l:=(madeCells (Value.slice none 0 0).cells (n*1)).toList) (i:=i) (by have:=hown.1;omega);have:=hown.cells rfl i _ hx;rw[iL,Nat.zero_add]at this;exact⟨_,this⟩) (fun i=>lF hown i) _ _
 clear hown hg k1;go_wp2_with fail
 go_loopw [9] (fun z wr=>∃(m:Nat) (db:Nat->Nat) (d:Nat->Nat->Bool),m<=n/\z= .int .i64 (m:Int)/\PD w wr w.heap.size m n db d/\Hid (∀p q,p<m->q<n->d p q=(of p !=of q))) (fun z _=>n - (intOf z).toNat)
 case atStart=>exact⟨0,_,_,by omega,rfl,HPD.out,aA (fun p q hp=>by omega)⟩
 case round=>
  clear HPD;obtain⟨m,db,d,hm,rfl,hpd,HA⟩:=hrel;have HP:=aA hpd;have hz:=hpd.bl.size;by_cases hlt:m<n
  ·obtain⟨v0,hv0⟩:=hpd.a m hlt;have hf0:=hpd.fz0 m;have hl0:=hpd.lo0.2;have hmI:(0:Int)<=(m:Int)/\(m:Int)<(n:Int):=by omega
   clear hpd;go_upto_region 7 with(first | (at_make;refine wpList_make_full wr rfl _ _ 80 rfl wr.heap.size 4 i0 (.bool false) 1 Tryz.underlying80 HI.out.1 HI.out.2.1 HI.out.2.2.1 .i64 .i64 _ n n rfl rfl rfl rfl (by rw[HI.out.2.2.2];omega) (by unfold maxLen;omega) (aL _) ?_;intro w2 hown hg;have y0:w2.cell? ⟨w.heap.size,m,none⟩=some v0:=(aO (w:=wr) (a:=⟨w.heap.size,m,none⟩) (hg.block _ hl0 (by simp))).trans hv0;have yf:w2.frozen? ⟨w.heap.size,m,none⟩=false:=(bK (w:=wr) (a:=⟨w.heap.size,m,none⟩) (hg.block _ hl0 (by simp))).trans hf0;have HP2:=aA (HP.out.row hlt hg (BA.new hown) (hown.lt _ rfl).2);clear hown hg))
   obtain⟨d2,ed2⟩:∃d2,d2=(fun i=>if i=m then(fun _:Nat=>false)else d i):=⟨_,rfl⟩
   obtain⟨db2,edb⟩:∃db2,db2=(fun i=>if i=m then wr.heap.size else db i):=⟨_,rfl⟩
   rw[←ed2,←edb]at HP2;have HA2:Hid (∀p q,p<m->q<n->d2 p q=(of p !=of q)):=fun p q hp hq=>by rw[ed2];simp only[if_neg (show p≠m by omega)];exact HA.out p q hp hq
   clear HP HA y0 yf hv0 hf0 ed2 edb;generalize w2.setCell ⟨w.heap.size,m,none⟩ (.slice (some ⟨wr.heap.size,0,none⟩) n n)=W2 at*;generalize wr.heap.size=sR at*;go_wp2_with fail
   go_loopw [10] (fun z wr2=>∃(j:Nat) (d:Nat->Nat->Bool),j<=n/\z= .int .i64 (j:Int)/\PD w wr2 w.heap.size (m+1) n db2 d/\Hid (∀p q,p<m->q<n->d p q=(of p !=of q))/\Hid (∀q,q<j->d m q=(of m !=of q))) (fun z _=>n - (intOf z).toNat)
   case atStart=>exact⟨0,d2,by omega,rfl,HP2.out,HA2,aA (fun q hq=>by omega)⟩
   case round=>
    clear HP2 HA2;obtain⟨j,d3,hj,rfl,hpd,HA3,HA4⟩:=hrel;have HP:=aA hpd;have hz3:=hpd.bl.size;have hgv:=HG.out.below hpd.bl (aL _);by_cases hjn:j<n
    ·have hjI:(0:Int)<=(j:Int)/\(j:Int)<(n:Int):=by omega
     have dr:=hpd.r m (by omega);have c1:=hgv.c1;have om:=hgv.o m hlt;have oj:=hgv.o j hjn;have dc:=(hpd.c m (by omega)).c j hjn;have df:=(hpd.c m (by omega)).f j;have HS:=aA (hpd.draw.set (i:=m) (by omega) hjn (of m !=of j));have HB3:Hid (∀p q,p<m->q<n->(if p=m/\q=j then(of m !=of j)else d3 p q)=(of p !=of q)):=fun p q hp hq=>by rw[if_neg (fun e=>by omega)];exact HA3.out p q hp hq
     have HB4:Hid (∀q,q<j+1->(if m=m/\q=j then(of m !=of j)else d3 m q)=(of m !=of q)):=fun q hq=>by
      by_cases e:q=j
      ·rw[if_pos ⟨rfl,e⟩,e]
      ·rw[if_neg (fun h=>e h.2)];exact HA4.out q (by omega)
     generalize d3 m j=dv at dc;generalize hom:of m=ovm at om HS HB3 HB4;generalize hoj:of j=ovj at oj HS HB3 HB4;have HOM:=aA hom;have HOJ:=aA hoj;clear hpd hgv hom hoj;go_upto_region 10 with fail
     go_region
     all_goals
      go_wp2;go_roundw
      case rel=>exact⟨j+1,_,by omega,by go_num,HS.out,HB3,HB4⟩
      case measure=>simp[intOf];omega
    ·have ej:j=n:=by omega
     have dl:decide ((j:Int)<(n:Int))=false:=by simp;omega
     have HA5:Hid (∀p q,p<m+1->q<n->d3 p q=(of p !=of q)):=fun p q hp hq=>by
      by_cases e:p=m
      ·subst e;exact HA4.out q (by omega)
      ·exact HA3.out p q (by omega) hq
     clear ej hpd hgv;go_wp2;go_roundw
     case rel=>exact⟨m+1,db2,d3,by omega,by go_num,HP.out,HA5⟩
     case measure=>simp[intOf];omega
  ·have em:m=n:=by omega
   have dl:decide ((m:Int)<(n:Int))=false:=by simp;omega
   have hdb:=hpd;rw[em]at hdb;have HD0:=aA hdb.done;have HP0:Hid (PI2 n of To d):=PI2.start HOF.out (fun i j hi hj=>HA.out i j (by omega) hj);clear em hdb hpd HP HA;go_wp2_with fail
   go_loopg [11] (n*n+1) (fun gj x wr2=>∃(mb:Bool) (d:Nat->Nat->Bool),x= .bool mb/\DB w wr2 w.heap.size n db d/\PI2 n of To d/\Hid (mb=false->rZ al d To lw n 0)/\Hid (mb=true->qW d n<gj))
   case atStart=>exact⟨true,d,rfl,HD0.out,HP0.out,aA (fun e=>by cases e),aA (fun _=>by have:=Ir d n;omega)⟩
   case round=>
    clear HD0 HP0;obtain⟨mb,d0,rfl,hd0,hp0,HC0,HM0⟩:=hrel;have HD0:=aA hd0
    cases mb with
    | false=>
     have HPC:=aA (hp0.partC HAU.out (HC0.out rfl) HREP.out);have HDI:=aA hp0.di;clear hd0 hp0 HC0 HM0;go_wp2;go_ret;exact⟨db,d0,rfl,HD0.out,HPC.out,HDI.out⟩
    | true=>
     have hm2:=HM0.out rfl;obtain⟨dd,rfl⟩:∃dd,gk=dd+1:=⟨gk - 1,by omega⟩
     have HP0:=aA hp0;clear hd0 hp0 HC0 HM0;go_wp2_with fail
     go_loopw [11,12] (fun x z wr3=>∃(s:Nat) (d:Nat->Nat->Bool) (mb:Bool),s<=n/\x= .bool mb/\z= .int .i64 (s:Int)/\DB w wr3 w.heap.size n db d/\PI2 n of To d/\qW d n<=qW d0 n/\Hid (mb=true->qW d n<qW d0 n)/\Hid (mb=false->rZ al d To lw s 0)) (fun _ z _=>n - (intOf z).toNat)
     case atStart=>exact⟨0,d0,false,by omega,rfl,rfl,HD0.out,HP0.out,aL _,aA (fun e=>by cases e),aA (fun _ i j hj hi=>by omega)⟩
     case round=>
      clear HD0 HP0;obtain⟨s,d4,mb4,hs,rfl,rfl,hd4,hp4,hc4,HY4,HN4⟩:=hrel;have HD4:=aA hd4;have HP4:=aA hp4;clear hd4 hp4;by_cases hsn:s<n
      ·have hsI:(0:Int)<=(s:Int)/\(s:Int)<(n:Int):=by omega
       go_wp2_with fail
       go_loopw [11,13] (fun x z wr4=>∃(t:Nat) (d:Nat->Nat->Bool) (mb:Bool),t<=s/\x= .bool mb/\z= .int .i64 (t:Int)/\DB w wr4 w.heap.size n db d/\PI2 n of To d/\qW d n<=qW d0 n/\Hid (mb=true->qW d n<qW d0 n)/\Hid (mb=false->rZ al d To lw s t)) (fun _ z _=>s - (intOf z).toNat)
       case atStart=>exact⟨0,d4,mb4,by omega,rfl,rfl,HD4.out,HP4.out,hc4,HY4,HN4⟩
       case round=>
        clear HD4 HP4 HY4 HN4;obtain⟨t,d5,mb5,ht,rfl,rfl,hd5,hp5,hc5,HY5,HN5⟩:=hrel;have HD5:=aA hd5;have HP5:=aA hp5;by_cases htn:t<s
        ·have htI:(0:Int)<=(t:Int)/\(t:Int)<(n:Int):=by omega
         have htI2:(0:Int)<=(t:Int)/\(t:Int)<(s:Int):=by omega
         have hdt:decide ((t:Int)<(s:Int))=true:=by simp;omega
         have dr:=hd5.da.r s hsn;have dc:=hd5.da.c s t hsn (by omega);have HSK:Hid ((∀b,b<256->lw[b]? =some b->d5 s t=false->iV al d5 To s t b=false)->mb5=false->rZ al d5 To lw s (t+1)):=fun hh e i j hji hor hd b hb hl=>by
          by_cases e2:i=s/\j=t
          ·rw[e2.1,e2.2]at hd ⊢;exact hh b hb hl hd
          ·exact HN5.out e i j hji (by omega) hd b hb hl
         clear hd5 hp5
         cases hdv:d5 s t with
         | true=>
          rw[hdv]at dc;have HN6:Hid (mb5=false->rZ al d5 To lw s (t+1)):=HSK.out (fun b hb hl e=>by rw[hdv]at e;cases e);clear hdv HSK;go_wp2;go_roundw
          case rel=>exact⟨t+1,d5,mb5,by omega,rfl,by go_num,HD5.out,HP5.out,hc5,HY5,HN6⟩
          case measure=>simp[intOf];omega
         | false=>
          rw[hdv]at dc;have HDV:=aA hdv;clear hdv;go_upto_region 21 with fail;refine(HTL.out _ (HD5.out.bl) db d5 HD5.out.da s t hsn (by omega)).mono ?_;rintro e w6 ⟨r6,rfl,hb6,ht6⟩;have HD6:=aA (HD5.out.below hb6);have HB6:=aA hb6;have hz6:=hb6.size;rcases ht6 with⟨rfl,b,hb,htb⟩ | ⟨rfl,hno⟩
          ·have hap:=Gy HAU.out HAL.out hsn (show t<n by omega) hb HP5.out.sd htb;have HP7:=aA (HP5.out.put (i:=s) (j:=t) (by omega) hap);have hcs:=Dm htn HDV.out n hsn;have dr6:=HD6.out.da.r s hsn;have dc6:=HD6.out.da.c s t hsn (by omega);have df6:=HD6.out.fz s t hsn;have HD7:=aA (HD6.out.set hsn (show t<n by omega) true);have HD8:=aA (HD7.out.set (show t<n by omega) hsn true);clear hap htb hb HSK dr dc hb6 HDV;go_upto_region 22 with fail;have dr7:=HD7.out.da.r t (by omega);have dc7:=HD7.out.da.c t s (by omega) hsn;have df7:=HD7.out.fz t s (by omega);clear dr6 dc6 df6 HD6 HD5;generalize w6.setCell ⟨db s,t,none⟩ (.bool true)=W7 at*;go_wp2;go_roundw
           case rel=>exact⟨t+1,kZ d5 s t,true,by omega,rfl,by go_num,HD8.out,HP7.out,by omega,aA (fun _=>by omega),aA (fun e=>by cases e)⟩
           case measure=>simp[intOf];omega
          ·have HN6:Hid (mb5=false->rZ al d5 To lw s (t+1)):=HSK.out (fun b hb hl _=>hno b hb hl);clear HSK dr dc hno hb6;go_wp2;go_roundw
           case rel=>exact⟨t+1,d5,mb5,by omega,rfl,by go_num,HD6.out,HP5.out,hc5,HY5,HN6⟩
           case measure=>simp[intOf];omega
        ·have ets:t=s:=by omega
         have hdt:decide ((t:Int)<(s:Int))=false:=by simp;omega
         have HN6:Hid (mb5=false->rZ al d5 To lw (s+1) 0):=fun e i j hji hor hd b hb hl=>HN5.out e i j hji (by omega) hd b hb hl
         clear ets hd5 hp5;go_wp2;go_roundw
         case rel=>exact⟨s+1,d5,mb5,by omega,rfl,by go_num,HD5.out,HP5.out,hc5,HY5,HN6⟩
         case measure=>simp[intOf];omega
      ·have hds:decide ((s:Int)<(n:Int))=false:=by simp;omega
       have esn:s=n:=by omega
       have HC:Hid (mb4=false->rZ al d4 To lw n 0):=by rw[←esn];exact HN4
       have HM:Hid (mb4=true->qW d4 n<dd):=fun e=>by have:=HY4.out e;omega
       clear esn;go_wp2;go_roundg dd
       case measure=>omega
       case rel=>exact⟨mb4,d4,rfl,HD4.out,HP4.out,HC,HM⟩
end Go.Proofs.YtgjgjgihceijnaaGreat
namespace Go.Proofs.YtgjgjgihceijnaaGreat
open Go.RowKit Go.Stn
def TbV (w:World)(v1 v2:Value)(n:Nat)(of:Nat->Int)(tr:Nat->Nat->Int):Prop:=
 ∃(g1 c1 g2 c2:Nat) (rw:Nat->Nat),v1= .slice (some ⟨g1,0,none⟩) n c1/\v2= .slice (some ⟨g2,0,none⟩) n c2/\(g1<w.heap.size/\g2<w.heap.size/\∀s,s<n->rw s<w.heap.size)/\(∀s,s<n->w.cell? ⟨g1,s,none⟩=some (.int .i64 (of s)))/\(∀s,s<n->w.cell? ⟨g2,s,none⟩=some (.slice (some ⟨rw s,0,none⟩) 256 256))/\∀s b,s<n->b<256->w.cell? ⟨rw s,b,none⟩=some (.int .i64 (tr s b))
theorem TbV.below {w w':World}{v1 v2:Value}{n B:Nat}{of:Nat->Int}{tr:Nat->Nat->Int}(h:TbV w v1 v2 n of tr)(hB:Below B w w')(hb:w.heap.size<=B):TbV w' v1 v2 n of tr:=by
 obtain⟨g1,c1,g2,c2,rw,e1,e2,⟨h1,h2,h3⟩,h4,h5,h6⟩:=h;have hz:=hB.size;exact⟨g1,c1,g2,c2,rw,e1,e2,⟨by omega,by omega,fun s hs=>by have:=h3 s hs;omega⟩,fun s hs=>(hB.cell (p:=⟨g1,s,none⟩) (by show g1<B;omega)).trans (h4 s hs),fun s hs=>(hB.cell (p:=⟨g2,s,none⟩) (by show g2<B;omega)).trans (h5 s hs),fun s b hs hb2=>(hB.cell (p:=⟨rw s,b,none⟩) (by have:=h3 s hs;show rw s<B;omega)).trans (h6 s b hs hb2)⟩
structure TsV (w:World)(g m:Nat)(ns:Nat->Nat)(of:Nat->Nat->Int)(tr:Nat->Nat->Nat->Int):Prop where
 t:∀c,c<m->∃v1 v2,w.cell? ⟨g,c*2,none⟩=some v1/\w.cell? ⟨g,c*2+1,none⟩=some v2/\TbV w v1 v2 (ns c) (of c) (tr c)
 b:g<w.heap.size
theorem TsV.below {w w':World}{g m B:Nat}{ns:Nat->Nat}{of:Nat->Nat->Int}{tr:Nat->Nat->Nat->Int}(h:TsV w g m ns of tr)(hB:Below B w w')(hb:w.heap.size<=B):TsV w' g m ns of tr:=by
 have hz:=hB.size;have h0:=h.b;refine⟨fun c hc=> ?_,by omega⟩;obtain⟨v1,v2,k1,k2,k3⟩:=h.t c hc;exact⟨v1,v2,(hB.cell (p:=⟨g,c*2,none⟩) (by show g<B;omega)).trans k1,(hB.cell (p:=⟨g,c*2+1,none⟩) (by show g<B;omega)).trans k2,k3.below hB hb⟩
theorem Ru {w:World}{g m cap:Nat}{ns:Nat->Nat}{of:Nat->Nat->Int}{tr:Nat->Nat->Nat->Int}(h:TsV w g m ns of tr)(hm:m<=100)(hns:∀c,c<m->ns c<=2000){a b:Nat}(ha:a<256)(hb:b<256):
  Calls Tryz.prog 79 #[.slice (some ⟨g,0,none⟩) m cap,.int .i64 (a:Int),.int .i64 (b:Int)] w fun e w'=>e= .returned (.bool (fQ ns tr m a b))/\Below w.heap.size w w':=by
 have HT:=aA h;have HNS:=aA hns;have haI:(0:Int)<=(a:Int)/\(a:Int)<(256:Int):=by omega
 have hbI:(0:Int)<=(b:Int)/\(b:Int)<(256:Int):=by omega
 clear h hns;go_enter Tryz.func79,Tryz.ntmps79;go_wp2_with fail
 go_loopw [7] (fun z wr=>∃(c q:Nat),c<=m/\z= .int .i64 (c:Int)/\wr=w.drewN q/\Hid (∀c',c'<c->∀s,s<ns c'->tr c' s a=tr c' s b)) (fun z _=>m - (intOf z).toNat)
 case atStart=>exact⟨0,0,by omega,rfl,rfl,aA (fun c' hc=>by omega)⟩
 case round=>
  obtain⟨c,q,hc,rfl,rfl,HA⟩:=hrel;by_cases hlt:c<m
  ·have hcI:(0:Int)<=(c:Int)/\(c:Int)<(m:Int):=by omega
   obtain⟨v1,v2,k1,k2,g1,c1,g2,c2,rw,e1,e2,_,_,k5,k6⟩:=HT.out.t c hlt;subst e1 e2;have hn:=HNS.out c hlt;have HK5:=aA k5;have HK6:=aA k6;obtain⟨nc,enc⟩:∃nc,ns c=nc:=⟨_,rfl⟩
   rw[enc]at k2 hn;have HNC:=aA enc;clear k1 k5 k6 enc;go_wp2_with fail
   go_loopw [8] (fun z wr=>∃(s q:Nat),s<=nc/\z= .int .i64 (s:Int)/\wr=w.drewN q/\Hid (∀s',s'<s->tr c s' a=tr c s' b)) (fun z _=>nc - (intOf z).toNat)
   case atStart=>exact⟨0,q,by omega,rfl,rfl,aA (fun c' hc=>by omega)⟩
   case round=>
    obtain⟨s,q2,hs,rfl,rfl,HA2⟩:=hrel;by_cases hsl:s<nc
    ·have hsI:(0:Int)<=(s:Int)/\(s:Int)<(nc:Int):=by omega
     have y0:=HK5.out s (by rw[HNC.out];exact hsl);have ya:=HK6.out s a (by rw[HNC.out];exact hsl) ha;have yb:=HK6.out s b (by rw[HNC.out];exact hsl) hb;by_cases hq:tr c s a=tr c s b
     ·have HA3:Hid (∀s',s'<s+1->tr c s' a=tr c s' b):=fun s' hs'=>by
       by_cases e:s'=s
       ·rw[e];exact hq
       ·exact HA2.out s' (by omega)
      rw[hq]at ya;generalize tr c s b=tv at*;have dv:(tv !=tv)=false:=by simp
      clear hq;go_upto_region 7 with fail;go_big_region
      all_goals
       go_wp2;go_roundw
       case rel=>exact⟨s+1,q2+1,by omega,by go_num,rfl,HA3⟩
       case measure=>simp[intOf];omega
     ·have HR:Hid (fQ ns tr m a b=false):=by
       unfold Hid
       cases hv:fQ ns tr m a b with
       | false=>rfl
       | true=>exact absurd (kY.1 hv c hlt s (by rw[HNC.out];exact hsl)) hq
      have dv:(tr c s a !=tr c s b)=true:=by rw[bne_iff_ne];exact hq
      clear hq;generalize tr c s a=tva at*;generalize tr c s b=tvb at*;go_upto_region 7 with fail;go_big_region
      all_goals
       go_wp2;go_ret;exact⟨by rw[HR.out];rfl,rfl,rfl,rfl,aL _,fun _ _=>rfl⟩
    ·have ds:decide ((s:Int)<(nc:Int))=false:=by simp;omega
     have HA3:Hid (∀c',c'<c+1->∀s,s<ns c'->tr c' s a=tr c' s b):=fun c' hc' s' hs'=>by
      by_cases e:c'=c
      ·subst e;rw[HNC.out]at hs';exact HA2.out s' (by omega)
      ·exact HA.out c' (by omega) s' hs'
     go_wp2;go_roundw
     case rel=>exact⟨c+1,q2,by omega,by go_num,rfl,HA3⟩
     case measure=>simp[intOf];omega
  ·have dc:decide ((c:Int)<(m:Int))=false:=by simp;omega
   have HR:Hid (fQ ns tr m a b=true):=I8 (fun c' hc' s hs=>HA.out c' (by omega) s hs);go_wp2;go_ret;exact⟨by rw[HR.out];rfl,rfl,rfl,rfl,aL _,fun _ _=>rfl⟩
end Go.Proofs.YtgjgjgihceijnaaGreat
