import Derived.Test.YtgjgjgihceijnaaGreatH01
import Derived.BigRegion
import Derived.ChangeArms
import Derived.Deep.Slices
import Derived.DataReads
import Derived.Deep.Cut
open Go.RowKit renaming ownsRow_setCell_below->QN,intOf->QO,Hid->QP
open Go renaming wpList_load_mid->QQ,wpList_store_mid->QR,all_oneCell_toArray->QS,info_parts->QT,wpList_make_own->QU,run_loadVar_mid->QV,maxLen->QW,Calls->QX
open Go.Proofs.Tryz renaming zeroCells158->LC,prog->LF,underlying158->LI,underlying164->ME,zeroCells72->MG,underlying59->MJ,underlying89->MR,results68->MW,results141->MZ,underlying44->NG,ntmps68->NH,func68->NM,results136->NN,underlying117->NR,results16->NS,results99->NT,underlying29->OB,ntmps135->OD,ntmps12->OJ,func135->OL,ntmps99->OM,results137->OQ,results94->OR
open Go.World renaming rangeAt_setCells_same->LD,cell?_of_block->LJ,cell?_alloc_at->LK,cell?_setCell_other->LP,frozen?_setCell->LU,size_setCell->MA,setCell->MD,cell?_alloc_past->MH,cell?_setCell_same->MM,ownsRow_nil->MT,there_setCells->MV,frozen?_of_block->NB,drewN_drewN->NE,frozen?_alloc_at->NF,cell?_alloc_new->NJ,rangeAt_alloc->NO,cell?_setCell_same'->NW,there_alloc->OC,frozen?_alloc_past->OE,cell?->PM
open Go.Value renaming slice->LG,ownBlock->LN,oneCell'->LZ,int->OH,cells->OZ
open Nat renaming lt_of_lt_of_le->LH,le_trans->LS,le_of_lt->MB,zero_add->MI,le_succ->NY,lt_or_ge->OK,not_lt_zero->ON,lt_irrefl->PF,sub_self->PG
open List renaming getElem?_eq_getElem->LM,length_append->LO,length_singleton->LQ,getElem?_set_ne->LR,getD_eq_getElem?_getD->LY,getElem?_append_right->MF,getElem?_eq_some_iff->ML,getElem?_append_left->MQ,replicate->MU,drop_eq_getElem_cons->MY,getElem?_set_self->ND,getElem?_eq_none->NI,range->NQ,getElem?_map->NZ,getElem?_replicate->OI,map_append->OP,mem_singleton->OU,not_mem_nil->OV,map_toArray->OX,drop_length->OY,length_set->PA,mem_range->PC,map_cons->PE,map_nil->PH,mem_map->PK
open Go.RowKit.Below renaming heap_alloc->MC,refl->MN,heap_setCell->MO
open Classical renaming choose_spec->MS,choose->NK,byContradiction->NU
open Int renaming toNat_natCast->NC
open Option renaming isSome_iff_exists->OF
open Bool renaming and_eq_true->OG,eq_iff_iff->OO
open Array renaming length_toList->OS
open ByteArray renaming empty->PB
open Go.Proofs.Tryz
set_option maxRecDepth 100000
set_option maxHeartbeats 8000000
namespace Go.Proofs.YtgjgjgihceijnaaGreat
open Go.RowKit Go.Stn
variable {B p q:Nat}{a b:List (Int×Int×Int)}
section
attribute [local go_sem ↓] Go.wp_at_zero Go.wp_at_succ
theorem PI.push'{w:tW}{O:Nat->Nat}{cs:List wV}{vb:Nat->tV}{bc:Nat->List tV}{T:Nat->List (Int×Int×Int)}(h:PI B p w O cs vb bc q T){f:Nat}(J:1<=f)(U:f<7){w4:tW}{o:Obj}{g aJ n:Nat}{v vf:tV}
  (hn:(bc f).length=n) (I:vb f=vf) (C:w4.ownsRow (B+1) 29 1 (.slice (some ⟨g,0,none⟩) (n+1) aJ) (n+1) (bc f++[v]))
  (F:(w.alloc o).grownBy w4 vf.ownBlock) (D:vf.ownBlock=some g\/g=w.heap.size+1)
  (V:f<=4->n<p->MK w O n v) (Q:f=5->OT w O B (17+4*n) v (T n)) (X:f=6->OT w O B (18+4*n) v (T n)):
  PI B p (w4.setCell ⟨B,f,none⟩ (.slice (some ⟨g,0,none⟩) (n+1) aJ)) (λ k=>if k=g then 2+f else O k) cs (U7 vb f (.slice (some ⟨g,0,none⟩) (n+1) aJ)) (U7 bc f (bc f++[v])) q T:=by
 subst hn I;exact h.push J U C F D V (λ e=>by subst e;exact Q rfl) (λ e=>by subst e;exact X rfl)
def JT(B p q:Nat)(w:tW)(O:Nat->Nat)(v:tV)(cs:List wV)(bc:Nat->List tV)(T:Nat->List (Int×Int×Int))(L:List (Int×Int×Int))(e:Ending)(w':tW):Prop:=
 e=.returned (.tuple #[])/\∃O' C o,PI B p w' O' cs C o q (U7 T (bc 5).length L)/\(∀f,f<=4->o f=bc f)/\(o 5).length=(bc 5).length+1/\(o 6).length=(bc 5).length+1/\Below B w w'/\∀k,k<w.heap.size->O k=0->v.ownBlock≠some k->O' k=0/\w'.heap[k]?=w.heap[k]?
theorem T5{w:tW}{O:Nat->Nat}{cs:List wV}{vb:Nat->tV}{bc:Nat->List tV}{T:Nat->List (Int×Int×Int)}(h:PI B p w O cs vb bc q T){v:tV}{L:List (Int×Int×Int)}
  (hv:w.ownsRow (B+1) 79 3 v L.length (hZ L)) (bC:∀k,v.ownBlock=some k->O k=0) (hL:L.length<=1000) (hQ:(bc 5).length=(bc 6).length) (hP:(bc 5).length<=3000000) (hq:q<=(bc 5).length):
  QX LF 89 #[.pointer (some ⟨B,0,none⟩),v] w (JT B p q w O v cs bc T L):=by
 obtain⟨C,eS⟩:=xE ((bc 5).length)
 have hB:=h.wt.2;have h1:PI B p w (λ k=>if v.ownBlock=some k then 17+4*C else O k) cs vb bc q (U7 T C L):=
  (h.tag (17+4*C) (λ k J=>⟨bC k J,(hv.lt k J).2⟩)).setT (λ j hj=>gZ _ _ (by omega))
 have hF:OT w (λ k=>if v.ownBlock=some k then 17+4*C else O k) B (17+4*C) v (U7 T C L C):=by
  rw[iX];exact⟨hv,λ k J=>aB J,hL⟩
 obtain⟨va,vc,hU⟩:=gA hv;have bO:=fV h1;have hJ:=fV hF;have HQ:=fV hq;have bM:=h1.bk 5 (by omega) (by omega);have c5:=h1.wb 5 (by omega);obtain⟨a5,k5,e5⟩:=gA bM;have Y:=λ k=>h1.own (f:=5) (k:=k) (by omega)
 rw[e5]at c5 Y bM;rw[eS]at c5 bM Y;have eX:=fV e5;have V:=fV eS;have hK:=fV bM;have aL:=fV Y;have nL:C<=3000000:=by omega
 have bS:QP ((bc 6).length=C):=by unfold QP;omega
 subst hU;clear h1 hF hq h hv bC bM Y eS e5 hQ hP;go_enter func89,ntmps89;have f5:=bO.o.wz 5;go_upto_region 1 with(first
  | (at_builtin;refine gB w rfl (.tmp 8) (.tmp 10) 89 rfl (B+1) 29 (.slice none 0 0) 1 24 MR cM rfl (by decide) (by decide) (.slice a5 C k5) C (bc 5) [.slice va L.length vc] _ rfl hK.o _ rfl rfl rfl (by simp[LZ]) (by omega) (by omega) ?_;intro g4 cap4 w4 bK D eM lH;have m5:=((gH D (k:=B) hB (λ e=>by have:=(aL.o B e.symm).1;omega)).1 5).trans c5;have hT:=((gH D (k:=B) hB (λ e=>by have:=(aL.o B e.symm).1;omega)).2 5).trans f5;have hD:=fV bK;have bT:=fV D;have eT:=fV eM;clear bK D eM))
 have Q:=fV (bO.o.push' (f:=5) (by omega) (by omega) V.o (by rw[eX.o,V.o]) hD.o bT.o eT.o (λ e=>absurd e (by omega)) (λ _=>hJ.o) (λ e=>absurd e (by omega)));have hC:=fV ((yV bT.o (λ k J=>LS (NY _) (aL.o k J).1) (MB hB)).setCell (p:=⟨B,5,none⟩) lR (.slice (some ⟨g4,0,none⟩) (C+1) cap4));have hX:QP (∀k,k<w.heap.size->O k=0->(LG va L.length vc).ownBlock≠some k->(w4.setCell ⟨B,5,none⟩ (.slice (some ⟨g4,0,none⟩) (C+1) cap4)).heap[k]?=w.heap[k]? /\k≠g4/\k≠B):=λ k J ho aT=>by
  have n1:(LG a5 C k5).ownBlock≠some k:=λ e=>by
   have:=bO.o.bt 5 k (by omega) (by rw[eX.o,V.o];exact e);simp only[aA aT]at this;omega
  have n2:k≠B:=λ e=>by
   have:=bO.o.wt.1;rw[<-e]at this;simp only[aA aT]at this;omega
  refine⟨(iC w4 B 5 _ n2).trans ((bT.o.block k (by simp;omega) (λ e=>n1 e.symm)).trans (MC w _ k J)),λ e=>?_,n2⟩;rcases eT.o with e1|e1
  ·exact n1 (by rw[e];exact e1)
  ·omega
 have qL:w.heap.size<=(w4.setCell ⟨B,5,none⟩ (.slice (some ⟨g4,0,none⟩) (C+1) cap4)).heap.size:=hC.o.size;clear c5 f5 m5 hT hD bT eT bO hJ hK aL eX;generalize w4.setCell ⟨B,5,none⟩ (.slice (some ⟨g4,0,none⟩) (C+1) cap4)=W5 at*;have gL:U7 bc 5 (bc 5++[.slice va L.length vc]) 6=bc 6:=gZ _ _ (by omega);have eO:=Q.o.wa C (.slice va L.length vc) (by have:=V.o;have:=HQ.o;omega) (by rw[iX,MF (by have:=V.o;omega),V.o,PG];rfl);rw[iX]at eO;have hM:=fV eO.ro;have U:=Q.o.bk 6 (by omega) (by omega);have c6:=Q.o.wb 6 (by omega);have f6:=Q.o.wz 6;have aR:=λ k=>Q.o.own (f:=6) (k:=k) (by omega)
 obtain⟨a6,k6,e6⟩:=gA U;rw[e6]at c6 U aR;rw[gL,bS.o]at c6 U aR;have cN:=fV e6;have hR:=fV U;have aO:=fV aR;have hE:=Q.o.wt.2;have X:=fV gL;clear U aR e6 eO gL;go_region_law (first
  | (refine Sj W5.drew rfl (.tmp 19) rfl (B+1) (.slice va L.length vc) L.length (hZ L) rfl hM.o.drew (zG L) hL (by show B+1<=W5.heap.size;omega) ?_;intro u Z hA aW U;obtain⟨ua,uc,hW⟩:=gA hA;subst hW;have hH:=fV hA;have I:=fV aW;have hG:=fV U;have x6:=(LJ (w:=W5) (a:=⟨B,6,none⟩) (aW.block B hE (by simp))).trans c6;have y6:=(NB (w:=W5) (a:=⟨B,6,none⟩) (aW.block B hE (by simp))).trans f6;have nN:W5.heap.size<=Z.heap.size:=aW.size;have hY:=fV (iH (w':=Z) hR.o (λ k J=>aW.block k (aO.o k J).2 (by simp)));have z6:(Z.alloc (.cells #[.slice ua L.length uc] 29)).cell? ⟨B,6,none⟩=some (.slice a6 C k6):=(LJ (w:=Z) (a:=⟨B,6,none⟩) (MC Z _ B (show B<Z.heap.size by omega))).trans x6;clear hA aW U)
  | (refine qJ Z rfl (.tmp 18) (.tmp 21) 89 rfl (B+1) 29 (.slice none 0 0) 1 24 MR cM rfl (by decide) (by decide) (.slice a6 C k6) C (bc 6) [.slice ua L.length uc] _ rfl hY.o Z.heap.size rfl rfl rfl (by simp[LZ]) (by omega) (by omega) ?_;intro g8 cP w8 bN F eL iN;have m8:=((gH F (k:=B) (show B<Z.heap.size by omega) (λ e=>by have:=(aO.o B e.symm).1;omega)).1 6).trans x6;have n8:=((gH F (k:=B) (show B<Z.heap.size by omega) (λ e=>by have:=(aO.o B e.symm).1;omega)).2 6).trans y6;have hI:=fV bN;have cF:=fV F;have eR:=fV eL;clear bN F eL))
 all_goals
  have eN:=fV (((Q.o.draw 1).below (w':=Z) ⟨I.o.os,I.o.tape,I.o.output,I.o.size,λ k J=>I.o.block k J (by simp)⟩).tag (v:= .slice ua L.length uc) (18+4*C) (λ k J=>⟨Q.o.fr k (hG.o k J),(hH.o.lt k J).2⟩));have hN:=fV (eN.o.push' (f:=6) (n:=C) (vf:= .slice a6 C k6) (by omega) (by omega) (by rw[X.o];exact bS.o) (by rw[cN.o,X.o,bS.o]) (by rw[X.o];exact hI.o) cF.o eR.o (λ e=>absurd e (by omega)) (λ e=>absurd e (by omega)) (λ _=>⟨by rw[iX];exact hH.o,λ k J=>aB J,by rw[iX];exact hL⟩));have hS:QP (Below B w (w8.setCell ⟨B,6,none⟩ (.slice (some ⟨g8,0,none⟩) (C+1) cP))):=by
   have a1:Below B W5 Z:=⟨I.o.os,I.o.tape,I.o.output,I.o.size,λ k J=>I.o.block k (show k<W5.heap.size by omega) (by simp)⟩
   have a2:=yV cF.o (λ k J=>LS (NY B) (aO.o k J).1) (show B<=Z.heap.size by omega);exact(hC.o.trans (a1.trans a2)).setCell (p:=⟨B,6,none⟩) lR _
  have hV:QP (∀k,k<w.heap.size->O k=0->(LG va L.length vc).ownBlock≠some k->(if k=g8 then 2+6 else if(LG ua L.length uc).ownBlock=some k then 18+4*C else if k=g4 then 2+5 else if(LG va L.length vc).ownBlock=some k then 17+4*C else O k)=0/\(w8.setCell ⟨B,6,none⟩ (.slice (some ⟨g8,0,none⟩) (C+1) cP)).heap[k]?=w.heap[k]?):=λ k J ho aT=>by
   obtain⟨q1,q2,q3⟩:=hX.o k J ho aT;have n0:(LG ua L.length uc).ownBlock≠some k:=λ e=>by have:W5.heap.size<=k:=hG.o k e;omega
   have n1:(LG a6 C k6).ownBlock≠some k:=λ e=>by
    have:=eN.o.bt 6 k (by omega) (by rw[cN.o,X.o,bS.o];exact e);simp only[aA aT,aA n0,aA q2]at this;omega
   have n2:k≠g8:=λ e=>by
    rcases eR.o with e1|e1
    ·exact n1 (by rw[e];exact e1)
    ·omega
   refine⟨by rw[aA n2,aA n0,aA q2,aA aT];exact ho,(iC w8 B 6 _ q3).trans ((cF.o.block k (by simp;omega) (λ e=>n1 e.symm)).trans ((MC Z _ k (by omega)).trans ((I.o.block k (show k<W5.heap.size by omega) (by simp)).trans q1)))⟩
  clear c6 f6 x6 y6 z6 m8 n8 hI cF eR eN Q;go_wp2;refine bodyPost_ret (results_none rfl _ _ _) rfl ?_;refine⟨rfl,_,_,_,by rw[V.o];exact hN.o,λ f hf=>?_,?_,?_,hS.o,hV.o⟩
  ·rw[gZ _ _ (by omega),gZ _ _ (by omega)]
  ·rw[gZ _ _ (by omega),iX,LO,LQ]
  ·rw[iX,LO,LQ,X.o,bS.o,V.o]
end
theorem Yl(h:a.length≠b.length):Stn.mB a b=false:=by
 unfold Stn.mB;simp;intro e;exact h (by rw[e])
theorem Vd(h:a.length=b.length)(o:∀k,k<a.length->a[k]?=b[k]?):Stn.mB a b=true:=by
 unfold Stn.mB;simp;apply List.ext_getElem?;intro k;by_cases C:k<a.length
 ·exact o k C
 ·rw[NI (by omega),NI (by omega)]
theorem CE{k:Nat}(o:a[k]? ≠b[k]?):Stn.mB a b=false:=by
 unfold Stn.mB;simp;intro e;exact o (by rw[e])
theorem b7(a b:List (Int×Int×Int))(ga ca gb cb:Nat)(w:tW)(ha:a.length<=1000000)(_hb:b.length<=1000000)
  (U:∀k x,a[k]?=some x->w.cell? ⟨ga,k*3,none⟩=some (.int .i64 x.1)/\w.cell? ⟨ga,k*3+1,none⟩=some (.int .i64 x.2.1)/\w.cell? ⟨ga,k*3+2,none⟩=some (.int .i64 x.2.2))
  (X:∀k x,b[k]?=some x->w.cell? ⟨gb,k*3,none⟩=some (.int .i64 x.1)/\w.cell? ⟨gb,k*3+1,none⟩=some (.int .i64 x.2.1)/\w.cell? ⟨gb,k*3+2,none⟩=some (.int .i64 x.2.2)):
  QX LF 12 #[.slice (some ⟨ga,0,none⟩) a.length ca,.slice (some ⟨gb,0,none⟩) b.length cb] w λ e w'=>e=.returned (.bool (Stn.mB a b))/\∃q,w'=w.drewN q:=by
 have HA:=sP U;have HB:=sP X;clear U X;by_cases C:a.length=b.length
 ·have aO:((a.length:Int) !=(b.length:Int))=false:=by rw[C];simp
  go_enter func12,OJ;have Z:=sP C;clear C;go_wp2_with fail
  go_loopw [5] (λ i w'=>∃k q:Nat,k<=a.length/\i=.int .i64 (k:Int)/\w'=w.drewN q/\∀j,j<k->a[j]?=b[j]?) (λ i _=>a.length-(QO i).toNat)
  case atStart=>exact⟨0,0,zL,rfl,rfl,λ j h=>absurd h (ON _)⟩
  case round=>
   obtain⟨k,q,hk,rfl,rfl,I⟩:=hrel;have F:=sP I;clear I;by_cases Y:k<a.length
   ·have aL:k<b.length:=by have:=Z.o;omega
    obtain⟨⟨x,y,z⟩,hx⟩:∃u,a[k]?=some u:=⟨_,LM Y⟩
    obtain⟨⟨V,y',z'⟩,J⟩:∃u,b[k]?=some u:=⟨_,LM aL⟩
    obtain⟨k0,k1,k2⟩:=HA.o k _ hx;obtain⟨m0,m1,m2⟩:=HB.o k _ J;have HX:=sP hx;have Q:=sP J;clear hx J;simp only at k0 k1 k2 m0 m1 m2;have aT:(0:Int)<=(k:Int)/\(k:Int)<(a.length:Int):=by omega
    have aR:(0:Int)<=(k:Int)/\(k:Int)<(b.length:Int):=by omega
    have D:((x==V)=true/\(y==y')=true/\(z==z')=true)\/(((x==V)=false)\/((x==V)=true/\(y==y')=false)\/((x==V)=true/\(y==y')=true/\(z==z')=false)):=by
     cases (x==V)<;>cases (y==y')<;>cases (z==z')<;>simp
    rcases D with⟨e1,e2,e3⟩|D
    ·have HE:QP (a[k]?=b[k]?):=by
      unfold QP;rw[HX.o,Q.o,beq_iff_eq.1 e1,beq_iff_eq.1 e2,beq_iff_eq.1 e3]
     go_wp2;go_quiet (fail);go_wp2;go_roundw
     case rel=>
      refine⟨k+1,_,Y,by go_num,rfl,λ j hj=>?_⟩;by_cases ej:j=k
      ·rw[ej];exact HE.o
      ·exact F.o j (by omega)
     case measure=>simp[QO];omega
    ·have HN:QP (Stn.mB a b=false):=by
      refine CE (k:=k) ?_;rw[HX.o,Q.o];intro h;injection h with h;injection h with h1 h2;injection h2 with h2 h3;subst h1 h2 h3;simp at D
     rcases D with e1|⟨e1,e2⟩|⟨e1,e2,e3⟩
     all_goals
      go_wp2;go_quiet (fail);go_wp2;go_ret;exact⟨by rw[HN.o];rfl,q+nq,by first|rfl|simp⟩
   ·have HY:QP (Stn.mB a b=true):=Vd Z.o (λ j hj=>F.o j (by omega));go_wp2;go_ret;exact⟨by rw[HY.o];rfl,q,rfl⟩
 ·have aO:((a.length:Int) !=(b.length:Int))=true:=by rw[aD];omega
  have HN:QP (Stn.mB a b=false):=Yl C;clear C;go_enter func12,OJ;go_wp2;go_ret;exact⟨by rw[HN.o];rfl,0,rfl⟩
theorem Bn(D vb:Option Addr)(n m ca cb:Nat)(w:tW)(h:n=0\/m=0)(hn:n<=1000000)(I:m<=1000000):
  QX LF 12 #[.slice D n ca,.slice vb m cb] w λ e w'=>e=.returned (.bool (decide (n=m)))/\∃q,w'=w.drewN q:=by
 by_cases e:n=m
 ·have C:n=0:=by omega
  subst e;subst C;go_enter func12,OJ;go_wp2_with fail
  go_loop [5] (λ i=>i=.int .i64 0) (λ _=>0)
  case atStart=>rfl
  case round=>
   subst hrel;go_wp2;go_ret;exact⟨rfl,0,rfl⟩
 ·have F:((n:Int) !=(m:Int))=true:=by rw[aD];omega
  have o:decide (n=m)=false:=by simp[e]
  rw[o];clear o e h;go_enter func12,OJ;go_wp2;go_ret;exact⟨rfl,0,rfl⟩
theorem Q0(a b:List (Int×Int×Int))(D vb:tV)(B B':Nat)(w:tW)(I:a.length<=1000000)(F:b.length<=1000000)(J:AZ w B D a)(rb:AZ w B' vb b):
  QX LF 12 #[D,vb] w λ e w'=>e=.returned (.bool (Stn.mB a b))/\∃q,w'=w.drewN q:=by
 rcases J.sh with⟨rfl,rfl⟩|⟨Q,ca,rfl,_,_,_,C⟩
 ·rcases rb.sh with⟨rfl,rfl⟩|⟨gb,cb,rfl,_,_,_,o⟩
  ·exact Bn none none 0 0 0 0 w (.inl rfl) (by omega) (by omega)
  ·have e:Stn.mB [] b=decide (0=b.length):=by
    unfold Stn.mB;rw[OO];simp;constructor
    ·intro h;rw[h];rfl
    ·intro h;exact List.eq_nil_of_length_eq_zero h.symm
   rw[e];exact Bn none _ 0 b.length 0 cb w (.inl rfl) (by omega) F
 ·rcases rb.sh with⟨rfl,rfl⟩|⟨gb,cb,rfl,_,_,_,o⟩
  ·have e:Stn.mB a []=decide (a.length=0):=by
    unfold Stn.mB;rw[OO];simp
   rw[e];exact Bn _ none a.length 0 ca 0 w (.inr rfl) I (by omega)
  ·exact b7 a b Q ca gb cb w I F C o
end Go.Proofs.YtgjgjgihceijnaaGreat
namespace Go.Stn
variable {a n top g K B s t:Nat}{b b2:Int}{l:List Nat}
theorem Bk{s aI:tB}(hi:iF s=true):∀(f p c:Nat)(H:List (Int×Int×Int)) (n:Nat) (T:List (Int×Int×Int)),c<iM s->(yP s aI f p c H n T).1.length<=T.length+f:=by
 intro f
 induction f with
 | zero=>intro p c H n T _;simp[yP]
 | succ e ih=>
  intro p c H n T I;by_cases o:p<aI.size
  ·rcases yC hi I (MB o)with D|⟨r,q,C,F,J,Q⟩
   ·rw[vX o D];simp
   ·rw[wB o C];have:=vV hi F;have:=ih q (if 1<nA s r then nA s r-2 else c) (H++(iE s aI c H p).1) (n+(iE s aI c H p).2) (if nA s r=1 then T else T++[((r:Int),(p:Int),(q:Int))]) (by split<;>omega);refine LS this ?_;split<;>simp<;>omega
  ·rw[yS o];simp
theorem GT(s aI:tB)(c:Nat)(hi:iF s=true)(o:c<iM s):(Io s aI c).length<=1000:=by
 unfold Io;split
 ·simp
 ·rename_i h;have:=Bk (aI:=aI) hi (aI.size+1) 0 c [] 0 [] o;unfold pU;simp at this⊢;omega
def Y7(c:Int)(n:Nat):Nat:=if c<0 then(-(c+1)).toNat%n else c.toNat%n
theorem CK(c:Int){n:Nat}(h:0<n):Y7 c n<n:=by unfold Y7;split<;>exact Nat.mod_lt _ h
def JF(c:Int):Prop:= -9223372036854775808<=c/\c<=9223372036854775807
structure Ui where
 kd:Int
 on:Int
 s:tB
 x:tB
def Ui.cells(o:Ui):List tV:= [.int .i64 o.kd,.int .i64 o.on,.string o.s,.string o.x]
def Ui.ok(o:Ui):Prop:=JF o.on/\o.s.size<=QW
theorem Pq(s aI:tB):(pE s aI).1.length<=1000:=by
 unfold pE;split
 ·simp
 ·rename_i h;split
  ·rename_i hi;have o:=(lC hi).2.2.1;have:=Bk (aI:=aI) hi (aI.size+1) 0 0 [] 0 [] (by omega);unfold pU;simp at this⊢;omega
  ·simp
structure gS where
 at_:Nat
 aX:List ((Nat->Bool)×Int×Int)
 aV:List (Int×Int×Int)
 aW:List (Nat->Bool)
def jI(f:Nat->Bool)(a b:Int):Nat->Bool:=λ i=>decide (a<=(i:Int)/\(i:Int)<=b)||f i
def gF(t:tB)(a:Nat):Int:=if t.size<=a then -1 else(bt t a:Int)
def iO(st:gS):gS:= {st with at_:=st.at_+1}
def gG(t:tB)(b:Int)(st:gS):Bool:=decide (gF t st.at_=b)
def nQ(b:Int):Bool:=decide (33<=b/\b<=126)
def Fg(b:Int):Bool:=decide ((97<=b/\b<=122)\/(65<=b/\b<=90)\/(48<=b/\b<=57))
def kV(b:Int)(sp:tB):Bool:=nQ b&&decide (∀i,i<sp.size->(bt sp i:Int)≠b)
def kI:tB:=⟨#[92,124,42,43,63,46,40,41,91,93]⟩
def kJ:tB:=⟨#[92,93,94,45]⟩
theorem jW{t:tB}(h:t.size<=a):gF t a= -1:=by unfold gF;rw[aB h]
theorem lK{t:tB}(h:a<t.size):gF t a=(bt t a:Int):=by unfold gF;rw[aA (by omega)]
theorem A9(t:tB)(a:Nat): -1<=gF t a/\gF t a<=255:=by
 unfold gF;have:=mT t a;split<;>omega
theorem iV{t:tB}{st:gS}(C:0<=b)(h:gG t b st=true):st.at_<t.size:=by
 unfold gG at h;rw[aE]at h;rcases OK st.at_ t.size with o|o
 ·exact o
 ·rw[jW o]at h;omega
def uD(t:tB)(st:gS):Int×Bool×gS:=
 if gG t 110 st=true then(10,true,iO st)
 else if gG t 115 st=true then(32,true,iO st)
 else if nQ (gF t st.at_)=true/\Fg (gF t st.at_)=false then(gF t st.at_,true,iO st)
 else(0,false,st)
def gC(t sp:tB)(st:gS):Int×Bool×gS:=
 if gG t 92 st=true then uD t (iO st)
 else if kV (gF t st.at_) sp=true then(gF t st.at_,true,iO st)
 else(0,false,st)
def gY(t:tB)(f:Nat->Bool)(st:gS):(Nat->Bool)×Bool×gS:=
 if(gC t kJ st).2.1=false then(f,false,(gC t kJ st).2.2)
 else if gG t 45 (gC t kJ st).2.2=false then(jI f (gC t kJ st).1 (gC t kJ st).1,true,(gC t kJ st).2.2)
 else if(gC t kJ (iO (gC t kJ st).2.2)).2.1=false\/(gC t kJ (iO (gC t kJ st).2.2)).1<(gC t kJ st).1 then(f,false,(gC t kJ (iO (gC t kJ st).2.2)).2.2)
 else(jI f (gC t kJ st).1 (gC t kJ (iO (gC t kJ st).2.2)).1,true,(gC t kJ (iO (gC t kJ st).2.2)).2.2)
theorem uR{t:tB}{f:Nat->Bool}{st o:gS}(h:gC t kJ st=(b,false,o)):gY t f st=(f,false,o):=by
 unfold gY;rw[h];simp
theorem uM{t:tB}{f:Nat->Bool}{st o:gS}(h:gC t kJ st=(b,true,o))(C:gG t 45 o=false):gY t f st=(jI f b b,true,o):=by
 unfold gY;rw[h];simp[C]
theorem pW{t:tB}{f:Nat->Bool}{st C D:gS}{o:Bool}(h:gC t kJ st=(b,true,C))(I:gG t 45 C=true)(J:gC t kJ (iO C)=(b2,o,D))(F:o=false\/b2<b):gY t f st=(f,false,D):=by
 unfold gY;rw[h];simp only[I,J];rw[aA (by decide),aA (by decide),aB F]
theorem uK{t:tB}{f:Nat->Bool}{st o C:gS}(h:gC t kJ st=(b,true,o))(D:gG t 45 o=true)(F:gC t kJ (iO o)=(b2,true,C))(I:¬b2<b):gY t f st=(jI f b b2,true,C):=by
 unfold gY;rw[h];simp only[D,F];rw[aA (by decide),aA (by decide),aA (by simp;omega)]
def mY(t:tB):Nat->(Nat->Bool)->Bool->gS->(Nat->Bool)×Bool×gS
 | 0,f,_,st=>(f,false,st)
 | n+1,f,ok,st=>
  if ok=false then(f,false,st)
  else if gG t 93 st=true then(f,true,iO st)
  else mY t n (gY t f st).1 (gY t f st).2.1 (gY t f st).2.2
def gJ:Nat->Bool:=λ _=>false
def rS(t:tB)(st:gS):(Nat->Bool)×Bool×gS:=
 mY t (t.size+1) (gY t gJ st).1 (gY t gJ st).2.1 (gY t gJ st).2.2
def rI(t:tB)(st:gS):(Nat->Bool)×Bool×gS:=
 if gG t 94 st=true then
  (if(rS t (iO st)).2.1=true then((λ i=> !((rS t (iO st)).1 i)),true,(rS t (iO st)).2.2)else(gJ,false,(rS t (iO st)).2.2))
 else(if(rS t st).2.1=true then((rS t st).1,true,(rS t st).2.2)else(gJ,false,(rS t st).2.2))
def hO(t:tB)(st:gS):(Nat->Bool)×Bool×gS:=
 if gG t 91 st=true then rI t (iO st)
 else if gG t 46 st=true then((λ i=> !(gJ i)),true,iO st)
 else if(gC t kI st).2.1=true then(jI gJ (gC t kI st).1 (gC t kI st).1,true,(gC t kI st).2.2)
 else(gJ,false,(gC t kI st).2.2)
theorem xR(t:tB)(n:Nat)(f:Nat->Bool)(st:gS):mY t n f false st=(f,false,st):=by
 cases n<;>rfl
theorem P5{t:tB}{f:Nat->Bool}{st:gS}(h:gG t 93 st=true):mY t (n+1) f true st=(f,true,iO st):=by
 rw[mY,aA (by decide),aB h]
theorem N5{t:tB}{f:Nat->Bool}{st:gS}(h:gG t 93 st=false):mY t (n+1) f true st=mY t n (gY t f st).1 (gY t f st).2.1 (gY t f st).2.2:=by
 rw[mY,aA (by decide),aA (by rw[h];decide)]
def gE(t:tB)(st:gS):Int×Bool×gS:=
 if 65<=gF t st.at_/\gF t st.at_<69 then(gF t st.at_-65,true,iO st)else(0,false,st)
def jQ(t:tB)(st:gS):Int×Bool×gS:=
 if gG t 46 st=true then(0,true,iO st)
 else if gG t 45 st=true then(1,true,iO st)
 else if(gE t st).2.1=true then((gE t st).1+2,true,(gE t st).2.2)else(0,false,(gE t st).2.2)
def qX(u v:tV):Prop:=∀k,u.ownBlock=some k->v.ownBlock=some k->False
theorem qX.symm{u v:tV}(h:qX u v):qX v u:=λ k a b=>h k b a
def nI(x:(Nat->Bool)×Int×Int):List tV:= [.bool (x.1 0),.bool (x.1 1),.bool (x.1 2),.bool (x.1 3),.int .i64 x.2.1,.int .i64 x.2.2]
def B7(l:List ((Nat->Bool)×Int×Int)):List tV:=l.flatMap nI
def Z3(l:List (Nat->Bool)):List tV:=l.flatMap gQ
def xF(l:List (Int×Int×Int)):List tV:=l.flatMap λ x=>[.int .i64 x.1,.int .i64 x.2.1,.int .i64 x.2.2]
def Hs(c:Nat)(s:tB):Bool:=decide (∃i,i<s.size/\bt s i=c)
def C8:tB:=⟨#[65,66,67,68,69,70,71,72,73,74,75,76,77,78,79,80,81,82,83,84,85,86,87,88,89,90,97,98,99,100,101,102,103,104,105,106,107,108,109,110,111,112,113,114,115,116,117,118,119,120,121,122,48,49,50,51,52,53,54,55,56,57]⟩
def Xv:tB:=⟨#[93,94,45]⟩
def pG(o:Nat->Int)(x:Int):Int:=if x= -1 then -1 else o x.toNat
def Bw(o:Nat->Int)(nx:Nat->Nat->Int)(s t k:Nat):Bool:=decide (∀g,g<k->pG o (nx s g)=pG o (nx t g))
def iS(o:Nat->Int)(tk:Nat->Nat)(nx:Nat->Nat->Int)(K s t:Nat):Bool:=decide (o s=o t)&&(decide (tk s=tk t)&&Bw o nx s t K)
def gW(q:Nat->Nat->Bool)(aN:List Nat)(s:Nat):Nat->Nat
 | 0=>aN.length
 | d+1=>if q (aN.getD (aN.length-(d+1)) 0) s=true then aN.length-(d+1)else gW q aN s d
def kH(q:Nat->Nat->Bool):Nat->Nat->List Nat->List Nat->List Nat×List Nat
 | 0,_,aK,aN=>(aK,aN)
 | d+1,s,aK,aN=>
  if gW q aN s aN.length=aN.length then
   if 100<aN.length+1 then(aK,aN++[s])else kH q d (s+1) (aK++[aN.length]) (aN++[s])
  else kH q d (s+1) (aK++[gW q aN s aN.length]) aN
def iY(l:List Nat):Nat->Int:=λ i=>((l.getD i 0:Nat):Int)
def kX(n:Nat)(q:Nat->Nat->Bool):List Nat×List Nat:=kH q n 0 [] []
def tQ(n:Nat)(tk:Nat->Nat)(nx:Nat->Nat->Int)(K:Nat):Nat->List Nat->Nat->Option (List Nat×List Nat)
 | 0,_,_=>none
 | f+1,bA,count=>
  if 100<(kX n (iS (iY bA) tk nx K)).2.length then none
  else if(kX n (iS (iY bA) tk nx K)).2.length=count then some (kX n (iS (iY bA) tk nx K))
  else tQ n tk nx K f (kX n (iS (iY bA) tk nx K)).1 (kX n (iS (iY bA) tk nx K)).2.length
def nW(tk:Nat->Nat)(nx:Nat->Nat->Int)(K:Nat)(aK aN:List Nat):List (Nat×List Int):=aN.map λ s=>(tk s,(NQ K).map λ g=>pG (iY aK) (nx s g))
theorem tF(q:Nat->Nat->Bool)(aN:List Nat)(s:Nat):∀d,gW q aN s d<=aN.length:=by
 intro d;induction d with
 | zero=>exact lR
 | succ k ih=>
  rw[gW];split
  ·omega
  ·exact ih
theorem Ho(q:Nat->Nat->Bool):∀d s aK aN,(kH q d s aK aN).2.length<=aN.length+d/\(kH q d s aK aN).1.length<=aK.length+d:=by
 intro d;induction d with
 | zero=>intro s aK aN;simp[kH]
 | succ k ih=>
  intro s aK aN;rw[kH];split
  ·split
   ·simp
   ·have:=ih (s+1) (aK++[aN.length]) (aN++[s]);simp at this⊢;omega
  ·have:=ih (s+1) (aK++[gW q aN s aN.length]) aN;simp at this⊢;omega
open Go.RowKit
structure Wd(w:tW)(top g n K:Nat)(zb:Nat->Nat)(tk:Nat->Nat)(nx:Nat->Nat->Int):Prop where
 tkc:∀s,s<n->w.cell? ⟨g,s*2,none⟩=some (.int .i64 (tk s))
 nxc:∀s,s<n->w.cell? ⟨g,s*2+1,none⟩=some (.slice (some ⟨zb s,0,none⟩) K K)
 ldc:∀s k,s<n->k<K->w.cell? ⟨zb s,k,none⟩=some (.int .i64 (nx s k))
 bg:g<top
 bz:∀s,s<n->zb s<top
theorem Wd.below{w w':tW}{zb tk:Nat->Nat}{nx:Nat->Nat->Int}(h:Wd w top g n K zb tk nx)(C:Below B w w')(D:top<=B):Wd w' top g n K zb tk nx:=
 ⟨λ s o=>(C.cell (p:=⟨g,s*2,none⟩) (LH h.bg D)).trans (h.tkc s o),λ s o=>(C.cell (p:=⟨g,s*2+1,none⟩) (LH h.bg D)).trans (h.nxc s o),
  λ s k o F=>(C.cell (p:=⟨zb s,k,none⟩) (LH (h.bz s o) D)).trans (h.ldc s k o F),h.bg,h.bz⟩
theorem Wd.drewN{w:tW}{zb tk:Nat->Nat}{nx:Nat->Nat->Int}(h:Wd w top g n K zb tk nx)(q:Nat):Wd (w.drewN q) top g n K zb tk nx:=⟨h.tkc,h.nxc,h.ldc,h.bg,h.bz⟩
def P9(w:tW)(g n:Nat)(f:Nat->Int):Prop:=∀i,i<n->w.cell? ⟨g,i,none⟩=some (.int .i64 (f i))
theorem P9.below{w w':tW}{f:Nat->Int}(h:P9 w g n f)(o:Below B w w')(C:g<B):P9 w' g n f:=λ i hi=>(o.cell (p:=⟨g,i,none⟩) C).trans (h i hi)
theorem P9.of_row{w:tW}{aH e aJ:Nat}(h:w.ownsRow aH e 1 (.slice (some ⟨g,0,none⟩) l.length aJ) l.length (pA l)):P9 w g l.length (iY l):=λ i hi=>by
 have o:=h.cells rfl i (.int .i64 (iY l i)) (by
  unfold pA iY;rw[NZ,LM hi,LY,LM hi];rfl)
 by_cases C:i=0
 ·subst C;simpa[Addr.add]using o
 ·simpa[Addr.add,C]using o
theorem EI{o:Nat->Int}{nx:Nat->Nat->Int}{s t K g:Nat}(hg:g<K)(h:pG o (nx s g)≠pG o (nx t g)):Bw o nx s t K=false:=by
 unfold Bw;rw[aF];intro q;exact h (q g hg)
theorem BD{o:Nat->Int}{nx:Nat->Nat->Int}(h:∀g,g<K->pG o (nx s g)=pG o (nx t g)):Bw o nx s t K=true:=by
 unfold Bw;rw[aE];exact h
theorem D8(h:∀x∈l,x<n){i:Nat}(hi:i<l.length):l.getD i 0<n:=by
 rw[LY,LM hi];exact h _ (List.getElem_mem hi)
theorem D0{q:Nat->Nat->Bool}{l:List Nat}{s f d:Nat}(o:f+(d+1)=l.length):gW q l s (d+1)=if q (l.getD f 0) s=true then f else gW q l s d:=by
 rw[gW,show l.length-(d+1)=f by omega]
end Go.Stn
namespace Go.Proofs.YtgjgjgihceijnaaGreat
open Go.RowKit Go.Stn
variable {B p q aH e size g n aJ m top rb:Nat}
theorem D6(l:List (Int×Int×Int)):Stn.mB l l=true:=by unfold Stn.mB;simp
def KB(B p q:Nat)(w:tW)(cs:List wV)(bc:Nat->List tV)(e:Ending)(w':tW):Prop:=
 e=.returned (.bool true)/\∃O' C D o F,PI B p w' O' C D o q F/\C.length=cs.length/\(∀f,f<=4->o f=bc f)/\(o 5).length=(bc 5).length+1/\(o 6).length=(bc 5).length+1/\Below B w w'
theorem Xz{w:tW}{O:Nat->Nat}{cs:List wV}{vb:Nat->tV}{bc:Nat->List tV}{T:Nat->List (Int×Int×Int)}(h:PI B p w O cs vb bc q T){j:Nat}{t:wV}(hj:cs[j]?=some t)(aI:tB)
  (bN:(bc 5).length=(bc 6).length) (bK:(bc 5).length<=3000000) (hq:q<=(bc 5).length):
  QX LF 62 #[.pointer (some ⟨B,0,none⟩),.agg #[.pointer (some ⟨t.cb,0,none⟩),.pointer (some ⟨t.rb,0,none⟩)],.string aI] w (KB B p q w cs bc):=by
 have hS:=h.wt.2;have cN:QP (Bl w (w.alloc (.cells #[.pointer (some ⟨t.cb,0,none⟩),.pointer (some ⟨t.rb,0,none⟩)] 96))):=bR.alloc lR _;have x0:(w.alloc (.cells #[.pointer (some ⟨t.cb,0,none⟩),.pointer (some ⟨t.rb,0,none⟩)] 96)).cell? ⟨w.heap.size,0,none⟩=some (.pointer (some ⟨t.cb,0,none⟩)):=(LK _ _ _ 0 rfl).trans rfl;have x1:(w.alloc (.cells #[.pointer (some ⟨t.cb,0,none⟩),.pointer (some ⟨t.rb,0,none⟩)] 96)).cell? ⟨w.heap.size,1,none⟩=some (.pointer (some ⟨t.rb,0,none⟩)):=(LK _ _ _ 1 rfl).trans rfl;have hC:w.heap.size<(w.alloc (.cells #[.pointer (some ⟨t.cb,0,none⟩),.pointer (some ⟨t.rb,0,none⟩)] 96)).heap.size:=by simp
 have HP:=fV (h.below cN.o);have C:=fV (HP.o.cu j t hj);have HJ:=fV hj;have HQ:=fV hq;have hD:=fV bN;have eT:=fV bK;have hU:=(h.cu j t hj).ct.b0;have hT:=(h.cu j t hj).rf.b0;have bC:=C.o.ct.ok;have hM:=C.o.ct.sz;have bT:=C.o.ct.hc;have hV:=C.o.ne;clear h hj hq bN bK;go_enter func62,ntmps62;go_upto_region 1 with fail;generalize w.alloc (.cells #[.pointer (some ⟨t.cb,0,none⟩),.pointer (some ⟨t.rb,0,none⟩)] 96)=W at*;go_wp2_with fail;refine(JL (aI:=aI) C.o.ct).mono ?_;rintro e w1 ⟨vt,rfl,aR,aL,Q⟩;have aW:=Q.size;have y1:=(LJ (w:=W) (a:=⟨w.heap.size,1,none⟩) (Q.block w.heap.size hC (λ e=>by injection e;omega))).trans x1;have aO:=fV (C.o.rf.blocks (w':=w1) (λ k h1 h2=>Q.block k (by omega) (λ e=>by injection e;omega)) aW);have U:=fV aR;have Z:=fV aL;have I:=fV Q;have eS:QP (∀k,vt.ownBlock=some k->W.heap.size<=k):=λ k J=>(aR.lt k J).1
 clear aR aL Q x0 x1;obtain⟨va,vc,hG⟩:=gA U.o;subst hG;go_wp2_with fail;refine(Xw (aI:=aI) aO.o bC hM bT).mono ?_;rintro e w2 ⟨vm,rfl,aT,X,D⟩;have bS:=D.size;obtain⟨ma,mc,hR⟩:=gA aT;subst hR;have hB:=GT t.s aI t.c bC bT;have cP:=iH (w':=w2) U.o (λ k J=>D.block k (U.o.lt k J).2 (λ e=>by injection e with e;have:=(U.o.lt k J).1;omega));have Y:=Z.o.blocks (w':=w2) (λ k h1 h2=>D.block k (by omega) (λ e=>by injection e with e;have:=C.o.rf.b1;omega)) bS;have eL:=HP.o.swap (w':=w2) (t':= {t with c:=IJ t.s aI t.c}) HJ.o rfl (LS aW bS) (λ k J h0 h1=>by
  have a1:=C.o.o1 t.cb C.o.ct.b1 lR;have a2:=C.o.o2 t.rb C.o.rf.b1.2.2 lR;exact(D.block k (by omega) (λ e=>by injection e with e;subst e;exact h1 a2)).trans (I.o.block k J (λ e=>by injection e with e;subst e;exact h1 a1))) ⟨Y,X,C.o.o1,C.o.o2,C.o.ne⟩ ⟨rfl,rfl⟩
 have hK:=fV eL;have eO:=fV cP;have eR:=fV aT;have eM:QP (∀z,QX LF 12 #[.slice va (Io t.s aI t.c).length vc,.slice ma (Io t.s aI t.c).length mc] (w2.drewN z) λ e w'=>e=.returned (.bool true)/\∃y,w'=(w2.drewN z).drewN y):=λ z=>by
  have:=Q0 (Io t.s aI t.c) (Io t.s aI t.c) _ _ w2.heap.size w2.heap.size (w2.drewN z) (by omega) (by omega) ⟨(mZ eO.o).sh⟩ ⟨(mZ eR.o).sh⟩;rw[D6]at this;exact this
 have hJ:QP (Below B w w2):=by
  have l1:=C.o.ct.b1;have l2:=C.o.rf.b1;obtain⟨l3,l4⟩:=HP.o.cl j t HJ.o;have a1:Below B W w1:=⟨I.o.os,I.o.tape,I.o.output,I.o.size,λ k J=>I.o.block k (by omega) (λ e=>by injection e with e;omega)⟩
  have a2:Below B w1 w2:=⟨D.os,D.tape,D.output,D.size,λ k J=>D.block k (by omega) (λ e=>by injection e with e;omega)⟩
  exact((cN.o.mono (MB hS)).trans a1).trans a2
 clear cP Y eL aT X D y1 I Z aO U eR;have hE:((CX aI)==(CX aI))=true:=by simp
 have gL:=fV hB;have hI:QP (∀k,(LG va (Io t.s aI t.c).length vc).ownBlock=some k->O k=0):=λ k J=>HP.o.fr k (eS.o k J)
 obtain⟨N,eN⟩:=xE ((Io t.s aI t.c).length)
 rw[eN]at eM;go_wp2_with (first
  | (go_at_call 9;refine(F4 (CX aI) _).mono ?_;rintro e w3 ⟨rfl,bO⟩;rw[bO];clear bO)
  | (go_at_call 12;refine(eM.o 0).mono ?_;rintro e w4 ⟨rfl,ny,eX⟩))
 have cF:(w2.drewN ny).ownsRow (B+1) 79 3 (.slice va N vc) (Io t.s aI t.c).length (hZ (Io t.s aI t.c)):=by
  have:=oX eO.o (base':=B+1) (by omega);rw[<-eN];exact this
 have bM:∀k,(LG va N vc).ownBlock=some k->O k=0:=λ k J=>hI.o k (by rw[eN];exact J)
 refine(T5 (hK.o.draw ny) cF bM gL.o hD.o eT.o HQ.o).mono ?_;rintro e w5 ⟨rfl,O5,hH,hN,V,hF,hP,hA,F,_⟩;have hQ:QP (Below B w w5):=hJ.o.trans ⟨F.os,F.tape,F.output,F.size,F.block⟩;have hL:=fV V;clear V F cF bM eX;go_wp2;go_ret;exact⟨rfl,O5,_,hH,hN,_,hL.o,by rw[PA],hF,hP,hA,hQ.o⟩
theorem Xj(c:Int)(n:Nat)(I:JF c)(U:0<n)(Q:n<=5000000)(w:tW):
  QX LF 61 #[.int .i64 c,.int .i64 (n:Int)] w λ e w'=>e=.returned (.int .i64 (Y7 c n:Int))/\w'=w:=by
 obtain⟨J,F⟩:=I;by_cases h:c<0
 ·obtain⟨k,D⟩:∃k:Nat,c= -(k:Int)-1:=⟨(-(c+1)).toNat,by omega⟩
  subst D;have C:QP (Y7 (-(k:Int)-1) n=k%n):=by
   unfold QP Y7;rw[aB h];congr 1;omega
  have d:decide (-(k:Int)-1<0)=true:=by simp;omega
  clear h;go_enter func61,ntmps61;go_wp2;go_ret;exact⟨by rw[C.o];simp,rfl⟩
 ·obtain⟨k,rfl⟩:∃k:Nat,c=(k:Int):=⟨c.toNat,by omega⟩
  have C:QP (Y7 (k:Int) n=k%n):=by
   unfold QP Y7;rw[aA h,NC]
  have d:decide ((k:Int)<0)=false:=by simp
  clear h;go_enter func61,ntmps61;go_wp2;go_ret;exact⟨by rw[C.o];simp,rfl⟩
section
def Xu(X:tW):tV->tV
 | .pointer (some a)=> .agg #[(X.cell? ⟨a.block,a.off,none⟩).getD undef,(X.cell? ⟨a.block,a.off+1,none⟩).getD undef]
 | _=>undef
def Ax(X:tW)(v:tV):Prop:=∃B o x y,v=.pointer (some ⟨B,o,none⟩)/\X.cell? ⟨B,o,none⟩=some x/\X.cell? ⟨B,o+1,none⟩=some y
theorem Az{X:tW}{o:Nat}{x y:tV}(D:X.cell? ⟨B,o,none⟩=some x)(C:X.cell? ⟨B,o+1,none⟩=some y):Xu X (.pointer (some ⟨B,o,none⟩))=.agg #[x,y]:=by
 unfold Xu;simp[D,C]
theorem fT:(Tryz.prog.info? 96).map (λ i=>i.size)=some 2:=by kernel_rfl
theorem dK{d:Option Tmp}{x:Operand}{ty:TypeId}{p:String}{J:Array Edge}{gd:Option (Nat×Bool)}{a:Act}{X:tW}{K:Act->tW->Prop}{Q:Exit->Act->tW->Prop}
  (h:Ax X (a.eval x)):
  Oper.wp LF {dst:=d,op:= .load 96 x,type:=ty,pos:=p,after:=J,guard:=gd} a X K Q=K (a.put d (Xu X (a.eval x))) X:=by
 obtain⟨B,o,u,v,I,F,D⟩:=h;have V:X.rangeAt B o [u,v]:=λ i z C=>by
  rcases i with _|_|i
  ·simp at C;subst C;exact F
  ·simp at C;subst C;exact D
  ·simp at C
 have U:=QV (P:=LF) X B o 96 [u,v] _ V underlying96 rfl fT;unfold Oper.wp execOp;simp only[I,Instr.loadAt,Instr.sureAddr,Sem.run_bind,Sem.run_pure,Result.andThen_ok,U,Az F D]
 rfl
attribute [local go_sem ↓] Go.wp_at_zero Go.wp_at_succ dK
end
theorem Zr(w:tW)(ty:TypeId)(aH:Nat)(v:tV)(n:Nat)(xs:List tV)(D:w.ownsRow aH 79 3 v n xs)
  (Y:Addr) (c:Nat) (o:List tV) (hl:o.length=3) (F:∀j u,o[j]?=some u->w.cell? (Y.add j)=some u) (h1:∀u∈o,u.oneCell'=true) (hn:n<=2000) (V:aH<=w.heap.size):
  ∃g aJ w',(Builtin.append_ #[29,29] ty #[v,.slice (some Y) 1 c]).run LF w=.ok (.slice (some ⟨g,0,none⟩) (n+1) aJ) w'/\
   w'.ownsRow aH 79 3 (.slice (some ⟨g,0,none⟩) (n+1) aJ) (n+1) (xs++o)/\w.grownBy w' v.ownBlock/\(v.ownBlock=some g\/(g=w.heap.size/\w.grownBy w' none))/\g<w'.heap.size:=by
 obtain⟨i,hi,hz,C,aO⟩:=QT cH;obtain⟨g,aJ,w',hr,h2,h3,h4,h5⟩:=run_append_lies (P:=LF) w 29 ty aH 79 i _ 3 24 OB hi hz C aO rfl (by decide) v n xs D Y 1 c o (by omega) F h1 (by omega) (by unfold QW;omega) (by omega) V w.heap.size rfl;refine⟨g,aJ,w',hr,h2,h3,?_,h5⟩;rcases h4 with h4|h4
 ·exact .inl h4
 ·right;refine⟨h4,?_⟩;rcases D.2 with⟨rfl,rfl⟩|⟨X,I,aL,rfl,bK,hg,bC,aW,aR,aT⟩
  ·exact h3
  ·have bM:X<w.heap.size:=(D.lt X rfl).2;by_cases U:n+1<=I
   ·exfalso;have Z:n*i.size+o.length<=aL.size:=by rw[hl,aR,C];omega
    have J:=run_append_room (P:=LF) w 29 ty 79 i OB hi X n I aL hg Y 1 c o (by rw[hl,C]) F h1 U Z;rw[hr]at J;injection J with e1 e2;injection e1 with e3 e4;injection e3 with e5;injection e5 with e6;omega
   ·have Q:∀j u,xs[j]?=some u->w.cell? ((⟨X,0,none⟩:Addr).add j)=some u:=D.cells (g:=X) rfl;have J:=run_append_grow (P:=LF) w 29 ty 79 i _ OB hi hz ⟨X,0,none⟩ n I xs (by rw[C];exact D.1) Q Y 1 c o (by rw[hl,C]) F (by omega) (by omega) (growslice_fits (by omega) (by rw[aO];omega));rw[hr]at J;injection J with e1 e2;rw[e2];exact⟨rfl,rfl,rfl,by simp,λ k hk _=>MC w.drew _ k hk⟩
theorem C5(w:tW){ops:Array Oper}{rest:List Oper}{o:Oper}{a:Act}{Q:Exit->Act->tW->Prop}(V:o.guard=none)(s x:Operand)
  (ho:o.op=.call {callee:= .builtin .append,args:= #[s,x],argTypes:= #[29,29]})
  (aH:Nat) (v:tV) (n:Nat) (xs:List tV) (hs:a.eval s=v) (J:w.ownsRow aH 79 3 v n xs) (D C F:tV) (h0:D.oneCell'=true) (h1:C.oneCell'=true) (h2:F.oneCell'=true)
  (hx:a.eval x=.slice (some ⟨w.heap.size,0,none⟩) 1 1) (hn:n<=2000) (U:aH<=w.heap.size)
  (h:∀g aJ w',w'.ownsRow aH 79 3 (.slice (some ⟨g,0,none⟩) (n+1) aJ) (n+1) (xs++[D,C,F])->(w.alloc (.cells #[D,C,F] 79)).grownBy w' v.ownBlock->(v.ownBlock=some g\/(g=w.heap.size+1/\(w.alloc (.cells #[D,C,F] 79)).grownBy w' none))->g<w'.heap.size->
   wpList LF ops Q rest (a.put o.dst (.slice (some ⟨g,0,none⟩) (n+1) aJ)) w'):wpList LF ops Q (o::rest) a (w.alloc (.cells #[D,C,F] 79)):=by
 have I:∀j u,[D,C,F][j]?=some u->(w.alloc (.cells #[D,C,F] 79)).cell? ((⟨w.heap.size,0,none⟩:Addr).add j)=some u:=by
  have:=World.news_of_block (w:=w.alloc (.cells #[D,C,F] 79)) (B:=w.heap.size) (cs:= #[D,C,F]) (t:=79) (fr:=(0,0)) (heap_alloc_new w _);simpa using this
 obtain⟨g,aJ,w',hr,k2,k3,k4,k5⟩:=Zr (w.alloc (.cells #[D,C,F] 79)) o.type aH v n xs (J.alloc _) ⟨w.heap.size,0,none⟩ 1 [D,C,F] rfl I (by intro u X;simp only[List.mem_cons,OV,or_false]at X;rcases X with rfl|rfl|rfl;exact h0;exact h1;exact h2) hn (by simp;omega);refine wpList_plain V λ K Y=>?_
 unfold Oper.wp execOp;simp only[ho,resolve,invoke,builtin,Sem.run_bind,Sem.run_pure,Result.andThen_ok,OX,PE,PH,hs,hx,hr];refine Y _ _ (h g aJ w' k2 k3 ?_ k5);rcases k4 with e|⟨e,Z⟩
 ·exact .inl e
 ·exact .inr ⟨e.trans (by simp),Z⟩
section
variable {B p q:Nat}{w w':tW}{O O':Nat->Nat}{cs:List wV}{vb:Nat->tV}{bc:Nat->List tV}{T:Nat->List (Int×Int×Int)}
theorem Cf{w:tW}{xs:List tV}(h:w.ownsRow aH e size (.slice (some ⟨g,0,none⟩) n aJ) n xs)(i:Nat)(u:tV):(w.setCell ⟨g,i,none⟩ u).ownsRow aH e size (.slice (some ⟨g,0,none⟩) n aJ) n (xs.set i u):=by
 refine⟨by rw[PA];exact h.1,?_⟩;rcases h.2 with⟨U,_⟩|⟨X,Q,D,V,J,hg,F,o,I,C⟩
 ·cases U
 ·cases V
  refine .inr ⟨g,aJ,D.setIfInBounds i u,rfl,J,?_,F,o,by rw[Array.size_setIfInBounds];exact I,?_⟩
  ·unfold MD;simp only[Array.getElem?_modify,hg];simp
  ·rw[Array.toList_setIfInBounds,List.take_set,C]
theorem PI.free(h:PI B p w O cs vb bc q T){j:Nat}(Y:j<q):PI B p w (λ k=>if O k=17+4*j then 0 else O k) cs vb bc q T:=by
 have e:∀k,O k≠17+4*j->(if O k=17+4*j then 0 else O k)=O k:=λ k C=>aA C
 obtain⟨Q,X⟩:=h.wt;exact⟨h.wb,h.wz,⟨(e B (by omega)).trans Q,X⟩,h.b0,h.bk,λ f k J C=>(e k (by have:=h.bt f k J C;omega)).trans (h.bt f k J C),
  λ f i v U V hi F=>(h.mm f i v U V hi F).keep lR (λ k _ I=>⟨rfl,e k (by omega)⟩),
  λ D v o F=>(h.wa D v o F).keep (λ k _ I=>⟨rfl,e k (by omega)⟩),λ D v o F=>(h.we D v o F).keep (λ k _ I=>⟨rfl,e k (by omega)⟩),
  λ D t o=>(h.cu D t o).keep lR (λ k _ I=>⟨rfl,e k (by omega)⟩),λ k C=>(by have:=h.fr k C;simp only[this];simp),h.cl⟩
theorem PI.later(h:PI B p w O cs vb bc q T){C:Nat}(F:q<=C):PI B p w O cs vb bc C T:=
 ⟨h.wb,h.wz,h.wt,h.b0,h.bk,h.bt,h.mm,λ j v D o=>h.wa j v (by omega) o,λ j v D o=>h.we j v (by omega) o,h.cu,h.fr,h.cl⟩
theorem PI.raise(h:PI B p w O cs vb bc q T)(F:∀f v,1<=f->f<=4->(bc f)[p]?=some v->MK w O p v):PI B (p+1) w O cs vb bc q T:=
 ⟨h.wb,h.wz,h.wt,h.b0,h.bk,h.bt,λ f i v C D hi o=>by
  by_cases e:i=p
  ·subst e;exact F f v C D o
  ·exact h.mm f i v C D (by omega) o,h.wa,h.we,h.cu,h.fr,h.cl⟩
def MX(p n:Nat)(xs:List tV):Prop:=∀k,k<n->xs[k*3]?=some (.int .i64 (-9))/\xs[k*3+1]?=some (.int .i64 (p:Int))/\xs[k*3+2]?=some (.int .i64 (-9))
theorem MX.set{xs:List tV}(h:MX p n xs)(C:n*3+2<xs.length):MX p (n+1) (((xs.set (n*3) (.int .i64 (-9))).set (n*3+1) (.int .i64 (p:Int))).set (n*3+2) (.int .i64 (-9))):=by
 intro k o;by_cases e:k=n
 ·subst e;refine⟨?_,?_,?_⟩
  ·rw[LR (by omega),LR (by omega),ND (by omega)]
  ·rw[LR (by omega),ND (by simp;omega)]
  ·rw[ND (by simp;omega)]
 ·obtain⟨a,b,c⟩:=h k (by omega);refine⟨?_,?_,?_⟩
  ·rw[LR (by omega),LR (by omega),LR (by omega)];exact a
  ·rw[LR (by omega),LR (by omega),LR (by omega)];exact b
  ·rw[LR (by omega),LR (by omega),LR (by omega)];exact c
theorem MX.app{xs:List tV}(h:MX p n xs)(C:xs.length=n*3):MX p (n+1) (xs++[.int .i64 (-9),.int .i64 (p:Int),.int .i64 (-9)]):=by
 intro k o;by_cases e:k=n
 ·subst e;refine⟨?_,?_,?_⟩
  ·rw[MF (by omega),show k*3-xs.length=0 by omega];rfl
  ·rw[MF (by omega),show k*3+1-xs.length=1 by omega];rfl
  ·rw[MF (by omega),show k*3+2-xs.length=2 by omega];rfl
 ·obtain⟨a,b,c⟩:=h k (by omega);refine⟨?_,?_,?_⟩
  ·rw[MQ (by omega)];exact a
  ·rw[MQ (by omega)];exact b
  ·rw[MQ (by omega)];exact c
def FB(w:tW)(S:Nat->Prop)(p m:Nat)(v:tV):Prop:=
 ∃a n aJ,v=.slice a n aJ/\n<=m/\(0<n->∃g,a=some ⟨g,0,none⟩/\g<w.heap.size/\S g/\
  ∀k,k<n->w.cell? ⟨g,k*3,none⟩=some (.int .i64 (-9))/\w.cell? ⟨g,k*3+1,none⟩=some (.int .i64 (p:Int))/\w.cell? ⟨g,k*3+2,none⟩=some (.int .i64 (-9)))
theorem Mq{w:tW}{xs:List tV}(h:w.ownsRow aH 79 3 (.slice (some ⟨g,0,none⟩) n aJ) n xs){m:Nat}(D:MX p m xs):∀k,k<m->w.cell? ⟨g,k*3,none⟩=some (.int .i64 (-9))/\w.cell? ⟨g,k*3+1,none⟩=some (.int .i64 (p:Int))/\w.cell? ⟨g,k*3+2,none⟩=some (.int .i64 (-9)):=λ k C=>by
 obtain⟨a,b,c⟩:=D k C;have o:∀i,(⟨g,0,none⟩:Addr).add i=⟨g,i,none⟩:=λ i=>by unfold Addr.add;split<;>simp_all
 have x:=h.cells rfl _ _ a;have y:=h.cells rfl _ _ b;have z:=h.cells rfl _ _ c;rw[o]at x y z;exact⟨x,y,z⟩
theorem FB.of{w:tW}{v:tV}{xs:List tV}(h:w.ownsRow aH 79 3 v n xs)(F:MX p n xs):FB w (λ k=>v.ownBlock=some k) p n v:=by
 obtain⟨a,aJ,e⟩:=gA h;refine⟨a,n,aJ,e,lR,λ D=>?_⟩;obtain⟨g,o,I,_,hg⟩:=h.form D;subst I;injection e with C Q J;subst C;exact⟨g,rfl,hg,rfl,Mq h F⟩
theorem FB.more{S S':Nat->Prop}{o:Nat}{v:tV}(h:FB w S p m v)(C:∀k,S k->S' k)(V:m<=o):FB w S' p o v:=by
 obtain⟨a,n,aJ,e,U,F⟩:=h;exact⟨a,n,aJ,e,by omega,λ D=>by obtain⟨g,Q,hg,I,J⟩:=F D;exact⟨g,Q,hg,C g I,J⟩⟩
theorem FB.keep{S:Nat->Prop}{v:tV}(h:FB w S p m v)(F:w.heap.size<=w'.heap.size)(U:∀k,k<w.heap.size->S k->w'.heap[k]?=w.heap[k]?):FB w' S p m v:=by
 obtain⟨a,n,aJ,e,I,J⟩:=h;refine⟨a,n,aJ,e,I,λ D=>?_⟩;obtain⟨g,X,hg,C,V⟩:=J D;have o:=U g hg C;refine⟨g,X,LH hg F,C,λ k Q=>?_⟩;obtain⟨x,y,z⟩:=V k Q;exact⟨(LJ (w:=w) (a:=⟨g,k*3,none⟩) o).trans x,(LJ (w:=w) (a:=⟨g,k*3+1,none⟩) o).trans y,(LJ (w:=w) (a:=⟨g,k*3+2,none⟩) o).trans z⟩
theorem FB.app{S:Nat->Prop}{v x:tV}{o:Obj}{xs:List tV}(h:FB w S p m v)(aL:m<=n)(I:(w.alloc o).grownBy w' x.ownBlock)(C:x.ownBlock=some g\/(g=w.heap.size+1/\(w.alloc o).grownBy w' none))
  (J:w'.ownsRow aH 79 3 (.slice (some ⟨g,0,none⟩) n aJ) n xs) (hm:MX p n xs):FB w' S p m v:=by
 have hz:=I.size;have ez:(w.alloc o).heap.size=w.heap.size+1:=by simp
 rcases C with C|⟨_,C⟩
 ·obtain⟨a,k0,F,e,Y,Z⟩:=h;refine⟨a,k0,F,e,Y,λ X=>?_⟩;obtain⟨D,ea,hg,hs,hc⟩:=Z X;refine⟨D,ea,by omega,hs,λ k U=>?_⟩;by_cases V:D=g
  ·subst V;exact Mq J hm k (by omega)
  ·have Q:w'.heap[D]?=w.heap[D]? :=(I.block D (by omega) (λ e=>V (by rw[C]at e;injection e))).trans (MC w o D hg);obtain⟨x,y,z⟩:=hc k U;exact⟨(LJ (w:=w) (a:=⟨D,k*3,none⟩) Q).trans x,(LJ (w:=w) (a:=⟨D,k*3+1,none⟩) Q).trans y,(LJ (w:=w) (a:=⟨D,k*3+2,none⟩) Q).trans z⟩
 ·exact h.keep (by omega) (λ k U _=>(C.block k (by omega) (by simp)).trans (MC w o k U))
structure OW(w0:tW)(B p q:Nat)(w:tW)(O:Nat->Nat)(cs:List wV)(vb:Nat->tV)(bc:Nat->List tV)(T:Nat->List (Int×Int×Int)):Prop where
 pi:PI B p w O cs vb bc q T
 m0:w.cell? ⟨w0.heap.size,0,none⟩=some (.int .i64 (-9))
 m1:w.cell? ⟨w0.heap.size,1,none⟩=some (.int .i64 (p:Int))
 m2:w.cell? ⟨w0.heap.size,2,none⟩=some (.int .i64 (-9))
 bl:Below B w0 w
 lt:w0.heap.size<w.heap.size
 lo:B<w0.heap.size
 fo:O w0.heap.size=0
theorem OW.keep{w0:tW}(h:OW w0 B p q w O cs vb bc T)(J:w'.os=w.os)(I:w'.tape=w.tape)(C:w'.output=w.output)(Q:w.heap.size<=w'.heap.size)(D:∀k,k<w.heap.size->(O k≠0\/k=w0.heap.size\/k<B)->w'.heap[k]?=w.heap[k]?):OW w0 B p q w' O cs vb bc T:=by
 have V:=h.lt;have F:=D w0.heap.size h.lt (.inr (.inl rfl));have lo:=h.lo;exact⟨h.pi.keep Q (λ k o U=>⟨D k o (.inl U),rfl⟩) (λ k o=>h.pi.fr k (by omega)),(LJ (w:=w) (a:=⟨w0.heap.size,0,none⟩) F).trans h.m0,(LJ (w:=w) (a:=⟨w0.heap.size,1,none⟩) F).trans h.m1,(LJ (w:=w) (a:=⟨w0.heap.size,2,none⟩) F).trans h.m2,
  ⟨J.trans h.bl.os,I.trans h.bl.tape,C.trans h.bl.output,LS h.bl.size Q,λ k o=>(D k (by omega) (.inr (.inr o))).trans (h.bl.block k o)⟩,by omega,lo,h.fo⟩
theorem OW.app{w0:tW}{x:tV}{o:Obj}(h:OW w0 B p q w O cs vb bc T)(I:∀k,x.ownBlock=some k->O k=0/\k≠w0.heap.size/\B<=k)(C:(w.alloc o).grownBy w' x.ownBlock):OW w0 B p q w' O cs vb bc T:=by
 have Q:=C.size;have J:(w.alloc o).heap.size=w.heap.size+1:=by simp
 refine h.keep C.os C.tape C.output (by omega) (λ k F D=>(C.block k (by omega) (λ e=>?_)).trans (MC w o k F));obtain⟨a,b,c⟩:=I k e.symm;rcases D with D|D|D
 ·exact D a
 ·exact b D
 ·omega
theorem OW.push{w0:tW}(h:OW w0 B p q w O cs vb bc T){f:Nat}(h1:1<=f)(h2:f<=4){w4:tW}{o:Obj}{g aJ n:Nat}{v vf:tV}
  (hn:(bc f).length=n) (hp:p<=n) (V:vb f=vf) (U:w4.ownsRow (B+1) 29 1 (.slice (some ⟨g,0,none⟩) (n+1) aJ) (n+1) (bc f++[v]))
  (F:(w.alloc o).grownBy w4 vf.ownBlock) (Q:vf.ownBlock=some g\/g=w.heap.size+1):
  OW w0 B p q (w4.setCell ⟨B,f,none⟩ (.slice (some ⟨g,0,none⟩) (n+1) aJ)) (λ k=>if k=g then 2+f else O k) cs (U7 vb f (.slice (some ⟨g,0,none⟩) (n+1) aJ)) (U7 bc f (bc f++[v])) T/\
  ∀k,k<w.heap.size->O k=0->(w4.setCell ⟨B,f,none⟩ (.slice (some ⟨g,0,none⟩) (n+1) aJ)).heap[k]?=w.heap[k]? /\(if k=g then 2+f else O k)=0:=by
 have aL:=h.pi.push' (f:=f) h1 (by omega) hn V U F Q (λ _ hh=>absurd hh (by omega)) (λ e=>absurd e (by omega)) (λ e=>absurd e (by omega));have lt:=h.lt;have lo:=h.lo;have hz:=F.size;have ez:(w.alloc o).heap.size=w.heap.size+1:=by simp
 have I:∀k,vf.ownBlock=some k->O k=2+f/\B+1<=k:=λ k D=>by
  subst V;exact⟨h.pi.bt f k (by omega) D,(h.pi.own (f:=f) (by omega) D).1⟩
 have aR:=h.pi.wt;have C:∀k,k<w.heap.size->k≠B->vf.ownBlock≠some k->(w4.setCell ⟨B,f,none⟩ (.slice (some ⟨g,0,none⟩) (n+1) aJ)).heap[k]?=w.heap[k]? :=λ k D Z aO=>(iC w4 B f _ Z).trans ((F.block k (by omega) (λ e=>aO e.symm)).trans (MC w o k D))
 have J:∀k,k<w.heap.size->O k=0->k≠g:=λ k D X e=>by
  rcases Q with e2|e2
  ·have:=(I g e2).1;rw[<-e]at this;omega
  ·omega
 have Y:=C w0.heap.size lt (by omega) (λ e=>by have:=(I _ e).1;have:=h.fo;omega);refine⟨⟨aL,(LJ (w:=w) (a:=⟨w0.heap.size,0,none⟩) Y).trans h.m0,(LJ (w:=w) (a:=⟨w0.heap.size,1,none⟩) Y).trans h.m1,(LJ (w:=w) (a:=⟨w0.heap.size,2,none⟩) Y).trans h.m2,?_,?_,lo,?_⟩,λ k D X=>⟨C k D (λ e=>by rw[e]at X;omega) (λ e=>by have:=(I _ e).1;omega),?_⟩⟩
 ·exact(h.bl.trans (yV F (λ k D=>by have:=(I k D).2;omega) (by omega))).setCell (p:=⟨B,f,none⟩) lR _
 ·have:(w4.setCell ⟨B,f,none⟩ (.slice (some ⟨g,0,none⟩) (n+1) aJ)).heap.size=w4.heap.size:=by simp[MD]
  omega
 ·simp only[aA (J _ lt h.fo)];exact h.fo
 ·simp only[aA (J k D X)];exact X
end
theorem zU{w:tW}{xs:List tV}(h:w.ownsRow aH e size (.slice (some ⟨g,0,none⟩) n aJ) n xs)(i:Nat):w.frozen? ⟨g,i,none⟩=false:=by
 rcases h.2 with⟨C,_⟩|⟨J,o,D,F,I,hg,_⟩
 ·cases C
 ·cases F
  unfold World.frozen?;simp only[hg];simp
theorem OW.aK{w0:tW}{w:tW}{O:Nat->Nat}{cs:List wV}{vb:Nat->tV}{bc:Nat->List tV}{T:Nat->List (Int×Int×Int)}(h:OW w0 B p q w O cs vb bc T){v1 v2 v3 v4:tV}{S:Nat->Prop}
  (D:∀k,S k->v1.ownBlock=some k\/v2.ownBlock=some k\/v3.ownBlock=some k\/v4.ownBlock=some k) (o:∀k,(v1.ownBlock=some k\/v2.ownBlock=some k\/v3.ownBlock=some k\/v4.ownBlock=some k)->O k=0/\k<w.heap.size)
  (Y:∀f v,1<=f->f<=4->(bc f)[p]?=some v->FB w S p 2000 v):∃O',PI B (p+1) w O' cs vb bc q T:=by
 refine⟨λ k=>if(v1.ownBlock=some k\/v2.ownBlock=some k\/v3.ownBlock=some k\/v4.ownBlock=some k)then 16+4*p else O k,?_⟩;refine(h.pi.keep (O':=λ k=>if(v1.ownBlock=some k\/v2.ownBlock=some k\/v3.ownBlock=some k\/v4.ownBlock=some k)then 16+4*p else O k) lR (λ k _ C=>⟨rfl,aA (λ e=>C (o k e).1)⟩) (λ k Q=>?_)).raise (λ f v J U X=>?_)
 ·have:¬(v1.ownBlock=some k\/v2.ownBlock=some k\/v3.ownBlock=some k\/v4.ownBlock=some k):=λ e=>by have:=(o k e).2;omega
  simp only[aA this];exact h.pi.fr k Q
 ·obtain⟨a,n,aJ,e,I,C⟩:=Y f v J U X;refine⟨a,n,aJ,e,I,λ F=>?_⟩;obtain⟨g,ea,hg,V,Z⟩:=C F;exact⟨g,ea,hg,aB (D g V),Z⟩
def KG(B p q:Nat)(w:tW)(cs:List wV)(bc:Nat->List tV)(T:Nat->List (Int×Int×Int))(e:Ending)(w':tW):Prop:=
 e=.returned (.tuple #[])/\∃O' C o,PI B (p+1) w' O' cs C o q T/\(∀f,1<=f->f<=4->(o f).length=p+1)/\o 5=bc 5/\o 6=bc 6/\Below B w w'
theorem s8{w:tW}{O:Nat->Nat}{cs:List wV}{vb:Nat->tV}{bc:Nat->List tV}{T:Nat->List (Int×Int×Int)}(h:PI B p w O cs vb bc q T){v:tV}{L:List (Int×Int×Int)}{j:Nat}
  (hv:w.ownsRow (B+1) 79 3 v L.length (hZ L)) (b6:∀k,v.ownBlock=some k->O k=17+4*j) (hj:j<q) (hL:L.length<=1000) (rO:∀f,1<=f->f<=4->(bc f).length=p) (t0:p<=3000000):
  QX LF 63 #[.pointer (some ⟨B,0,none⟩),v] w (KG B p q w cs bc T):=by
 have o1:=h.wt.2;have o2:=h.fr w.heap.size lR;obtain⟨O0,eO⟩:∃O0:Nat->Nat,O0=λ k=>if O k=17+4*j then 0 else O k:=⟨_,rfl⟩
 have N0:QP (∀k,v.ownBlock=some k->O0 k=0/\k≠w.heap.size/\B<=k):=λ k C=>by
  have:=hv.lt k C;refine⟨?_,by omega,by omega⟩;rw[eO];exact aB (b6 k C)
 have k0:O0 w.heap.size=0:=by rw[eO];simp only[o2];simp
 have h0:=h.free hj;rw[<-eO]at h0;have j5:=h0.bk 1 (by omega) (by omega);have c1:=h0.wb 1 (by omega);obtain⟨a1,k1,e1⟩:=gA j5;rw[rO 1 (by omega) (by omega)]at e1;rw[e1]at c1;have h8:Bl w (w.alloc (.cells #[.int .i64 (-9),.int .i64 (p:Int),.int .i64 (-9)] 79)):=bR.alloc lR _;have f5:QP (OW w B p q (w.alloc (.cells #[.int .i64 (-9),.int .i64 (p:Int),.int .i64 (-9)] 79)) O0 cs vb bc T):=
  ⟨h0.below h8,(LK _ _ _ 0 rfl).trans rfl,(LK _ _ _ 1 rfl).trans rfl,(LK _ _ _ 2 rfl).trans rfl,h8.mono (MB o1),by simp,o1,k0⟩
 have W7:=fV (hv.alloc (.cells #[.int .i64 (-9),.int .i64 (p:Int),.int .i64 (-9)] 79));have bO:=fV rO;have g0:=fV e1;obtain⟨va,vc,k4⟩:=gA hv;obtain⟨n,en⟩:=xE (L.length)
 rw[en]at W7 k4 hL;subst k4;clear h b6 o2 eO h0 j5 hv h8 rO e1 k0 en;go_enter func63,ntmps63;go_upto_region 1 with fail;generalize w.alloc (.cells #[.int .i64 (-9),.int .i64 (p:Int),.int .i64 (-9)] 79)=W1 at*;clear c1;go_upto_block 0 with fail
 go_cut [5] from 15 to 24 (λ _ wc=>∃xs,OW w B p q wc O0 cs vb bc T/\wc.ownsRow (B+1) 79 3 (.slice va n vc) n xs/\MX p n xs)
 case first=>
  go_wp2_with fail
  go_loopw [5] (λ ii wr=>∃(k:Nat)(xs:List tV),k<=n/\ii=.int .i64 (k:Int)/\OW w B p q wr O0 cs vb bc T/\wr.ownsRow (B+1) 79 3 (.slice va n vc) n xs/\MX p k xs) (λ ii _=>n-(QO ii).toNat)
  case atStart=>exact⟨0,_,zL,rfl,f5.o,W7.o,λ k C=>absurd C (by omega)⟩
  case round=>
   obtain⟨k,xs,C,rfl,P0,W0,M2⟩:=hrel;have HW:=fV P0;have HR:=fV W0;have HM:=fV M2;clear P0 W0 M2 f5 W7;by_cases o4:k<n
   ·obtain⟨g,r7,ev,_,t4⟩:=HR.o.form (by omega);injection ev with e1 e2 e3;subst e1;have t3:=iI k n (by omega)
    have m0:=HW.o.m0;have m1:=HW.o.m1;have m2:=HW.o.m2;have v5:=HR.o.1;obtain⟨u0,i5⟩:∃u,xs[k*3]?=some u:=⟨_,LM (by omega)⟩
    obtain⟨u1,j0⟩:∃u,xs[k*3+1]?=some u:=⟨_,LM (by omega)⟩
    obtain⟨u2,j2⟩:∃u,xs[k*3+2]?=some u:=⟨_,LM (by omega)⟩
    have Go:∀i,(⟨g,0,none⟩:Addr).add i=⟨g,i,none⟩:=λ i=>by unfold Addr.add;split<;>simp_all
    have x0:=HR.o.cells rfl _ _ i5;have x1:=HR.o.cells rfl _ _ j0;have x2:=HR.o.cells rfl _ _ j2;rw[Go]at x0 x1 x2;have y0:=zU HR.o (k*3);have y1:=zU HR.o (k*3+1);have y2:=zU HR.o (k*3+2);have p6:=fV (Cf (Cf (Cf HR.o (k*3) (.int .i64 (-9))) (k*3+1) (.int .i64 (p:Int))) (k*3+2) (.int .i64 (-9)));have i2:=fV (HM.o.set (by omega));clear Go i5 j0 j2 e2 e3;have p0:QP (OW w B p q (((wr.setCell ⟨g,k*3,none⟩ (.int .i64 (-9))).setCell ⟨g,k*3+1,none⟩ (.int .i64 (p:Int))).setCell ⟨g,k*3+2,none⟩ (.int .i64 (-9))) O0 cs vb bc T):=by
     obtain⟨f1,f2,f3⟩:=N0.o g rfl;refine HW.o.keep rfl rfl rfl (by simp[MD]) (λ i hi hc=>?_);have f4:i≠g:=λ e=>by
      subst e;rcases hc with hc|hc|hc
      ·exact hc f1
      ·exact f2 hc
      ·omega
     rw[iC _ g _ _ f4,iC _ g _ _ f4,iC _ g _ _ f4]
    go_wp2;go_roundw
    case rel=>exact⟨k+1,_,o4,by go_num,p0.o,p6.o,i2.o⟩
    case measure=>simp[QO];omega
   ·have dk:=dF k n (by omega)
    have i2:QP (MX p n xs):=λ i hi=>HM.o i (by omega)
    go_wp2;go_meet
    case rel=>exact⟨xs,HW.o,HR.o,i2.o⟩
 case rest=>
  obtain⟨xs,P0,W0,M2⟩:=hcut;have HW:=fV P0;have HR:=fV W0;have HM:=fV M2;clear P0 W0 M2 f5 W7;have v9:=HW.o.lt;have c1:=HW.o.pi.wb 1 (by omega);have f1:=HW.o.pi.wz 1;have rT:=fV (HW.o.pi.bk 1 (by omega) (by omega));rw[g0.o]at c1 rT;rw[bO.o 1 (by omega) (by omega)]at rT;have f6:QP (∀k,(LG a1 p k1).ownBlock=some k->B+1<=k):=λ k C=>(rT.o.lt k C).1
  go_upto_region 6 with(first
   | (at_builtin;refine gB wc rfl (.tmp 29) (.tmp 31) 89 rfl (B+1) 29 (.slice none 0 0) 1 24 MR cM rfl (by decide) (by decide) (.slice a1 p k1) p (bc 1) [.slice va n vc] _ rfl rT.o _ rfl rfl rfl (by simp[LZ]) (by omega) (by omega) ?_;intro g5 A1 w5 H4 cF b1 r8;have m5:=((gH cF (k:=B) (show B<wc.heap.size by omega) (λ e=>by have:=f6.o B e.symm;omega)).1 1).trans c1;have n5:=((gH cF (k:=B) (show B<wc.heap.size by omega) (λ e=>by have:=f6.o B e.symm;omega)).2 1).trans f1;have j4:=fV H4;have n7:=fV cF;have j1:=fV b1;clear H4 cF b1))
  obtain⟨g2,h5⟩:=HW.o.push (f:=1) (by omega) (by omega) (bO.o 1 (by omega) (by omega)) lR g0.o j4.o n7.o j1.o;obtain⟨O5,h6⟩:∃O5:Nat->Nat,O5=λ k=>if k=g5 then 2+1 else O0 k:=⟨_,rfl⟩
  rw[<-h6]at g2;have m3:=iH (w':=w5.setCell ⟨B,1,none⟩ (.slice (some ⟨g5,0,none⟩) (p+1) A1)) HR.o (λ k C=>(h5 k (HR.o.lt k C).2 (N0.o k C).1).1);have d0:∀k,(LG va n vc).ownBlock=some k->O5 k=0/\k≠w.heap.size/\B<=k:=λ k C=>⟨by rw[h6];exact(h5 k (HR.o.lt k C).2 (N0.o k C).1).2,(N0.o k C).2⟩
  have hH:=fV g2;have rL:=fV m3;have hW:=fV d0;clear g2 m3 d0 h5 h6 c1 f1 m5 n5 j4 n7 j1 rT f6 HR N0 HW g0;generalize w5.setCell ⟨B,1,none⟩ (.slice (some ⟨g5,0,none⟩) (p+1) A1)=W5 at*;have m0:=hH.o.m0;have m1:=hH.o.m1;have m2:=hH.o.m2;have w3:=hH.o.lt;go_upto_region 7 with(first
   | (at_builtin;refine C5 W5 rfl (.tmp 35) (.tmp 37) rfl (B+1) (.slice va n vc) n (xs) rfl rL.o (.int .i64 (-9)) (.int .i64 (p:Int)) (.int .i64 (-9)) rfl rfl rfl rfl (by omega) (by omega) ?_;intro g6 D w6 H2 hQ a4 s5;have qR:=fV H2;have W4:=fV hQ;have i3:=fV a4;clear H2 hQ a4))
  have X2:=fV (HM.o.app rL.o.1);have hF:=fV (hH.o.app hW.o W4.o);have hU:QP (∀k,(LG (some ⟨g6,0,none⟩) (n+1) D).ownBlock=some k->O5 k=0/\k≠w.heap.size/\B<=k):=λ k C=>by
   have ek:g6=k:=by simpa[LN]using C
   subst ek;rcases i3.o with e|⟨e,_⟩
   ·exact hW.o _ e
   ·exact⟨hH.o.pi.fr _ (by omega),by omega,by omega⟩
  have b0:=fV ((FB.of rL.o HM.o).app (by omega) W4.o i3.o qR.o X2.o);have p2:=hF.o.m0;have r4:=hF.o.m1;have q7:=hF.o.m2;have t6:=hF.o.lt;have l1:QP (W5.heap.size<=w6.heap.size):=by have:=W4.o.size;simp at this;unfold QP;omega
  clear m0 m1 m2 W4 i3;go_upto_region 8 with(first
   | (at_builtin;refine C5 w6 rfl (.tmp 39) (.tmp 41) rfl (B+1) (.slice (some ⟨g6,0,none⟩) (n+1) D) (n+1) (xs++[.int .i64 (-9),.int .i64 (p:Int),.int .i64 (-9)]) rfl qR.o (.int .i64 (-9)) (.int .i64 (p:Int)) (.int .i64 (-9)) rfl rfl rfl rfl (by omega) (by omega) ?_;intro g7 J w7 T3 hV b5 s1;have hN:=fV T3;have H0:=fV hV;have W8:=fV b5;clear T3 hV b5))
  have O8:=fV (X2.o.app qR.o.1);have hG:=fV (hF.o.app hU.o H0.o);have hX:QP (∀k,(LG (some ⟨g7,0,none⟩) ((n+1)+1) J).ownBlock=some k->O5 k=0/\k≠w.heap.size/\B<=k):=λ k C=>by
   have ek:g7=k:=by simpa[LN]using C
   subst ek;rcases W8.o with e|⟨e,_⟩
   ·exact hU.o _ e
   ·exact⟨hF.o.pi.fr _ (by omega),by omega,by omega⟩
  have a2:=fV (b0.o.app (by omega) H0.o W8.o hN.o O8.o);have W3:=fV ((FB.of qR.o X2.o).app (by omega) H0.o W8.o hN.o O8.o);have q0:=hG.o.m0;have o3:=hG.o.m1;have p3:=hG.o.m2;have v0:=hG.o.lt;have m7:QP (w6.heap.size<=w7.heap.size):=by have:=H0.o.size;simp at this;unfold QP;omega
  clear p2 r4 q7 H0 W8;go_upto_region 9 with(first
   | (at_builtin;refine C5 w7 rfl (.tmp 43) (.tmp 45) rfl (B+1) (.slice (some ⟨g7,0,none⟩) ((n+1)+1) J) (n+1+1) (xs++[.int .i64 (-9),.int .i64 (p:Int),.int .i64 (-9)]++[.int .i64 (-9),.int .i64 (p:Int),.int .i64 (-9)]) rfl hN.o (.int .i64 (-9)) (.int .i64 (p:Int)) (.int .i64 (-9)) rfl rfl rfl rfl (by omega) (by omega) ?_;intro g8 V w8 sW hP a7 r6;have nL:=fV sW;have iN:=fV hP;have A3:=fV a7;clear sW hP a7))
  have A2:=fV (O8.o.app hN.o.1);have cP:=fV (hG.o.app hX.o iN.o);have c3:QP (∀k,(LG (some ⟨g8,0,none⟩) ((n+1+1)+1) V).ownBlock=some k->O5 k=0/\k≠w.heap.size/\B<=k):=λ k C=>by
   have ek:g8=k:=by simpa[LN]using C
   subst ek;rcases A3.o with e|⟨e,_⟩
   ·exact hX.o _ e
   ·exact⟨hG.o.pi.fr _ (by omega),by omega,by omega⟩
  have o0:=fV (a2.o.app (by omega) iN.o A3.o nL.o A2.o);have g3:=fV (W3.o.app (by omega) iN.o A3.o nL.o A2.o);have d2:=fV ((FB.of hN.o O8.o).app (by omega) iN.o A3.o nL.o A2.o);have r5:=cP.o.m0;have r0:=cP.o.m1;have p1:=cP.o.m2;have t5:=cP.o.lt;have H6:QP (w7.heap.size<=w8.heap.size):=by have:=iN.o.size;simp at this;unfold QP;omega
  have B1:QP (w6.heap.size<=w8.heap.size):=LS m7.o H6.o;have c5:QP (W5.heap.size<=w8.heap.size):=LS l1.o B1.o;clear q0 o3 p3 iN A3;have i1:=fV (FB.of nL.o A2.o);obtain⟨r3,a3⟩:∃x:Nat->tV,x=U7 vb 1 (.slice (some ⟨g5,0,none⟩) (p+1) A1):=⟨_,rfl⟩
  obtain⟨nN,hY⟩:∃x:Nat->List tV,x=U7 bc 1 (bc 1++[.slice va n vc]):=⟨_,rfl⟩
  rw[<-a3,<-hY]at cP;have S2:QP (∀f,f≠1->nN f=bc f):=λ f hf=>by rw[hY];exact gZ _ _ hf
  have gL:QP (nN 1=bc 1++[.slice va n vc]):=by unfold QP;rw[hY,iX]
  have aL:QP (∀k,(LG va n vc).ownBlock=some k->O5 k=0/\k<w8.heap.size):=λ k C=>⟨(hW.o k C).1,LH (rL.o.lt k C).2 c5.o⟩
  have X:QP (∀k,(LG (some ⟨g6,0,none⟩) (n+1) D).ownBlock=some k->O5 k=0/\k<w8.heap.size):=λ k C=>⟨(hU.o k C).1,LH (qR.o.lt k C).2 B1.o⟩
  have Z:QP (∀k,(LG (some ⟨g7,0,none⟩) (n+1+1) J).ownBlock=some k->O5 k=0/\k<w8.heap.size):=λ k C=>⟨(hX.o k C).1,LH (hN.o.lt k C).2 H6.o⟩
  have Y:QP (∀k,(LG (some ⟨g8,0,none⟩) (n+1+1+1) V).ownBlock=some k->O5 k=0/\k<w8.heap.size):=λ k C=>⟨(c3.o k C).1,(nL.o.lt k C).2⟩
  clear a3 hY r5 r0 p1 hW hU hX c3 rL qR hN nL HM X2 O8 A2 hH hF hG b0 a2 W3 c5 B1 H6;have H5:=cP.o.pi.bk 2 (by omega) (by omega);have c9:=cP.o.pi.wb 2 (by omega);have f9:=cP.o.pi.wz 2;obtain⟨a9,k9,e9⟩:=gA H5;have l9:(nN 2).length=p:=by rw[S2.o 2 (by omega)];exact bO.o 2 (by omega) (by omega)
  rw[l9]at e9 H5;rw[e9]at c9 H5;have f8:=fV H5;have m4:=fV e9;have k7:=fV l9;have H1:QP (∀k,(LG a9 p k9).ownBlock=some k->B+1<=k):=λ k C=>(f8.o.lt k C).1
  have s3:=cP.o.lt;clear H5 e9 l9;go_upto_region 10 with(first
   | (at_builtin;refine gB w8 rfl (.tmp 51) (.tmp 53) 89 rfl (B+1) 29 (.slice none 0 0) 1 24 MR cM rfl (by decide) (by decide) (.slice a9 p k9) p (nN 2) [.slice (some ⟨g6,0,none⟩) (n+1) D] _ rfl f8.o _ rfl rfl rfl (by simp[LZ]) (by omega) (by omega) ?_;intro g9 aT w9 H3 cN c7 s2;have m9:=((gH cN (k:=B) (show B<w8.heap.size by omega) (λ e=>by have:=H1.o B e.symm;omega)).1 2).trans c9;have n9:=((gH cN (k:=B) (show B<w8.heap.size by omega) (λ e=>by have:=H1.o B e.symm;omega)).2 2).trans f9;have n3:=fV H3;have e4:=fV cN;have l3:=fV c7;clear H3 cN c7))
  obtain⟨d3,l2⟩:=cP.o.push (f:=2) (by omega) (by omega) k7.o lR m4.o n3.o e4.o l3.o;obtain⟨O9,e6⟩:∃x:Nat->Nat,x=λ k=>if k=g9 then 2+2 else O5 k:=⟨_,rfl⟩
  obtain⟨p4,c8⟩:∃x:Nat->tV,x=U7 r3 2 (.slice (some ⟨g9,0,none⟩) (p+1) aT):=⟨_,rfl⟩
  obtain⟨hE,hA⟩:∃x:Nat->List tV,x=U7 nN 2 (nN 2++[.slice (some ⟨g6,0,none⟩) (n+1) D]):=⟨_,rfl⟩
  rw[<-e6,<-c8,<-hA]at d3;have eT:QP (∀k,k<w8.heap.size->O5 k=0->(w9.setCell ⟨B,2,none⟩ (.slice (some ⟨g9,0,none⟩) (p+1) aT)).heap[k]?=w8.heap[k]? /\O9 k=0):=λ k F I=>by rw[e6];exact l2 k F I
  have lH:=fV d3;have eX:QP (w8.heap.size<=(w9.setCell ⟨B,2,none⟩ (.slice (some ⟨g9,0,none⟩) (p+1) aT)).heap.size):=by
   have F:=e4.o.size;have I:(w8.alloc (.cells #[.slice (some ⟨g6,0,none⟩) (n+1) D] 29)).heap.size=w8.heap.size+1:=by simp
   have h3:(w9.setCell ⟨B,2,none⟩ (.slice (some ⟨g9,0,none⟩) (p+1) aT)).heap.size=w9.heap.size:=by simp[MD]
   unfold QP;have h4:w8.heap.size+1<=w9.heap.size:=by rw[<-I];exact F
   omega
  have k2:=fV (o0.o.keep eX.o (λ k F I=>(eT.o k F (aL.o k I).1).1));have m6:=fV (g3.o.keep eX.o (λ k F I=>(eT.o k F (X.o k I).1).1));have k3:=fV (d2.o.keep eX.o (λ k F I=>(eT.o k F (Z.o k I).1).1));have j3:=fV (i1.o.keep eX.o (λ k F I=>(eT.o k F (Y.o k I).1).1));replace aL:QP (∀k,(LG va n vc).ownBlock=some k->O9 k=0/\k<(w9.setCell ⟨B,2,none⟩ (.slice (some ⟨g9,0,none⟩) (p+1) aT)).heap.size):=λ k C=>⟨(eT.o k (aL.o k C).2 (aL.o k C).1).2,LH (aL.o k C).2 eX.o⟩
  replace X:QP (∀k,(LG (some ⟨g6,0,none⟩) (n+1) D).ownBlock=some k->O9 k=0/\k<(w9.setCell ⟨B,2,none⟩ (.slice (some ⟨g9,0,none⟩) (p+1) aT)).heap.size):=λ k C=>⟨(eT.o k (X.o k C).2 (X.o k C).1).2,LH (X.o k C).2 eX.o⟩
  replace Z:QP (∀k,(LG (some ⟨g7,0,none⟩) (n+1+1) J).ownBlock=some k->O9 k=0/\k<(w9.setCell ⟨B,2,none⟩ (.slice (some ⟨g9,0,none⟩) (p+1) aT)).heap.size):=λ k C=>⟨(eT.o k (Z.o k C).2 (Z.o k C).1).2,LH (Z.o k C).2 eX.o⟩
  replace Y:QP (∀k,(LG (some ⟨g8,0,none⟩) (n+1+1+1) V).ownBlock=some k->O9 k=0/\k<(w9.setCell ⟨B,2,none⟩ (.slice (some ⟨g9,0,none⟩) (p+1) aT)).heap.size):=λ k C=>⟨(eT.o k (Y.o k C).2 (Y.o k C).1).2,LH (Y.o k C).2 eX.o⟩
  have sR:QP (∀f,f≠1->f≠2->hE f=bc f):=λ f F I=>by rw[hA,gZ _ _ I];exact S2.o f F
  replace gL:QP (hE 1=bc 1++[.slice va n vc]):=by unfold QP;rw[hA,gZ _ _ (by omega)];exact gL.o
  have qL:QP (hE 2=bc 2++[.slice (some ⟨g6,0,none⟩) (n+1) D]):=by unfold QP;rw[hA,iX,S2.o 2 (by omega)]
  clear d3 l2 e6 c8 hA c9 f9 m9 n9 n3 e4 l3 f8 m4 k7 H1 eT eX cP;generalize w9.setCell ⟨B,2,none⟩ (.slice (some ⟨g9,0,none⟩) (p+1) aT)=W9 at*;have hB:=lH.o.pi.bk 3 (by omega) (by omega);have e5:=lH.o.pi.wb 3 (by omega);have k5:=lH.o.pi.wz 3;obtain⟨m8,n4,X0⟩:=gA hB;have i4:(hE 3).length=p:=by rw[sR.o 3 (by omega) (by omega)];exact bO.o 3 (by omega) (by omega)
  rw[i4]at X0 hB;rw[X0]at e5 hB;have O3:=fV hB;have a6:=fV X0;have b3:=fV i4;have hI:QP (∀k,(LG m8 p n4).ownBlock=some k->B+1<=k):=λ k C=>(O3.o.lt k C).1
  have q3:=lH.o.lt;clear hB X0 i4;go_upto_region 11 with(first
   | (at_builtin;refine gB W9 rfl (.tmp 61) (.tmp 63) 89 rfl (B+1) 29 (.slice none 0 0) 1 24 MR cM rfl (by decide) (by decide) (.slice m8 p n4) p (hE 3) [.slice (some ⟨g7,0,none⟩) (n+1+1) J] _ rfl O3.o _ rfl rfl rfl (by simp[LZ]) (by omega) (by omega) ?_;intro eL U eN hT bC N1 q6;have q4:=((gH bC (k:=B) (show B<W9.heap.size by omega) (λ e=>by have:=hI.o B e.symm;omega)).1 3).trans e5;have r2:=((gH bC (k:=B) (show B<W9.heap.size by omega) (λ e=>by have:=hI.o B e.symm;omega)).2 3).trans k5;have a8:=fV hT;have O7:=fV bC;have b4:=fV N1;clear hT bC N1))
  obtain⟨S5,Pl⟩:=lH.o.push (f:=3) (by omega) (by omega) b3.o lR a6.o a8.o O7.o b4.o;obtain⟨hM,O6⟩:∃x:Nat->Nat,x=λ k=>if k=eL then 2+3 else O9 k:=⟨_,rfl⟩
  obtain⟨n6,L1⟩:∃x:Nat->tV,x=U7 p4 3 (.slice (some ⟨eL,0,none⟩) (p+1) U):=⟨_,rfl⟩
  obtain⟨bT,bS⟩:∃x:Nat->List tV,x=U7 hE 3 (hE 3++[.slice (some ⟨g7,0,none⟩) (n+1+1) J]):=⟨_,rfl⟩
  rw[<-O6,<-L1,<-bS]at S5;have aR:QP (∀k,k<W9.heap.size->O9 k=0->(eN.setCell ⟨B,3,none⟩ (.slice (some ⟨eL,0,none⟩) (p+1) U)).heap[k]?=W9.heap[k]? /\hM k=0):=λ k F I=>by rw[O6];exact Pl k F I
  have eS:=fV S5;have aW:QP (W9.heap.size<=(eN.setCell ⟨B,3,none⟩ (.slice (some ⟨eL,0,none⟩) (p+1) U)).heap.size):=by
   have F:=O7.o.size;have I:(W9.alloc (.cells #[.slice (some ⟨g7,0,none⟩) (n+1+1) J] 29)).heap.size=W9.heap.size+1:=by simp
   have h3:(eN.setCell ⟨B,3,none⟩ (.slice (some ⟨eL,0,none⟩) (p+1) U)).heap.size=eN.heap.size:=by simp[MD]
   unfold QP;have h4:W9.heap.size+1<=eN.heap.size:=by rw[<-I];exact F
   omega
  have d6:=fV (k2.o.keep aW.o (λ k F I=>(aR.o k F (aL.o k I).1).1));have d4:=fV (m6.o.keep aW.o (λ k F I=>(aR.o k F (X.o k I).1).1));have d5:=fV (k3.o.keep aW.o (λ k F I=>(aR.o k F (Z.o k I).1).1));have f0:=fV (j3.o.keep aW.o (λ k F I=>(aR.o k F (Y.o k I).1).1));replace aL:QP (∀k,(LG va n vc).ownBlock=some k->hM k=0/\k<(eN.setCell ⟨B,3,none⟩ (.slice (some ⟨eL,0,none⟩) (p+1) U)).heap.size):=λ k C=>⟨(aR.o k (aL.o k C).2 (aL.o k C).1).2,LH (aL.o k C).2 aW.o⟩
  replace X:QP (∀k,(LG (some ⟨g6,0,none⟩) (n+1) D).ownBlock=some k->hM k=0/\k<(eN.setCell ⟨B,3,none⟩ (.slice (some ⟨eL,0,none⟩) (p+1) U)).heap.size):=λ k C=>⟨(aR.o k (X.o k C).2 (X.o k C).1).2,LH (X.o k C).2 aW.o⟩
  replace Z:QP (∀k,(LG (some ⟨g7,0,none⟩) (n+1+1) J).ownBlock=some k->hM k=0/\k<(eN.setCell ⟨B,3,none⟩ (.slice (some ⟨eL,0,none⟩) (p+1) U)).heap.size):=λ k C=>⟨(aR.o k (Z.o k C).2 (Z.o k C).1).2,LH (Z.o k C).2 aW.o⟩
  replace Y:QP (∀k,(LG (some ⟨g8,0,none⟩) (n+1+1+1) V).ownBlock=some k->hM k=0/\k<(eN.setCell ⟨B,3,none⟩ (.slice (some ⟨eL,0,none⟩) (p+1) U)).heap.size):=λ k C=>⟨(aR.o k (Y.o k C).2 (Y.o k C).1).2,LH (Y.o k C).2 aW.o⟩
  have hJ:QP (∀f,f≠1->f≠2->f≠3->bT f=bc f):=λ f F I h3=>by rw[bS,gZ _ _ h3];exact sR.o f F I
  replace gL:QP (bT 1=bc 1++[.slice va n vc]):=by unfold QP;rw[bS,gZ _ _ (by omega)];exact gL.o
  replace qL:QP (bT 2=bc 2++[.slice (some ⟨g6,0,none⟩) (n+1) D]):=by unfold QP;rw[bS,gZ _ _ (by omega)];exact qL.o
  have hR:QP (bT 3=bc 3++[.slice (some ⟨g7,0,none⟩) (n+1+1) J]):=by unfold QP;rw[bS,iX,sR.o 3 (by omega) (by omega)]
  clear S5 Pl O6 L1 bS e5 k5 q4 r2 a8 O7 b4 O3 a6 b3 hI aR aW lH;generalize eN.setCell ⟨B,3,none⟩ (.slice (some ⟨eL,0,none⟩) (p+1) U)=W10 at*;have hD:=eS.o.pi.bk 4 (by omega) (by omega);have d1:=eS.o.pi.wb 4 (by omega);have k6:=eS.o.pi.wz 4;obtain⟨n8,l4,X1⟩:=gA hD;have h9:(bT 4).length=p:=by rw[hJ.o 4 (by omega) (by omega) (by omega)];exact bO.o 4 (by omega) (by omega)
  rw[h9]at X1 hD;rw[X1]at d1 hD;have A0:=fV hD;have a5:=fV X1;have Ha:=fV h9;have hK:QP (∀k,(LG n8 p l4).ownBlock=some k->B+1<=k):=λ k C=>(A0.o.lt k C).1
  have r1:=eS.o.lt;clear hD X1 h9;go_wp2_with (first
   | (at_builtin;refine gB W10 rfl (.tmp 71) (.tmp 73) 89 rfl (B+1) 29 (.slice none 0 0) 1 24 MR cM rfl (by decide) (by decide) (.slice n8 p l4) p (bT 4) [.slice (some ⟨g8,0,none⟩) (n+1+1+1) V] _ rfl A0.o _ rfl rfl rfl (by simp[LZ]) (by omega) (by omega) ?_;intro eM Q eR hS bK B2 q1;have p5:=((gH bK (k:=B) (show B<W10.heap.size by omega) (λ e=>by have:=hK.o B e.symm;omega)).1 4).trans d1;have q5:=((gH bK (k:=B) (show B<W10.heap.size by omega) (λ e=>by have:=hK.o B e.symm;omega)).2 4).trans k6;have c4:=fV hS;have tO:=fV bK;have c6:=fV B2;clear hS bK B2))
  obtain⟨E6,Hb⟩:=eS.o.push (f:=4) (by omega) (by omega) Ha.o lR a5.o c4.o tO.o c6.o;obtain⟨tT,tL⟩:∃x:Nat->Nat,x=λ k=>if k=eM then 2+4 else hM k:=⟨_,rfl⟩
  obtain⟨s0,T2⟩:∃x:Nat->tV,x=U7 n6 4 (.slice (some ⟨eM,0,none⟩) (p+1) Q):=⟨_,rfl⟩
  obtain⟨hC,aO⟩:∃x:Nat->List tV,x=U7 bT 4 (bT 4++[.slice (some ⟨g8,0,none⟩) (n+1+1+1) V]):=⟨_,rfl⟩
  rw[<-tL,<-T2,<-aO]at E6;have bN:QP (∀k,k<W10.heap.size->hM k=0->(eR.setCell ⟨B,4,none⟩ (.slice (some ⟨eM,0,none⟩) (p+1) Q)).heap[k]?=W10.heap[k]? /\tT k=0):=λ k F I=>by rw[tL];exact Hb k F I
  have c2:=fV E6;have bM:QP (W10.heap.size<=(eR.setCell ⟨B,4,none⟩ (.slice (some ⟨eM,0,none⟩) (p+1) Q)).heap.size):=by
   have F:=tO.o.size;have I:(W10.alloc (.cells #[.slice (some ⟨g8,0,none⟩) (n+1+1+1) V] 29)).heap.size=W10.heap.size+1:=by simp
   have h3:(eR.setCell ⟨B,4,none⟩ (.slice (some ⟨eM,0,none⟩) (p+1) Q)).heap.size=eR.heap.size:=by simp[MD]
   unfold QP;have h4:W10.heap.size+1<=eR.heap.size:=by rw[<-I];exact F
   omega
  have e0:=fV (d6.o.keep bM.o (λ k F I=>(bN.o k F (aL.o k I).1).1));have g1:=fV (d4.o.keep bM.o (λ k F I=>(bN.o k F (X.o k I).1).1));have e7:=fV (d5.o.keep bM.o (λ k F I=>(bN.o k F (Z.o k I).1).1));have h7:=fV (f0.o.keep bM.o (λ k F I=>(bN.o k F (Y.o k I).1).1));replace aL:QP (∀k,(LG va n vc).ownBlock=some k->tT k=0/\k<(eR.setCell ⟨B,4,none⟩ (.slice (some ⟨eM,0,none⟩) (p+1) Q)).heap.size):=λ k C=>⟨(bN.o k (aL.o k C).2 (aL.o k C).1).2,LH (aL.o k C).2 bM.o⟩
  replace X:QP (∀k,(LG (some ⟨g6,0,none⟩) (n+1) D).ownBlock=some k->tT k=0/\k<(eR.setCell ⟨B,4,none⟩ (.slice (some ⟨eM,0,none⟩) (p+1) Q)).heap.size):=λ k C=>⟨(bN.o k (X.o k C).2 (X.o k C).1).2,LH (X.o k C).2 bM.o⟩
  replace Z:QP (∀k,(LG (some ⟨g7,0,none⟩) (n+1+1) J).ownBlock=some k->tT k=0/\k<(eR.setCell ⟨B,4,none⟩ (.slice (some ⟨eM,0,none⟩) (p+1) Q)).heap.size):=λ k C=>⟨(bN.o k (Z.o k C).2 (Z.o k C).1).2,LH (Z.o k C).2 bM.o⟩
  replace Y:QP (∀k,(LG (some ⟨g8,0,none⟩) (n+1+1+1) V).ownBlock=some k->tT k=0/\k<(eR.setCell ⟨B,4,none⟩ (.slice (some ⟨eM,0,none⟩) (p+1) Q)).heap.size):=λ k C=>⟨(bN.o k (Y.o k C).2 (Y.o k C).1).2,LH (Y.o k C).2 bM.o⟩
  have W2:QP (∀f,f≠1->f≠2->f≠3->f≠4->hC f=bc f):=λ f F I h3 h4=>by rw[aO,gZ _ _ h4];exact hJ.o f F I h3
  replace gL:QP (hC 1=bc 1++[.slice va n vc]):=by unfold QP;rw[aO,gZ _ _ (by omega)];exact gL.o
  replace qL:QP (hC 2=bc 2++[.slice (some ⟨g6,0,none⟩) (n+1) D]):=by unfold QP;rw[aO,gZ _ _ (by omega)];exact qL.o
  replace hR:QP (hC 3=bc 3++[.slice (some ⟨g7,0,none⟩) (n+1+1) J]):=by unfold QP;rw[aO,gZ _ _ (by omega)];exact hR.o
  have a0:QP (hC 4=bc 4++[.slice (some ⟨g8,0,none⟩) (n+1+1+1) V]):=by unfold QP;rw[aO,iX,hJ.o 4 (by omega) (by omega) (by omega)]
  clear E6 Hb tL T2 aO d1 k6 p5 q5 c4 tO c6 A0 a5 Ha hK bN bM eS;generalize eR.setCell ⟨B,4,none⟩ (.slice (some ⟨eM,0,none⟩) (p+1) Q)=W11 at*;refine bodyPost_ret (results_none rfl _ _ _) rfl ?_;have X4:∀(l:List tV)(u x:tV),l.length=p->(l++[u])[p]?=some x->x=u:=λ l u x hl hx=>by
   rw[MF (by omega),hl,PG]at hx;simpa using hx.symm
  have W6:∀(l:List tV)(u:tV),l.length=p->(l++[u]).length=p+1:=λ l u hl=>by rw[LO,hl];rfl
  obtain⟨O',q2⟩:=c2.o.aK (S:=λ k=>(LG va n vc).ownBlock=some k\/(LG (some ⟨g6,0,none⟩) (n+1) D).ownBlock=some k\/(LG (some ⟨g7,0,none⟩) (n+1+1) J).ownBlock=some k\/(LG (some ⟨g8,0,none⟩) (n+1+1+1) V).ownBlock=some k)
   (v1:= .slice va n vc) (v2:= .slice (some ⟨g6,0,none⟩) (n+1) D) (v3:= .slice (some ⟨g7,0,none⟩) (n+1+1) J) (v4:= .slice (some ⟨g8,0,none⟩) (n+1+1+1) V) (λ k C=>C) (λ k C=>by
    rcases C with e|e|e|e
    ·exact aL.o k e
    ·exact X.o k e
    ·exact Z.o k e
    ·exact Y.o k e) (λ f x F I hx=>by
    have hf:f=1\/f=2\/f=3\/f=4:=by omega
    rcases hf with rfl|rfl|rfl|rfl
    ·rw[gL.o]at hx;rw[X4 _ _ _ (bO.o 1 (by omega) (by omega)) hx];exact e0.o.more (λ k C=> .inl C) (by omega)
    ·rw[qL.o]at hx;rw[X4 _ _ _ (bO.o 2 (by omega) (by omega)) hx];exact g1.o.more (λ k C=> .inr (.inl C)) (by omega)
    ·rw[hR.o]at hx;rw[X4 _ _ _ (bO.o 3 (by omega) (by omega)) hx];exact e7.o.more (λ k C=> .inr (.inr (.inl C))) (by omega)
    ·rw[a0.o]at hx;rw[X4 _ _ _ (bO.o 4 (by omega) (by omega)) hx];exact h7.o.more (λ k C=> .inr (.inr (.inr C))) (by omega))
  refine⟨rfl,O',_,_,q2,λ f F I=>?_,W2.o 5 (by omega) (by omega) (by omega) (by omega),W2.o 6 (by omega) (by omega) (by omega) (by omega),c2.o.bl⟩;have hf:f=1\/f=2\/f=3\/f=4:=by omega
  rcases hf with rfl|rfl|rfl|rfl
  ·rw[gL.o];exact W6 _ _ (bO.o 1 (by omega) (by omega))
  ·rw[qL.o];exact W6 _ _ (bO.o 2 (by omega) (by omega))
  ·rw[hR.o];exact W6 _ _ (bO.o 3 (by omega) (by omega))
  ·rw[a0.o];exact W6 _ _ (bO.o 4 (by omega) (by omega))
theorem PI.clear{w:tW}{O:Nat->Nat}{cs:List wV}{vb:Nat->tV}{bc:Nat->List tV}{T:Nat->List (Int×Int×Int)}(h:PI B p w O cs vb bc q T){f:Nat}(hf:f=5\/f=6):
  PI B p (w.setCell ⟨B,f,none⟩ (.slice none 0 0)) O cs (U7 vb f (.slice none 0 0)) (U7 bc f []) q T:=by
 obtain⟨Y,b1⟩:=h.wt;have J:w.heap.size<=(w.setCell ⟨B,f,none⟩ (.slice none 0 0)).heap.size:=by simp[MD]
 have Q:∀k,k<w.heap.size->O k≠1->(w.setCell ⟨B,f,none⟩ (.slice none 0 0)).heap[k]?=w.heap[k]? /\O k=O k:=λ k _ Z=>⟨iC w B f _ (λ e=>Z (by rw[e];exact Y)),rfl⟩
 refine⟨λ f' D=>?_,λ i=>by rw[LU];exact h.wz i,⟨Y,LH b1 J⟩,?_,λ f' a1 V=>?_,λ f' k D F=>?_,λ f' i u a1 V X C=>?_,λ j u I C=>?_,λ j u I C=>?_,λ j t I=>(h.cu j t I).keep J (λ k o U=>Q k o (by omega)),λ k o=>h.fr k (LS J o),h.cl⟩
 ·by_cases e:f'=f
  ·subst e;rw[iX];exact MM _ _ _ (h.wb f' D)
  ·rw[gZ _ _ e,LP (h:=by intro e';injection e';omega)];exact h.wb f' D
 ·rw[gZ _ _ (by omega)];exact QN h.b0 (show B<B+1 by omega) _
 ·by_cases e:f'=f
  ·subst e;rw[iX,iX];exact MT _ _ _ _
  ·rw[gZ _ _ e,gZ _ _ e];exact QN (h.bk f' a1 V) (show B<B+1 by omega) _
 ·by_cases e:f'=f
  ·subst e;rw[iX]at F;simp[LN]at F
  ·rw[gZ _ _ e]at F;exact h.bt f' k D F
 ·rw[gZ _ _ (by omega)]at C;exact(h.mm f' i u a1 V X C).keep J (λ k o U=>Q k o (by omega))
 ·by_cases e:5=f
  ·subst e;rw[iX]at C;simp at C
  ·rw[gZ _ _ e]at C;exact(h.wa j u I C).keep (λ k o U=>Q k o (by omega))
 ·by_cases e:6=f
  ·subst e;rw[iX]at C;simp at C
  ·rw[gZ _ _ e]at C;exact(h.we j u I C).keep (λ k o U=>Q k o (by omega))
theorem PI.again{w:tW}{O:Nat->Nat}{cs:List wV}{vb:Nat->tV}{bc:Nat->List tV}{T:Nat->List (Int×Int×Int)}(h:PI B p w O cs vb bc q T)(D:bc 5=[])(C:bc 6=[]):PI B p w O cs vb bc 0 T:=
 ⟨h.wb,h.wz,h.wt,h.b0,h.bk,h.bt,h.mm,λ j v _ o=>by rw[D]at o;simp at o,λ j v _ o=>by rw[C]at o;simp at o,h.cu,h.fr,h.cl⟩
theorem Pa(l:List (Int×Int×Int)):mB l l=true:=by unfold mB;simp
def Zf(B p m:Nat)(w:tW)(cs:List wV)(T:Nat->List (Int×Int×Int))(e:Ending)(w':tW):Prop:=
 e=.returned (.bool true)/\∃O' C o,PI B (p+m) w' O' cs C o 0 T/\(∀f,1<=f->f<=4->(o f).length=p+m)/\o 5=[]/\o 6=[]/\Below B w w'
theorem Ac{w:tW}{O:Nat->Nat}{cs:List wV}{vb:Nat->tV}{bc:Nat->List tV}{T:Nat->List (Int×Int×Int)}(h:PI B p w O cs vb bc 0 T){m:Nat}
  (aR:∀f,1<=f->f<=4->(bc f).length=p) (h5:(bc 5).length=m) (h6:(bc 6).length=m) (hM:p+m<=3000000):
  QX LF 30 #[.pointer (some ⟨B,0,none⟩)] w (Zf B p m w cs T):=by
 have HH:=fV h;have hD:=fV aR;have H5:=fV h5;have H6:=fV h6;have D:=h.bk 5 (by omega) (by omega);have F:=h.bk 6 (by omega) (by omega);have c5:=h.wb 5 (by omega);have c6:=h.wb 6 (by omega);obtain⟨a5,k5,e5⟩:=gA D;obtain⟨a6,k6,e6⟩:=gA F;rw[h5]at e5 D;rw[h6]at e6 F;rw[e5]at c5 D;rw[e6]at c6 F;have cN:=fV D;have bS:=fV F;have hN:=h.wt.2;clear h aR h5 h6 D F e5 e6;go_enter func30,ntmps30;go_upto_block 0 with fail
 go_cut [3,4] from 7 to 34 (λ b _ wc=>b=.bool true/\∃nq,wc=w.drewN nq)
 case first=>
  go_wp2_with fail
  go_loopw [3,4] (λ b ii wr=>∃(k Z:Nat),k<=m/\b=.bool true/\ii=.int .i64 (k:Int)/\wr=w.drewN Z) (λ _ ii _=>m-(QO ii).toNat)
  case atStart=>exact⟨0,0,zL,rfl,rfl,rfl⟩
  case round=>
   obtain⟨k,Z,hk,rfl,rfl,aL⟩:=hrel;have d5:wr.cell? ⟨B,5,none⟩=some (.slice a5 m k5):=by rw[aL];exact c5
   have d6:wr.cell? ⟨B,6,none⟩=some (.slice a6 m k6):=by rw[aL];exact c6
   have Q:=fV aL;clear aL;by_cases J:k<m
   ·obtain⟨v,hv⟩:∃v,(bc 5)[k]?=some v:=⟨_,LM (by rw[H5.o];exact J)⟩
    obtain⟨u,hu⟩:∃u,(bc 6)[k]?=some u:=⟨_,LM (by rw[H6.o];exact J)⟩
    have ov:=HH.o.wa k v zL hv;have ou:=HH.o.we k u zL hu;obtain⟨g5,eX,bT,_,_⟩:=cN.o.form (by omega);injection bT with e1 e2 e3;subst e1;obtain⟨g6,hL,hA,_,_⟩:=bS.o.form (by omega);injection hA with e4 e5 e6;subst e4;have x5:=nV cN.o k v hv;have x6:=nV bS.o k u hu;rw[MI]at x5 x6;replace x5:wr.cell? ⟨g5,k,none⟩=some v:=by rw[Q.o];exact x5
    replace x6:wr.cell? ⟨g6,k,none⟩=some u:=by rw[Q.o];exact x6
    have hH:QP (∀z,QX LF 12 #[v,u] (wr.drewN z) λ e w'=>e=.returned (.bool true)/\∃y,w'=(wr.drewN z).drewN y):=λ z=>by
     rw[Q.o];have:=Q0 (T k) (T k) v u w.heap.size w.heap.size ((w.drewN Z).drewN z) (by have:=ov.ln;omega) (by have:=ov.ln;omega) ⟨(mZ ov.ro).sh⟩ ⟨(mZ ou.ro).sh⟩;rw[Pa]at this;exact this
    obtain⟨va,vc,cF⟩:=gA ov.ro;obtain⟨ua,uc,hG⟩:=gA ou.ro;have hF:=iI k m (by omega)
    subst cF hG;clear ov ou hv hu e2 e3 e5 e6 c5 c6;go_wp2;go_quiet ((go_at_call 12;exact QX.quiet_of (hH.o _)));go_wp2;go_roundw
    case rel=>exact⟨k+1,Z+nq,J,rfl,by go_num,by rw[Q.o,NE]⟩
    case measure=>simp[QO];omega
   ·have dk:=dF k m (by omega)
    go_wp2;go_meet
    case rel=>exact⟨rfl,Z,Q.o⟩
 case rest=>
  obtain⟨rfl,nq,rfl⟩:=hcut;have HD:=fV (HH.o.draw nq);have bO:QP (Below B w (w.drewN nq)):=⟨rfl,rfl,rfl,lR,λ _ _=>rfl⟩
  clear c5 c6 cN bS;generalize w.drewN nq=W at*;go_upto_block 2 with fail
  go_cut [6] from 35 to 52 (λ _ wc=>∃O' bM I,PI B (p+m) wc O' cs bM I m T/\(∀f,1<=f->f<=4->(I f).length=p+m)/\I 5=bc 5/\I 6=bc 6/\Below B w wc)
  case first=>
   go_wp2_with fail
   go_loopw [6] (λ ii wr=>∃(k:Nat)(O':Nat->Nat)(bM:Nat->tV)(I:Nat->List tV),k<=m/\ii=.int .i64 (k:Int)/\PI B (p+k) wr O' cs bM I k T/\(∀f,1<=f->f<=4->(I f).length=p+k)/\I 5=bc 5/\I 6=bc 6/\Below B w wr) (λ ii _=>m-(QO ii).toNat)
   case atStart=>exact⟨0,O,vb,bc,zL,rfl,HD.o,hD.o,rfl,rfl,bO.o⟩
   case round=>
    obtain⟨k,O1,bN,bK,hk,rfl,C,U,D,F,Y⟩:=hrel;have HP:=fV C;have eR:=fV U;have X:=fV D;have aO:=fV F;have eT:=fV Y;have V:=C.bk 5 (by omega) (by omega);have c5:=C.wb 5 (by omega);obtain⟨a5,k5,e5⟩:=gA V;rw[D,H5.o]at e5 V;rw[e5]at c5 V;have eO:=fV V;clear C U D F Y V e5 HD bO;by_cases J:k<m
    ·obtain⟨v,hv⟩:∃v,(bc 5)[k]?=some v:=⟨_,LM (by rw[H5.o];exact J)⟩
     have ov:=HP.o.wa k v lR (by rw[X.o];exact hv);obtain⟨g5,eX,bT,_,_⟩:=eO.o.form (by omega);injection bT with e1 e2 e3;subst e1;have x5:=nV eO.o k v hv;rw[MI]at x5;have hF:=iI k m (by omega)
     have eL:=fV ov;obtain⟨va,vc,cF⟩:=gA ov.ro;subst cF;clear ov hv e2 e3;go_wp2_with fail;refine(s8 (HP.o.later (NY k)) eL.o.ro eL.o.tg (Nat.lt_succ_self k) eL.o.ln eR.o (by omega)).mono ?_;rintro e w2 ⟨rfl,O2,hK,cP,aW,bC,eN,eM,aT⟩;have hI:=fV aW;have gL:=fV bC;have hE:QP (cP 5=bc 5):=eN.trans X.o;have hC:QP (cP 6=bc 6):=eM.trans aO.o;have eS:=fV (eT.o.trans aT);clear aW bC eN eM aT c5 x5;go_wp2;go_roundw
     case rel=>exact⟨k+1,O2,hK,cP,J,by go_num,hI.o,gL.o,hE.o,hC.o,eS.o⟩
     case measure=>simp[QO];omega
    ·have dk:=dF k m (by omega)
     have e:k=m:=by omega
     subst e;go_wp2;go_meet
     case rel=>exact⟨O1,bN,bK,HP.o,eR.o,X.o,aO.o,eT.o⟩
  case rest=>
   obtain⟨O1,bN,bK,C,U,D,F,Y⟩:=hcut;have c5:=C.wb 5 (by omega);have c6:=C.wb 6 (by omega);have f5:=C.wz 5;have f6:=C.wz 6;have q6:(wc.setCell ⟨B,5,none⟩ (.slice none 0 0)).cell? ⟨B,6,none⟩=some (bN 6):=by
    rw[LP (h:=by intro e';injection e';omega)];exact c6
   have g6:(wc.setCell ⟨B,5,none⟩ (.slice none 0 0)).frozen? ⟨B,6,none⟩=false:=by rw[LU];exact f6
   have HF:=fV (((C.clear (f:=5) (.inl rfl)).clear (f:=6) (.inr rfl)).again (by rw[gZ _ _ (by omega),iX]) (by rw[iX]));have hB:QP (∀f,1<=f->f<=4->(U7 (U7 bK 5 []) 6 [] f).length=p+m):=λ f h1 h2=>by rw[gZ _ _ (by omega),gZ _ _ (by omega)];exact U f h1 h2
   have hJ:QP (Below B w ((wc.setCell ⟨B,5,none⟩ (.slice none 0 0)).setCell ⟨B,6,none⟩ (.slice none 0 0))):=(Y.setCell (p:=⟨B,5,none⟩) lR _).setCell (p:=⟨B,6,none⟩) lR _;clear C U D F Y HD bO;go_wp2;go_ret;exact⟨rfl,_,_,_,HF.o,hB.o,by rw[gZ _ _ (by omega),iX],by rw[iX],hJ.o⟩
theorem Wn{O:Nat->Nat}(v:tV)(l:List tV)(aH:Nat)(w:tW)(D:w.ownsRow aH 29 1 v l.length l)(Y:∀i u,l[i]?=some u->MK w O i u)(hl:l.length<=3000000):
  QX LF 64 #[v] w λ e w'=>e=.returned (.bool true)/\Bl w w':=by
 have aR:=fV (iL D);have aT:=fV (λ k=>D.lt k);have aO:=fV D;obtain⟨a,aJ,hv⟩:=gA D;subst hv;have aL:=fV Y;clear D Y;go_enter func64,ntmps64;go_wp2_with fail
 go_loopw [3] (λ ii wr=>∃k:Nat,k<=l.length/\ii=.int .i64 (k:Int)/\Bl w wr) (λ ii _=>l.length-(QO ii).toNat)
 case atStart=>exact⟨0,zL,rfl,bR⟩
 case round=>
  obtain⟨k,hk,rfl,hb⟩:=hrel;have J:=fV hb;clear hb;by_cases V:k<l.length
  ·obtain⟨u,hu⟩:∃u,l[k]?=some u:=⟨_,LM V⟩
   obtain⟨ua,n,aW,Z,hn,h0⟩:=aL.o k u hu;subst Z;rcases aR.o with e|⟨g,c2,e⟩
   ·injection e with _ e;omega
   injection e with e1 e2 e3;subst e1;have X:=(aT.o g rfl).2;have c0:=nV aO.o k _ hu;rw[MI]at c0;have c1:=(J.o.cell (p:=⟨g,k,none⟩) X).trans c0;have bK:(0:Int)<=(k:Int)/\(k:Int)<(l.length:Int):=by omega
   have U:QP (Bl wr (wr.alloc (.cells #[.int .i64 (-9),.int .i64 (k:Int),.int .i64 (-9)] 79))):=bR.alloc lR _;have c2:=(U.o.cell (p:=⟨g,k,none⟩) (LH X J.o.size)).trans c1;have m0:(wr.alloc (.cells #[.int .i64 (-9),.int .i64 (k:Int),.int .i64 (-9)] 79)).cell? ⟨wr.heap.size,0,none⟩=some (.int .i64 (-9)):=(LK _ _ _ 0 rfl).trans rfl;have m1:(wr.alloc (.cells #[.int .i64 (-9),.int .i64 (k:Int),.int .i64 (-9)] 79)).cell? ⟨wr.heap.size,1,none⟩=some (.int .i64 (k:Int)):=(LK _ _ _ 1 rfl).trans rfl;have m2:(wr.alloc (.cells #[.int .i64 (-9),.int .i64 (k:Int),.int .i64 (-9)] 79)).cell? ⟨wr.heap.size,2,none⟩=some (.int .i64 (-9)):=(LK _ _ _ 2 rfl).trans rfl;have C:=fV (J.o.alloc J.o.size (.cells #[.int .i64 (-9),.int .i64 (k:Int),.int .i64 (-9)] 79));have H0:QP (∀j,j<n->∃F,ua=some ⟨F,0,none⟩/\(wr.alloc (.cells #[.int .i64 (-9),.int .i64 (k:Int),.int .i64 (-9)] 79)).cell? ⟨F,j*3,none⟩=some (.int .i64 (-9))/\(wr.alloc (.cells #[.int .i64 (-9),.int .i64 (k:Int),.int .i64 (-9)] 79)).cell? ⟨F,j*3+1,none⟩=some (.int .i64 (k:Int))/\(wr.alloc (.cells #[.int .i64 (-9),.int .i64 (k:Int),.int .i64 (-9)] 79)).cell? ⟨F,j*3+2,none⟩=some (.int .i64 (-9))):=λ j hj=>by
    obtain⟨F,ea,I,_,hc⟩:=h0 (by omega);obtain⟨x,y,z⟩:=hc j hj;exact⟨F,ea,(C.o.cell (p:=⟨F,j*3,none⟩) I).trans x,(C.o.cell (p:=⟨F,j*3+1,none⟩) I).trans y,(C.o.cell (p:=⟨F,j*3+2,none⟩) I).trans z⟩
   clear hu h0 c0 c1 e2 e3 J U;go_upto_region 5 with fail;generalize wr.alloc (.cells #[.int .i64 (-9),.int .i64 (k:Int),.int .i64 (-9)] 79)=W4 at*;go_wp2
   go_loopw [5] (λ jj wq=>∃j q:Nat,j<=n/\jj=.int .i64 (j:Int)/\wq=W4.drewN q) (λ jj _=>n-(QO jj).toNat)
   case atStart=>exact⟨0,0,zL,rfl,rfl⟩
   case round=>
    obtain⟨j,q,hj,rfl,rfl⟩:=hrel;by_cases Q:j<n
    ·obtain⟨F,ea,x,y,z⟩:=H0.o j Q;subst ea;have bC:=iI j n (by omega)
     go_wp2;go_quiet (fail);go_wp2;go_roundw
     case rel=>exact⟨j+1,_,Q,by go_num,rfl⟩
     case measure=>simp[QO];omega
    ·have dj:=dF j n (by omega)
     go_wp2;go_roundw
     case rel=>exact⟨k+1,V,by go_num,⟨C.o.os,C.o.tape,C.o.output,C.o.size,C.o.block⟩⟩
     case measure=>simp[QO];omega
  ·have dk:decide ((k:Int)<(l.length:Int))=false:=by simp;omega
   go_wp2;go_ret;exact⟨rfl,J.o⟩
theorem Ro{w:tW}{O:Nat->Nat}{cs:List wV}{vb:Nat->tV}{bc:Nat->List tV}{T:Nat->List (Int×Int×Int)}(h:PI B p w O cs vb bc q T)(hl:∀f,1<=f->f<=4->(bc f).length<=3000000)(hp:∀f,1<=f->f<=4->(bc f).length<=p):
  QX LF 31 #[.pointer (some ⟨B,0,none⟩)] w λ e w'=>e=.returned (.bool true)/\Bl w w':=by
 have HH:=fV h;have HL:=fV hl;have Y:=fV hp;have X:QP (∀f w',1<=f->f<=4->Bl w w'->w'.cell? ⟨B,f,none⟩=some (vb f)/\QX LF 64 #[vb f] w' λ e aL=>e=.returned (.bool true)/\Bl w' aL):=λ f w' V Z hB=>by
  have:=HH.o.below hB;exact⟨this.wb f (by omega),Wn (O:=O) (vb f) (bc f) (B+1) w' (this.bk f V (by omega)) (λ i u hu=>this.mm f i u V Z (LH (ML.1 hu).1 (Y.o f V Z)) hu) (HL.o f V Z)⟩
 obtain⟨a1,f1⟩:=X.o 1 w (by omega) (by omega) bR;clear h hl hp;go_enter func31,ntmps31;go_wp2_with fail;refine f1.mono ?_;rintro e w1 ⟨rfl,I⟩;have F:=fV I;obtain⟨a2,f2⟩:=X.o 2 w1 (by omega) (by omega) I;clear I a1 f1;go_wp2_with fail;refine f2.mono ?_;rintro e w2 ⟨rfl,Q⟩;have C:=fV (F.o.trans (Q.mono F.o.size));obtain⟨a3,f3⟩:=X.o 3 w2 (by omega) (by omega) C.o;clear Q a2 f2 F;go_wp2_with fail;refine f3.mono ?_;rintro e w3 ⟨rfl,U⟩;have D:=fV (C.o.trans (U.mono C.o.size));obtain⟨a4,f4⟩:=X.o 4 w3 (by omega) (by omega) D.o;clear U a3 f3 C;go_wp2_with fail;refine f4.mono ?_;rintro e w4 ⟨rfl,J⟩;have aO:=fV (D.o.trans (J.mono D.o.size));clear J a4 f4 D;go_wp2;go_ret;exact⟨rfl,aO.o⟩
structure FT(w:tW)(b o:Nat)(ops:List Ui):Prop where
 c:∀(k:Nat)(op:Ui),ops[k]?=some op->w.rangeAt b (o+k*4) op.cells
 ok:∀op∈ops,op.ok
 lt:b<w.heap.size
theorem fQ:(Tryz.prog.info? 86).map (λ i=>i.size)=some 4:=by kernel_rfl
theorem Z9{w:tW}{O:Nat->Nat}{cs:List wV}{vb:Nat->tV}{bc:Nat->List tV}{T:Nat->List (Int×Int×Int)}(h:PI B p w O cs vb bc 0 T)(D:∀f,1<=f->f<=4->(bc f).length=p)(_h56:(bc 5).length=(bc 6).length)(F:p<=3000000):
  QX LF 31 #[.pointer (some ⟨B,0,none⟩)] w λ e w'=>e=.returned (.bool true)/\Bl w w':=
 Ro h (λ f o C=>by rw[D f o C];exact F) (λ f o C=>by rw[D f o C];exact lR)
theorem PI.start(w:tW):PI w.heap.size 0 (w.alloc (.cells #[.slice none 0 0,.slice none 0 0,.slice none 0 0,.slice none 0 0,.slice none 0 0,.slice none 0 0,.slice none 0 0] 91)) (λ k=>if k=w.heap.size then 1 else 0) [] (λ _=> .slice none 0 0) (λ _=>[]) 0 (λ _=>[]):=by
 refine⟨λ f I=>?_,λ i=>?_,⟨aB rfl,by simp⟩,MT _ _ _ _,λ f _ _=>MT _ _ _ _,λ f k _ F=>by simp[LN]at F,λ f i v _ _ hi _=>absurd hi (by omega),λ j v _ o=>by simp at o,λ j v _ o=>by simp at o,λ j t C=>by simp at C,λ k F=>?_,λ j t C=>by simp at C⟩
 ·rw[LK _ _ _ f rfl];have D:f=0\/f=1\/f=2\/f=3\/f=4\/f=5\/f=6:=by omega
  rcases D with rfl|rfl|rfl|rfl|rfl|rfl|rfl<;>rfl
 ·rw[World.frozen?_alloc_new]
 ·have:(w.alloc (.cells #[.slice none 0 0,.slice none 0 0,.slice none 0 0,.slice none 0 0,.slice none 0 0,.slice none 0 0,.slice none 0 0] 91)).heap.size=w.heap.size+1:=by simp
  exact aA (by omega)
open Go.RowKit Go.Stn Go.ChangeShapes Go.WideShapes
theorem dI:Tryz.prog.cellsOf 86=4:=by kernel_rfl
theorem eU:Tryz.prog.cellsOf 3=1:=by kernel_rfl
theorem eG:Tryz.prog.cellsOf 9=1:=by kernel_rfl
theorem JX{n:Int}(h:(Lit.int .i64 n).wf=true):JF n:=by
 have o: -9223372036854775808<=n/\n<=9223372036854775807:=by simpa[Lit.wf,IntKind.min,IntKind.max,IntKind.signed,IntKind.bits]using h
 exact o
theorem z8{H:Type}{enc:TypeId×tV->H}{W:tW}{cs:List tV}{x:DataW H×List MemPlace}(h:DataW.trod enc LF W 0 (λ _=>true) true n 86 cs=some x):∃o:Ui,cs=o.cells/\o.ok/\o.x.size<=QW:=by
 obtain⟨xs,k,hk,aL,Q,C,D⟩:=DataW.trod_struct underlying86 h;rw[dI]at Q;have C:xs.length=4:=C
 match xs,C,cs,Q with
 | [y0,y1,y2,y3],_,[v0,v1,v2,v3],_=>
  have X:=D 0 _ rfl;have V:=D 1 _ rfl;have Y:=D 2 _ rfl;have U:=D 3 _ rfl;simp[eU,eG]at X V Y U;obtain⟨n0,I,_,w0⟩:=DataW.trod_int underlying3 X;obtain⟨n1,F,_,w1⟩:=DataW.trod_int underlying3 V;obtain⟨s2,J,_,w2⟩:=DataW.trod_string underlying9 Y;obtain⟨s3,Z,_,w3⟩:=DataW.trod_string underlying9 U;refine⟨⟨n0,n1,s2,s3⟩,?_,⟨JX w1,w2⟩,w3⟩;simp at I F J Z;rw[I,F,J,Z]
  rfl
theorem Yh{H:Type}{enc:TypeId×tV->H}{W:tW}{a:Option Addr}{C:Nat}{d:DataW H}{ps:List MemPlace}(h:DataW.Trod enc LF W 0 (λ _=>true) true 36 (.slice a C aJ) d ps):
  C=0\/∃(b o:Nat)(D:Nat->DataW H)(sp:List (DataW H)) (ops:List Ui),a=some ⟨b,o,none⟩/\ops.length=C/\d=.slice ((NQ C).map D) sp/\FT W b o ops/\∀op∈ops,op.x.size<=QW:=by
 obtain⟨bK,h⟩:=h;rcases Go.Deep.open_slice underlying36 h with⟨e,_⟩|⟨Q,Y,Z,m,n,D,Pl,e,hb,hl,hm,aW,hx,J⟩
 ·left;have e: [LG a C aJ]=[.slice none 0 0]:=e;injection e with e _;injection e
 ·have e: [LG a C aJ]=[.slice (some Q) Y Z]:=e;injection e with e _;injection e with e1 e2 e3;subst e1 e2 e3;by_cases h0:C=0
  ·exact .inl h0
  ·right;have bM:C<=m:=by rw[aW];split<;>omega
   rw[dI]at J;have F:∀i,i<C->∃o:Ui,(∀j v,o.cells[j]?=some v->W.cell? (Q.add (i*4+j))=some v)/\o.ok/\o.x.size<=QW:=λ i hi=>by
    obtain⟨cs,h1,h2⟩:=J i (by omega);obtain⟨o,rfl,X⟩:=z8 h2;obtain⟨_,aO,hc⟩:=World.cells?_some h1;refine⟨o,λ j v hj=>?_,X⟩;have bC:j<4:=by have:=(ML.1 hj).1;rw[aO]at this;exact this
    have:=hc j bC;rw[Go.Deep.add_add]at this;rw[this,hj]
   have V:Q.spot=none:=by
    obtain⟨o,X,_⟩:=F 0 (by omega);have:=X 0 _ rfl;have e:Q.add (0*4+0)=Q:=rfl;rw[e]at this;unfold PM at this
    cases hs:Q.spot with
    | none=>rfl
    | some k=>
     rw[hs]at this;split at this
     ·simp at this
     ·cases this
   obtain⟨b,o,s⟩:=Q;simp only at V;subst V;have aR:∃f:Nat->Ui,∀i,i<C->(∀j v,(f i).cells[j]?=some v->W.cell? ((⟨b,o,none⟩:Addr).add (i*4+j))=some v)/\(f i).ok/\(f i).x.size<=QW:=
    ⟨λ i=>if hi:i<C then NK (F i hi)else⟨0,0,PB,PB⟩,λ i hi=>by simp only[dif_pos hi];exact MS (F i hi)⟩
   obtain⟨f,hf⟩:=aR;refine⟨b,o,D,_,(NQ C).map f,rfl,by simp,congrArg Prod.fst hx,⟨?_,?_,?_⟩,?_⟩
   ·intro k op U j v hj;rw[NZ]at U;have aL:k<C:=by
     apply NU;intro hc;rw[NI (by simp;omega)]at U
     cases U
    rw[List.getElem?_range aL]at U;injection U with U;subst U;have:=(hf k aL).1 j v hj;have e:(⟨b,o,none⟩:Addr).add (k*4+j)=⟨b,o+k*4+j,none⟩:=by
     unfold Addr.add;split
     ·rename_i hz;congr 1;omega
     ·congr 1;simp only;omega
    rw[e]at this;exact this
   ·intro op I;rw[PK]at I;obtain⟨i,hi,rfl⟩:=I;exact(hf i (PC.1 hi)).2.1
   ·obtain⟨op,X,_⟩:=F 0 (by omega);have:=X 0 _ rfl;unfold PM at this;apply NU;intro hc;have aT:W.heap[b]?=none:=by simp;omega
    have e:(⟨b,o,none⟩:Addr).add (0*4+0)=⟨b,o,none⟩:=rfl;rw[e]at this;simp only[aT]at this
    cases this
   ·intro op I;rw[PK]at I;obtain⟨i,hi,rfl⟩:=I;exact(hf i (PC.1 hi)).2.2
theorem Nz(s aI:tB)(w:tW):
  QX LF 10 #[.string s,.string aI] w λ e w'=>
   ∃v,e=.returned (.tuple #[v,.int .i64 (pE s aI).2.1,.int .i64 (pE s aI).2.2])/\w'.ownsRow w.heap.size 79 3 v (pE s aI).1.length (hZ (pE s aI).1)/\Bl w w':=by
 by_cases hl:300<aI.size
 ·have hr:pE s aI=([],0,1):=by unfold pE;rw[aB (.inr hl)]
  rw[hr];clear hr;have hd:decide ((300:Int)<(aI.size:Int))=true:=by simp;omega
  go_enter func10,ntmps10;go_wp2;go_ret3;exact⟨_,rfl,MT w w.heap.size 79 3,bR⟩
 ·have hd:decide ((300:Int)<(aI.size:Int))=false:=by simp;omega
  by_cases C:s.size<=120000/\iF s=true
  ·have hr:pE s aI=((pU s aI 0).1,(pU s aI 0).2.1,0):=by unfold pE;rw[aA (by omega),aB C.2]
   rw[hr];clear hr;go_enter func10,ntmps10;go_wp2_with fail;refine(E2 s _).mono ?_;rintro e w1 ⟨U,⟨bS,_⟩|⟨_,hi,bb,vc,ys,rfl,hn,ho,hm,hc,hk⟩⟩
   ·exact absurd C bS
   obtain⟨vg,aJ,yb,zb,rfl,bC,_⟩:=Mw hi hn ho hm hc hk;have J:=nY (.slice (some ⟨bb,0,none⟩) (jU s) (jU s)) (gM s) (.slice (some ⟨vg,0,none⟩) (iM s) aJ) (by unfold gM;rw[lN];rfl);have Q:=yD (vb:= .slice (some ⟨bb,0,none⟩) (jU s) (jU s)) (vc:= .slice (some ⟨vg,0,none⟩) (iM s) aJ) (cs:=gM s) rfl rfl;obtain⟨IL,aR⟩:=xE (nT (.slice (some ⟨bb,0,none⟩) (jU s) (jU s)) (gM s) (.slice (some ⟨vg,0,none⟩) (iM s) aJ))
   rw[aR]at J Q ⊢;have aT:QP (IL.toArray.toList=IL):=by unfold QP;simp
   have I:QP (IL.toArray.size=258):=by unfold QP;simpa using J
   have Y:QP (IL.toArray.all (·.oneCell')=true):=QS Q;obtain⟨A,EA⟩:=xE (IL.toArray)
   rw[EA]at aT I Y ⊢;have HA:QP (A.toList=nT (.slice (some ⟨bb,0,none⟩) (iR s) (iR s)) (gM s) (.slice (some ⟨vg,0,none⟩) (iM s) aJ)):=by
    unfold QP;rw[aT.o,<-aR,(D5 hi).ru]
   have bM:=fV bC;have HI:=fV hi;have D:=fV U;have V:=fV (iD w1 MG 72 w1.heap.size 258 bL rfl);have F:QP (Bl w1 ((w1.alloc (.cells MG 72)).setCells w1.heap.size 0 A.toList)):=fX _ 0 _ w1.heap.size (bR.alloc lR _) lR;have cF:QP (((w1.alloc (.cells MG 72)).setCells w1.heap.size 0 A.toList).rangeAt w1.heap.size 0 A.toList):=LD _ _ _ _ (by rw[OS,I.o];exact V.o);clear aR J Q EA aT bC hi U hn ho hm hc hk C;have aW:QP (IM ((w1.alloc (.cells MG 72)).setCells w1.heap.size 0 A.toList) s bb vg yb zb ((w1.alloc (.cells MG 72)).setCells w1.heap.size 0 A.toList).heap.size):=(bM.o.below F.o lR).mono F.o.size;have aO:QP (Bl w ((w1.alloc (.cells MG 72)).setCells w1.heap.size 0 A.toList)):=D.o.trans (F.o.mono D.o.size);generalize aL:(w1.alloc (.cells MG 72)).setCells w1.heap.size 0 A.toList=w2 at*;replace aL:=fV aL;clear bM D F;go_wp2_with (first
    | (refine QR rfl 72 (.tmp 7) (.tmp 18) rfl w1.heap.size 0 A rfl rfl ?_ ?_ Y.o ?_;(rw[I.o];exact V.o);(rw[I.o];exact bP);rw[aL.o])
    | (refine QQ rfl 72 (.tmp 7) rfl w1.heap.size 0 rfl A.toList _ cF.o underlying72 rfl ?_ ?_;(rw[OS,I.o];exact bP))
    | fail)
   refine(Kp s aI 0 bb vg aJ yb zb A w2 HI.o (by omega) (lC HI.o).2.2.1 HA.o aW.o).mono ?_;rintro e w3 ⟨vt,rfl,bK,bN⟩;have bT:=fV bK;have bO:=fV (aO.o.trans (bN.mono aO.o.size));clear bK bN;go_wp2;go_ret3;exact⟨vt,rfl,oX bT.o (by have:=aO.o.size;omega),bO.o⟩
  ·have hr:pE s aI=([],0,G5 s):=by
    unfold pE G5;by_cases Z:120000<s.size
    ·rw[aB (.inl Z),aB Z]
    ·have h2:¬iF s=true:=λ h=>C ⟨by omega,h⟩
     rw[aA (by omega),aA h2,aA Z,aA h2]
   have cN:((G5 s:Int) !=0)=true:=by
    rw[aD];unfold G5;by_cases Z:120000<s.size
    ·rw[aB Z];decide
    ·have h2:¬iF s=true:=λ h=>C ⟨by omega,h⟩
     rw[aA Z,aA h2];decide
   rw[hr];clear hr;go_enter func10,ntmps10;go_wp2_with fail;refine(E2 s _).mono ?_;rintro e w1 ⟨U,⟨_,rfl⟩|⟨Z,h2,_⟩⟩
   ·have D:=fV U;have V:=fV (iD w1 MG 72 w1.heap.size 258 bL rfl);have F:QP (Bl w1 ((w1.alloc (.cells MG 72)).setCells w1.heap.size 0 Tryz.zeroCells72.toList)):=fX _ 0 _ w1.heap.size (bR.alloc lR _) lR;clear U C;obtain⟨ck,X⟩:=xE (G5 s)
    rw[X]at cN ⊢;replace X:=fV X;go_wp2_with (first
     | (refine QR rfl 72 (.tmp 7) (.tmp 18) rfl w1.heap.size 0 MG rfl rfl ?_ ?_ bZ ?_;(rw[bL];exact V.o);(rw[bL];exact bP))
     | fail)
    go_ret3;exact⟨_,by rw[X.o];rfl,MT _ _ 79 3,D.o.trans (F.o.mono D.o.size)⟩
   ·exact absurd ⟨Z,h2⟩ C
def Uw(B p:Nat)(w:tW)(cs:List wV)(bc:Nat->List tV)(e:Ending)(w':tW):Prop:=
 e=.returned (.bool true)/\∃O' C o D,PI B p w' O' cs C o 0 D/\(∀f,f<=4->o f=bc f)/\(o 5).length=(bc 5).length+2/\(o 6).length=(bc 5).length+2/\Below B w w'
theorem Ik{w:tW}{O:Nat->Nat}{cs:List wV}{vb:Nat->tV}{bc:Nat->List tV}{T:Nat->List (Int×Int×Int)}(h:PI B p w O cs vb bc 0 T)(S X:tB)(hS:S.size<=QW)(hX:X.size<=QW)
  (hL:(bc 5).length=(bc 6).length) (hI:(bc 5).length+1<=3000000):
  QX LF 59 #[.pointer (some ⟨B,0,none⟩),.string S,.string X] w (Uw B p w cs bc):=by
 have A3:=h.wt.2;have cP:=fV (λ w=>Nz S X w);have hT:=fV (λ w=>Zw S X w hS hX);have bC:=Pq S X;generalize (pE S X).2.1=nn at*;generalize (pE S X).2.2=ee at*;generalize (pE S X).1=L at*;have d1:(ee==ee)=true:=by simp
 have d2:((nn:Int)==(nn:Int))=true:=by simp
 have C:=fV bC;have HP:=fV h;have A0:=fV hL;have hF:=fV hI;clear h hL hI bC hS hX;go_enter func59,ntmps59;go_wp2_with fail;refine(cP.o _).mono ?_;rintro e w1 ⟨v1,rfl,bS,cF⟩;obtain⟨a1,c1,e1⟩:=gA bS;subst e1;have Y:=fV bS;have hN:=fV cF;have qL:=cF.size;clear bS cF;go_wp2_with fail;refine(cP.o _).mono ?_;rintro e w2 ⟨v2,rfl,eM,eO⟩;obtain⟨a2,c2,e2⟩:=gA eM;subst e2;have I:=fV eM;have gL:=fV eO;have sW:=eO.size;clear eM eO;go_wp2_with fail;refine(hT.o _).mono ?_;rintro e D ⟨v3,rfl,eR,aR⟩;obtain⟨a3,c3,e3⟩:=gA eR;subst e3;have B1:=aR.size;have U:=fV (gL.o.trans (aR.mono sW));have hE:=iH (w':=D) Y.o (λ k F=>U.o.block k (Y.o.lt k F).2);have hR:=iH (w':=D) I.o (λ k F=>aR.block k (I.o.lt k F).2);have eT:=fV hE;have bT:=fV hR;have eS:=fV eR;have hA:=fV (hN.o.trans (U.o.mono qL));have eX:=fV (HP.o.below hA.o);have Q:QP (∀z,QX LF 12 #[.slice a1 L.length c1,.slice a3 L.length c3] (D.drewN z) λ e w'=>e=.returned (.bool true)/\∃y,w'=(D.drewN z).drewN y):=λ z=>by
  have:=Q0 L L _ _ D.heap.size D.heap.size (D.drewN z) (by have:=C.o;omega) (by have:=C.o;omega) ⟨(mZ eT.o).sh⟩ ⟨(mZ eS.o).sh⟩;rw[D6]at this;exact this
 have J:QP (∀z,QX LF 12 #[.slice a2 L.length c2,.slice a3 L.length c3] (D.drewN z) λ e w'=>e=.returned (.bool true)/\∃y,w'=(D.drewN z).drewN y):=λ z=>by
  have:=Q0 L L _ _ D.heap.size D.heap.size (D.drewN z) (by have:=C.o;omega) (by have:=C.o;omega) ⟨(mZ bT.o).sh⟩ ⟨(mZ eS.o).sh⟩;rw[D6]at this;exact this
 have aW:QP (∀k,(LG a1 L.length c1).ownBlock=some k->O k=0/\k<w1.heap.size):=λ k F=>⟨HP.o.fr k (Y.o.lt k F).1,(Y.o.lt k F).2⟩
 have eL:QP (∀k,(LG a2 L.length c2).ownBlock=some k->O k=0/\w1.heap.size<=k/\k<D.heap.size):=λ k F=>⟨HP.o.fr k (by have:=(I.o.lt k F).1;omega),(I.o.lt k F).1,by have:=(I.o.lt k F).2;omega⟩
 have aL:QP (Below B w D):=hA.o.mono (MB A3);clear hE hR eR aR Y I hN gL U cP hT;obtain⟨N,eN⟩:=xE (L.length)
 have HN:=fV eN;rw[eN]at Q J aW eL ⊢;clear eN;go_upto_region 5 with(first
  | (go_at_call 9;refine(F4 ee _).mono ?_;rintro e w4 ⟨rfl,hJ⟩;rw[hJ];clear hJ)
  | (go_at_call 12;refine(Q.o 0).mono ?_;rintro e w5 ⟨rfl,y5,hQ⟩;have cN:=fV hQ;clear hQ))
 have V:QP (QX LF 12 #[.slice a2 N c2,.slice a3 N c3] w5 λ e w'=>e=.returned (.bool true)/\∃y,w'=w5.drewN y):=by
  unfold QP;rw[cN.o];exact J.o y5
 have nL:QP (∃y,w5=D.drewN y):=⟨y5,cN.o⟩
 clear cN Q J;go_upto_region 6 with(first
  | (go_at_call 12;refine V.o.mono ?_;rintro e w6 ⟨rfl,y6,hM⟩;have hP:=fV hM;clear hM))
 obtain⟨y,hy⟩:∃y,w6=D.drewN y:=by obtain⟨y,hy⟩:=nL.o;exact⟨y+y6,by rw[hP.o,hy];unfold World.drewN;simp only[Nat.add_assoc]⟩
 have hV:PI B p w6 O cs vb bc 0 T:=by rw[hy];exact eX.o.draw y
 have hH:w6.ownsRow (B+1) 79 3 (.slice a1 N c1) L.length (hZ L):=by
  have:=oX eT.o (base':=B+1) (by omega);rw[HN.o]at this ⊢;rw[hy];exact this
 have hB:w6.ownsRow (B+1) 79 3 (.slice a2 N c2) L.length (hZ L):=by
  have:=oX bT.o (base':=B+1) (by omega);rw[HN.o]at this ⊢;rw[hy];exact this
 have B2:w6.heap.size=D.heap.size:=by rw[hy];rfl
 have hG:=fV hB;have rT:QP (Below B w w6):=by unfold QP;rw[hy];exact⟨aL.o.os,aL.o.tape,aL.o.output,aL.o.size,aL.o.block⟩
 have hC:=fV (T5 hV hH (λ k F=>(aW.o k F).1) C.o A0.o (by have:=hF.o;omega) zL);clear hP hy hV hH hB nL V eT bT eS eX;go_wp2_with fail;refine hC.o.mono ?_;rintro e w7 ⟨rfl,O7,H0,E6,bM,hU,aT,hW,bO,Z⟩;have hD:w7.ownsRow (B+1) 79 3 (.slice a2 N c2) L.length (hZ L):=iH hG.o (λ k F=>by
  obtain⟨q1,q2,q3⟩:=eL.o k F;exact(Z k (by omega) q1 (λ e=>by have:=(aW.o k e).2;omega)).2)
 have iN:∀k,(LG a2 N c2).ownBlock=some k->O7 k=0:=λ k F=>by
  obtain⟨q1,q2,q3⟩:=eL.o k F;exact(Z k (by omega) q1 (λ e=>by have:=(aW.o k e).2;omega)).1
 have tL:=fV (rT.o.trans bO);have rL:=fV hU;have hY:=fV aT;have A2:=fV (T5 bM hD iN C.o (by rw[aT,hW]) (by rw[aT];exact hF.o) zL);clear bM hU aT hW bO Z hD iN hC hG;go_wp2_with fail;refine A2.o.mono ?_;rintro e w8 ⟨rfl,O8,tT,aO,bK,hK,lH,nN,bN,_⟩;have sR:=fV (tL.o.trans bN);have qR:=fV bK;have A1:QP (∀f,f<=4->aO f=bc f):=λ f hf=>(hK f hf).trans (rL.o f hf)
 have rO:QP ((aO 5).length=(bc 5).length+2):=by unfold QP;rw[lH,hY.o]
 have tO:QP ((aO 6).length=(bc 5).length+2):=by unfold QP;rw[nN,hY.o]
 clear bK hK lH nN bN;go_wp2;go_ret;exact⟨rfl,O8,tT,aO,_,qR.o,A1.o,rO.o,tO.o,sR.o⟩
theorem bJ:(Tryz.prog.info? 158).map (·.size)=some 256:=by kernel_rfl
theorem bW:Tryz.zeroCells158.size=256:=by kernel_rfl
theorem Ua(f:Nat->Bool)(w:tW):
  QX LF 138 #[.agg (gQ f).toArray] w λ e w'=>e=.returned (.agg (gQ λ i=> !(f i)).toArray)/\Bl w w':=by
 have Y:QP (((w.alloc (.cells (gQ f).toArray 158)).alloc (.cells LC 158)).rangeAt w.heap.size 0 (gQ f)):=
  NO (zF w (gQ f) 158) _
 have HT:QP (((w.alloc (.cells (gQ f).toArray 158)).alloc (.cells LC 158)).there w.heap.size 0 256):=
  OC (oY w (gQ f) 158 256 (gP f)) _
 have HZ:QP (((w.alloc (.cells (gQ f).toArray 158)).alloc (.cells LC 158)).there (w.heap.size+1) 0 256):=
  iD _ LC 158 _ 256 bW (by simp)
 have HB:QP (Bl w ((w.alloc (.cells (gQ f).toArray 158)).alloc (.cells LC 158))):=
  (bR.alloc lR _).alloc (by simp) _
 go_enter func138,ntmps138;go_wp2_with fail;generalize (w.alloc (.cells (gQ f).toArray 158)).alloc (.cells LC 158)=W at*
 go_loopw [4] (λ x wr=>∃k:Nat,k<=256/\x=.int .i64 (k:Int)/\wr.rangeAt w.heap.size 0 (gQ λ i=>if i<k then !(f i)else f i)/\wr.there w.heap.size 0 256/\wr.there (w.heap.size+1) 0 256/\Bl w wr)
  (λ x _=>256-(QO x).toNat)
 case atStart=>exact⟨0,by omega,rfl,Y.o,HT.o,HZ.o,HB.o⟩
 case round=>
  obtain⟨k,hk,rfl,U,V,X,hb⟩:=hrel;have C:=U;have J:QP (wr.there w.heap.size 0 256):=V;have F:QP (wr.there (w.heap.size+1) 0 256):=X;have I:QP (Bl w wr):=hb;have C:QP (wr.rangeAt w.heap.size 0 (gQ λ i=>if i<k then !(f i)else f i)):=U;clear U V X hb Y HT HZ HB;by_cases D:k<256
  ·have c1:=C.o k _ (wH _ k D);rw[aA (PF k),MI]at c1;have c2:=(J.o k D).2;rw[MI]at c2;have aL:(0:Int)<=(k:Int)/\(k:Int)<256:=by omega
   go_wp2;go_roundw
   case rel=>
    refine⟨k+1,D,by go_num,?_,pJ J.o _ _,pJ F.o _ _,I.o.setCell (p:=⟨w.heap.size,k,none⟩) lR _⟩;have h:=Z6 C.o D (!(f k));have e:gQ (λ i=>if i=k then !(f k)else if i<k then !(f i)else f i)=gQ (λ i=>if i<k+1 then !(f i)else f i):=by
     refine tS (λ i _=>?_);by_cases Q:i=k
     ·rw[aB Q,aB (by omega),Q]
     ·rw[aA Q];by_cases Z:i<k
      ·rw[aB Z,aB (by omega)]
      ·rw[aA Z,aA (by omega)]
    rw[e]at h;exact h
   case measure=>simp[QO];omega
  ·have e:k=256:=by omega
   subst e;have er:gQ (λ i=>if i<256 then !(f i)else f i)=gQ (λ i=> !(f i)):=tS (λ i hi=>by rw[aB hi]);rw[er]at C;clear er;go_wp2_with (first
    | (refine QQ rfl 158 (.tmp 1) rfl w.heap.size 0 rfl (gQ λ i=> !(f i)) _ C.o LI rfl (by rw[gP];exact bJ) ?_)
    | (refine QR rfl 158 (.tmp 2) (.tmp 14) rfl (w.heap.size+1) 0 (gQ λ i=> !(f i)).toArray rfl rfl (by rw[iJ];exact F.o) (by rw[iJ];exact bJ) (QS (mD _)) ?_))
   refine lE results138 (w.heap.size+1) 0 (gQ λ i=> !(f i)) _ rfl ?_ LI rfl (by rw[gP];exact bJ) rfl ⟨rfl,fX _ _ _ _ I.o (by omega)⟩;exact LD _ _ _ _ (by rw[gP];exact F.o)
theorem Co(f:Nat->Bool)(a b:Int)(w:tW):
  QX LF 140 #[.agg (gQ f).toArray,.int .i64 a,.int .i64 b] w λ e w'=>e=.returned (.agg (gQ (jI f a b)).toArray)/\Bl w w':=by
 have HR:QP (((w.alloc (.cells (gQ f).toArray 158)).alloc (.cells LC 158)).rangeAt w.heap.size 0 (gQ f)):=
  NO (zF w (gQ f) 158) _
 have HT:QP (((w.alloc (.cells (gQ f).toArray 158)).alloc (.cells LC 158)).there w.heap.size 0 256):=
  OC (oY w (gQ f) 158 256 (gP f)) _
 have HZ:QP (((w.alloc (.cells (gQ f).toArray 158)).alloc (.cells LC 158)).there (w.heap.size+1) 0 256):=
  iD _ LC 158 _ 256 bW (by simp)
 have HB:QP (Bl w ((w.alloc (.cells (gQ f).toArray 158)).alloc (.cells LC 158))):=
  (bR.alloc lR _).alloc (by simp) _
 go_enter func140,ntmps140;go_wp2_with fail;generalize (w.alloc (.cells (gQ f).toArray 158)).alloc (.cells LC 158)=W at*
 go_loopw [8] (λ x wr=>∃k:Nat,k<=256/\x=.int .i64 (k:Int)/\wr.rangeAt w.heap.size 0 (gQ λ i=>if i<k then jI f a b i else f i)/\wr.there w.heap.size 0 256/\wr.there (w.heap.size+1) 0 256/\Bl w wr)
  (λ x _=>256-(QO x).toNat)
 case atStart=>exact⟨0,by omega,rfl,HR.o,HT.o,HZ.o,HB.o⟩
 case round=>
  obtain⟨k,hk,rfl,hr,ht,hz,hb⟩:=hrel;have Q:QP (wr.there w.heap.size 0 256):=ht;have F:QP (wr.there (w.heap.size+1) 0 256):=hz;have J:QP (Bl w wr):=hb;have C:QP (wr.rangeAt w.heap.size 0 (gQ λ i=>if i<k then jI f a b i else f i)):=hr;clear hr ht hz hb HR HT HZ HB;by_cases D:k<256
  ·have c1:=C.o k _ (wH _ k D);rw[aA (PF k),MI]at c1;have c2:=(Q.o k D).2;rw[MI]at c2;have aL:(0:Int)<=(k:Int)/\(k:Int)<256:=by omega
   by_cases I:a<=(k:Int)/\(k:Int)<=b
   ·obtain⟨Y,X⟩:=I;go_wp2;go_roundw
    case rel=>
     refine⟨k+1,D,by go_num,?_,pJ Q.o _ _,pJ F.o _ _,J.o.setCell (p:=⟨w.heap.size,k,none⟩) lR _⟩;have h:=Z6 C.o D true;have e:gQ (λ i=>if i=k then true else if i<k then jI f a b i else f i)=gQ (λ i=>if i<k+1 then jI f a b i else f i):=by
      refine tS (λ i _=>?_);by_cases V:i=k
      ·rw[aB V,aB (by omega),V];unfold jI;simp[Y,X]
      ·rw[aA V];by_cases U:i<k
       ·rw[aB U,aB (by omega)]
       ·rw[aA U,aA (by omega)]
     rw[e]at h;exact h
    case measure=>simp[QO];omega
   ·have Z:QP (gQ (λ i=>if i<k then jI f a b i else f i)=gQ (λ i=>if i<k+1 then jI f a b i else f i)):=by
     refine tS (λ i _=>?_);by_cases V:i=k
     ·rw[V,aA (by omega),aB (by omega)];unfold jI;simp;intro U h3;exact absurd ⟨U,h3⟩ I
     ·by_cases U:i<k
      ·rw[aB U,aB (by omega)]
      ·rw[aA U,aA (by omega)]
    rw[Z.o]at C;by_cases V:a<=(k:Int)
    ·have U:¬((k:Int)<=b):=λ h=>I ⟨V,h⟩
     clear I Z;go_wp2;go_roundw
     case rel=>exact⟨k+1,D,by go_num,C.o,Q.o,F.o,J.o⟩
     case measure=>simp[QO];omega
    ·clear I Z;go_wp2;go_roundw
     case rel=>exact⟨k+1,D,by go_num,C.o,Q.o,F.o,J.o⟩
     case measure=>simp[QO];omega
  ·have e:k=256:=by omega
   subst e;have er:gQ (λ i=>if i<256 then jI f a b i else f i)=gQ (jI f a b):=tS (λ i hi=>by rw[aB hi]);rw[er]at C;clear er;go_wp2_with (first
    | (refine QQ rfl 158 (.tmp 3) rfl w.heap.size 0 rfl (gQ (jI f a b)) _ C.o LI rfl (by rw[gP];exact bJ) ?_)
    | (refine QR rfl 158 (.tmp 6) (.tmp 22) rfl (w.heap.size+1) 0 (gQ (jI f a b)).toArray rfl rfl (by rw[iJ];exact F.o) (by rw[iJ];exact bJ) (QS (mD _)) ?_))
   refine lE results140 (w.heap.size+1) 0 (gQ (jI f a b)) _ rfl ?_ LI rfl (by rw[gP];exact bJ) rfl ⟨rfl,fX _ _ _ _ J.o (by omega)⟩;exact LD _ _ _ _ (by rw[gP];exact F.o)
section
theorem fZ{p:Prop}(h:p):QP p:=h
structure Rd(w:tW)(rb aH top:Nat)(t:tB)(st:gS)(vr vn vp:tV):Prop where
 c0:w.cell? ⟨rb,0,none⟩=some (.string t)
 c1:w.cell? ⟨rb,1,none⟩=some (.int .i64 st.at_)
 c2:w.cell? ⟨rb,2,none⟩=some vr
 c3:w.cell? ⟨rb,3,none⟩=some vn
 c4:w.cell? ⟨rb,4,none⟩=some vp
 fz:∀i,w.frozen? ⟨rb,i,none⟩=false
 rr:w.ownsRow aH 119 6 vr st.aX.length (B7 st.aX)
 rn:w.ownsRow aH 162 3 vn st.aV.length (xF st.aV)
 rp:w.ownsRow aH 158 256 vp st.aW.length (Z3 st.aW)
 hb:rb<aH
 hbt:aH<=top
 hz:top<=w.heap.size
 lr:∀k,vr.ownBlock=some k->k<top
 ln:∀k,vn.ownBlock=some k->k<top
 lp:∀k,vp.ownBlock=some k->k<top
 a1:qX vr vn
 a2:qX vr vp
 a3:qX vn vp
variable {w w':tW}{rb aH top:Nat}{t:tB}{st:gS}{vr vn vp:tV}
theorem U8{w w':tW}{e:TypeId}{v:tV}{xs:List tV}(D:w.ownsRow aH e size v m xs)(I:Below top w w')(J:∀k,v.ownBlock=some k->k<top):w'.ownsRow aH e size v m xs:=by
 refine⟨D.1,?_⟩;rcases D.2 with F|⟨g,aJ,o,rfl,C,hg,rest⟩
 ·exact .inl F
 ·exact .inr ⟨g,aJ,o,rfl,C,(I.block g (J g rfl)).trans hg,rest⟩
theorem Rd.below(h:Rd w rb aH top t st vr vn vp)(o:Below top w w'):Rd w' rb aH top t st vr vn vp:=by
 have F:=h.hb;have D:=h.hbt;have C:rb<top:=by omega
 have cl:∀i,w'.cell? ⟨rb,i,none⟩=w.cell? ⟨rb,i,none⟩:=λ i=>o.cell (p:=⟨rb,i,none⟩) C
 exact⟨(cl 0).trans h.c0,(cl 1).trans h.c1,(cl 2).trans h.c2,(cl 3).trans h.c3,(cl 4).trans h.c4,λ i=>(o.frozen (p:=⟨rb,i,none⟩) C).trans (h.fz i),
  U8 h.rr o h.lr,U8 h.rn o h.ln,U8 h.rp o h.lp,h.hb,h.hbt,LS h.hz o.size,h.lr,h.ln,h.lp,h.a1,h.a2,h.a3⟩
theorem Rd.drewN(h:Rd w rb aH top t st vr vn vp)(q:Nat):Rd (w.drewN q) rb aH top t st vr vn vp:=
 ⟨h.c0,h.c1,h.c2,h.c3,h.c4,h.fz,h.rr,h.rn,h.rp,h.hb,h.hbt,h.hz,h.lr,h.ln,h.lp,h.a1,h.a2,h.a3⟩
theorem Rd.drew(h:Rd w rb aH top t st vr vn vp):Rd w.drew rb aH top t st vr vn vp:=
 ⟨h.c0,h.c1,h.c2,h.c3,h.c4,h.fz,h.rr,h.rn,h.rp,h.hb,h.hbt,h.hz,h.lr,h.ln,h.lp,h.a1,h.a2,h.a3⟩
theorem Rd.raise(h:Rd w rb aH top t st vr vn vp):Rd w rb aH w.heap.size t st vr vn vp:=by
 have D:=h.hz;have C:=h.hbt;exact⟨h.c0,h.c1,h.c2,h.c3,h.c4,h.fz,h.rr,h.rn,h.rp,h.hb,by omega,lR,λ k o=>by have:=h.lr k o;omega,λ k o=>by have:=h.ln k o;omega,λ k o=>by have:=h.lp k o;omega,h.a1,h.a2,h.a3⟩
theorem Rd.retop{w0:tW}{o:Nat}{jX:gS}(C:Rd w0 rb aH o t jX vr vn vp)(h:Rd w rb aH top t st vr vn vp)(D:o<=w.heap.size):Rd w rb aH o t st vr vn vp:=
 ⟨h.c0,h.c1,h.c2,h.c3,h.c4,h.fz,h.rr,h.rn,h.rp,h.hb,C.hbt,D,C.lr,C.ln,C.lp,h.a1,h.a2,h.a3⟩
theorem Rd.adv(h:Rd w rb aH top t st vr vn vp):Rd (w.setCell ⟨rb,1,none⟩ (.int .i64 ((st.at_:Int)+1))) rb aH top t (iO st) vr vn vp:=by
 have o:∀j u,j≠1->w.cell? ⟨rb,j,none⟩=some u->(w.setCell ⟨rb,1,none⟩ (.int .i64 ((st.at_:Int)+1))).cell? ⟨rb,j,none⟩=some u:=λ j u D C=>by
  rw[LP (h:=by intro e;injection e;omega)];exact C
 refine⟨o 0 _ (by omega) h.c0,MM _ _ _ h.c1,o 2 _ (by omega) h.c2,o 3 _ (by omega) h.c3,o 4 _ (by omega) h.c4,
  λ i=>by rw[LU];exact h.fz i,QN h.rr h.hb _,QN h.rn h.hb _,QN h.rp h.hb _,h.hb,h.hbt,?_,h.lr,h.ln,h.lp,h.a1,h.a2,h.a3⟩
 have:=h.hz;simp[MD];omega
def DA(rb:Nat)(vr vn vp:tV)(k:Nat):Prop:=k=rb\/vr.ownBlock=some k\/vn.ownBlock=some k\/vp.ownBlock=some k
structure Fr(w w':tW)(rb:Nat)(vr vn vp vr' vn' vp':tV):Prop where
 os:w'.os=w.os
 tape:w'.tape=w.tape
 output:w'.output=w.output
 size:w.heap.size<=w'.heap.size
 block:∀k,k<w.heap.size->¬DA rb vr vn vp k->w'.heap[k]?=w.heap[k]?
 stay:∀k,k<w.heap.size->¬DA rb vr vn vp k->¬DA rb vr' vn' vp' k
theorem Fr.trans{a b c:tW}{vr vn vp J o F I D C:tV}(h:Fr a b rb vr vn vp J o F)(k:Fr b c rb J o F I D C):Fr a c rb vr vn vp I D C:=
 ⟨k.os.trans h.os,k.tape.trans h.tape,k.output.trans h.output,LS h.size k.size,λ i hi Q=>(k.block i (LH hi h.size) (h.stay i hi Q)).trans (h.block i hi Q),
  λ i hi Q=>k.stay i (LH hi h.size) (h.stay i hi Q)⟩
theorem Fr.of_grown{a b:tW}{vr vn vp:tV}(h:a.grownBy b (some rb)):Fr a b rb vr vn vp vr vn vp:=
 ⟨h.os,h.tape,h.output,h.size,λ k C o=>h.block k C (λ e=>o (.inl (Option.some.inj e))),λ _ _ o=>o⟩
theorem Fr.of_drew{a b:tW}{vr vn vp D C o:tV}(h:Fr a.drew b rb vr vn vp D C o):Fr a b rb vr vn vp D C o:=⟨h.os,h.tape,h.output,h.size,h.block,h.stay⟩
def Gq(w:tW)(rb aH:Nat)(t:tB)(vr vn vp:tV)(st:gS)(w':tW):Prop:=∃D o C,Rd w' rb aH w'.heap.size t st D o C/\Fr w w' rb vr vn vp D o C
theorem Rd.moreN{W w4:tW}{t:tB}{st:gS}{vr vn vp:tV}(h:Rd W rb aH top t st vr vn vp){o:Obj}{x:Int×Int×Int}{g aJ:Nat}
  (U:w4.ownsRow aH 162 3 (.slice (some ⟨g,0,none⟩) (st.aV.length+1) aJ) (st.aV.length+1) (xF st.aV++[.int .i64 x.1,.int .i64 x.2.1,.int .i64 x.2.2]))
  (C:(W.alloc o).grownBy w4 vn.ownBlock) (J:vn.ownBlock=some g\/g=W.heap.size+1) (aO:g<w4.heap.size):
  Rd (w4.setCell ⟨rb,3,none⟩ (.slice (some ⟨g,0,none⟩) (st.aV.length+1) aJ)) rb aH w4.heap.size t {st with aV:=st.aV++[x]} vr (.slice (some ⟨g,0,none⟩) (st.aV.length+1) aJ) vp/\
  Fr W (w4.setCell ⟨rb,3,none⟩ (.slice (some ⟨g,0,none⟩) (st.aV.length+1) aJ)) rb vr vn vp vr (.slice (some ⟨g,0,none⟩) (st.aV.length+1) aJ) vp:=by
 have hb:=h.hb;have aR:=h.hbt;have hz:=h.hz;have Y:=C.size;simp at Y;have h':Rd (W.alloc o) rb aH top t st vr vn vp:=h.below (bR.alloc h.hz o);have aL:some rb≠vn.ownBlock:=λ e=>by have:=(h.rn.lt rb e.symm).1;omega
 obtain⟨gc,gf⟩:=gH C (k:=rb) (by omega) aL;have D:∀j u,j≠3->W.cell? ⟨rb,j,none⟩=some u->(w4.setCell ⟨rb,3,none⟩ (.slice (some ⟨g,0,none⟩) (st.aV.length+1) aJ)).cell? ⟨rb,j,none⟩=some u:=λ j u hj hu=>by
  rw[LP (h:=by intro e;injection e;omega),gc];exact hu
 have Z:∀u,W.cell? ⟨rb,3,none⟩=some u->(w4.setCell ⟨rb,3,none⟩ (.slice (some ⟨g,0,none⟩) (st.aV.length+1) aJ)).cell? ⟨rb,3,none⟩=some (.slice (some ⟨g,0,none⟩) (st.aV.length+1) aJ):=λ u hu=>
  MM (u:=u) _ _ _ ((gc 3).trans hu)
 have kp:∀(v:tV)(m sz:Nat)(xs:List tV)(e:TypeId),(W.alloc o).ownsRow aH e sz v m xs->qX vn v->(w4.setCell ⟨rb,3,none⟩ (.slice (some ⟨g,0,none⟩) (st.aV.length+1) aJ)).ownsRow aH e sz v m xs:=λ v m sz xs e hr ha=>by
  refine QN (hr.kept C ?_) h.hb _
  cases hv:v.ownBlock with
  | none=>exact .inl rfl
  | some k=>right;intro e;exact ha k e.symm hv
 have nw:∀v:tV,(∀k,v.ownBlock=some k->k<top)->qX vn v->qX (.slice (some ⟨g,0,none⟩) (st.aV.length+1) aJ) v:=λ v V ha k e1 e2=>by
  have e:g=k:=by simpa[LN]using e1
  subst e;rcases J with Q|Q
  ·exact ha g Q e2
  ·have:=V g e2;omega
 have X:(w4.setCell ⟨rb,3,none⟩ (.slice (some ⟨g,0,none⟩) (st.aV.length+1) aJ)).ownsRow aH 162 3 (.slice (some ⟨g,0,none⟩) (st.aV.length+1) aJ) (st.aV++[x]).length (xF (st.aV++[x])):=by
  have e:xF (st.aV++[x])=xF st.aV++[.int .i64 x.1,.int .i64 x.2.1,.int .i64 x.2.2]:=by simp[xF]
  rw[e,LO,LQ];exact QN U h.hb _
 have tp:∀v:tV,(∀k,v.ownBlock=some k->k<top)->∀k,v.ownBlock=some k->k<w4.heap.size:=λ v V k I=>by have:=V k I;omega
 have tg:∀k,(LG (some ⟨g,0,none⟩) (st.aV.length+1) aJ).ownBlock=some k->k<w4.heap.size:=λ k I=>by
  have e:g=k:=by simpa[LN]using I
  omega
 refine⟨⟨D 0 _ (by omega) h.c0,D 1 _ (by omega) h.c1,D 2 _ (by omega) h.c2,Z _ h.c3,D 4 _ (by omega) h.c4,λ i=>by rw[LU,gf];exact h.fz i,kp _ _ _ _ _ h'.rr h.a1.symm,X,kp _ _ _ _ _ h'.rp h.a3,h.hb,by omega,by simp[MD],tp _ h.lr,tg,tp _ h.lp,(nw _ h.lr h.a1.symm).symm,h.a2,nw _ h.lp h.a3⟩,?_⟩;refine⟨C.os,C.tape,C.output,by simp[MD];omega,λ k I F=>?_,λ k I F=>?_⟩
 ·rw[MO _ _ _ _ (by intro e;exact F (.inl e)),C.block k (by simp;omega) (by intro e;exact F (.inr (.inr (.inl e.symm))))];exact MC W o k I
 ·rintro(e|e|e|e)
  ·exact F (.inl e)
  ·exact F (.inr (.inl e))
  ·have e:g=k:=by simpa[LN]using e
   subst e;rcases J with Q|Q
   ·exact F (.inr (.inr (.inl Q)))
   ·omega
  ·exact F (.inr (.inr (.inr e)))
theorem Rd.moreP{W w4:tW}{t:tB}{st:gS}{vr vn vp:tV}(h:Rd W rb aH top t st vr vn vp){o:Obj}{x:Nat->Bool}{g aJ:Nat}
  (U:w4.ownsRow aH 158 256 (.slice (some ⟨g,0,none⟩) (st.aW.length+1) aJ) (st.aW.length+1) (Z3 st.aW++gQ x))
  (C:(W.alloc o).grownBy w4 vp.ownBlock) (J:vp.ownBlock=some g\/g=W.heap.size+1) (aO:g<w4.heap.size):
  Rd (w4.setCell ⟨rb,4,none⟩ (.slice (some ⟨g,0,none⟩) (st.aW.length+1) aJ)) rb aH w4.heap.size t {st with aW:=st.aW++[x]} vr vn (.slice (some ⟨g,0,none⟩) (st.aW.length+1) aJ)/\
  Fr W (w4.setCell ⟨rb,4,none⟩ (.slice (some ⟨g,0,none⟩) (st.aW.length+1) aJ)) rb vr vn vp vr vn (.slice (some ⟨g,0,none⟩) (st.aW.length+1) aJ):=by
 have hb:=h.hb;have aR:=h.hbt;have hz:=h.hz;have Y:=C.size;simp at Y;have h':Rd (W.alloc o) rb aH top t st vr vn vp:=h.below (bR.alloc h.hz o);have aL:some rb≠vp.ownBlock:=λ e=>by have:=(h.rp.lt rb e.symm).1;omega
 obtain⟨gc,gf⟩:=gH C (k:=rb) (by omega) aL;have D:∀j u,j≠4->W.cell? ⟨rb,j,none⟩=some u->(w4.setCell ⟨rb,4,none⟩ (.slice (some ⟨g,0,none⟩) (st.aW.length+1) aJ)).cell? ⟨rb,j,none⟩=some u:=λ j u hj hu=>by
  rw[LP (h:=by intro e;injection e;omega),gc];exact hu
 have Z:∀u,W.cell? ⟨rb,4,none⟩=some u->(w4.setCell ⟨rb,4,none⟩ (.slice (some ⟨g,0,none⟩) (st.aW.length+1) aJ)).cell? ⟨rb,4,none⟩=some (.slice (some ⟨g,0,none⟩) (st.aW.length+1) aJ):=λ u hu=>
  MM (u:=u) _ _ _ ((gc 4).trans hu)
 have kp:∀(v:tV)(m sz:Nat)(xs:List tV)(e:TypeId),(W.alloc o).ownsRow aH e sz v m xs->qX vp v->(w4.setCell ⟨rb,4,none⟩ (.slice (some ⟨g,0,none⟩) (st.aW.length+1) aJ)).ownsRow aH e sz v m xs:=λ v m sz xs e hr ha=>by
  refine QN (hr.kept C ?_) h.hb _
  cases hv:v.ownBlock with
  | none=>exact .inl rfl
  | some k=>right;intro e;exact ha k e.symm hv
 have nw:∀v:tV,(∀k,v.ownBlock=some k->k<top)->qX vp v->qX (.slice (some ⟨g,0,none⟩) (st.aW.length+1) aJ) v:=λ v V ha k e1 e2=>by
  have e:g=k:=by simpa[LN]using e1
  subst e;rcases J with Q|Q
  ·exact ha g Q e2
  ·have:=V g e2;omega
 have X:(w4.setCell ⟨rb,4,none⟩ (.slice (some ⟨g,0,none⟩) (st.aW.length+1) aJ)).ownsRow aH 158 256 (.slice (some ⟨g,0,none⟩) (st.aW.length+1) aJ) (st.aW++[x]).length (Z3 (st.aW++[x])):=by
  have e:Z3 (st.aW++[x])=Z3 st.aW++gQ x:=by simp[Z3]
  rw[e,LO,LQ];exact QN U h.hb _
 have tp:∀v:tV,(∀k,v.ownBlock=some k->k<top)->∀k,v.ownBlock=some k->k<w4.heap.size:=λ v V k I=>by have:=V k I;omega
 have tg:∀k,(LG (some ⟨g,0,none⟩) (st.aW.length+1) aJ).ownBlock=some k->k<w4.heap.size:=λ k I=>by
  have e:g=k:=by simpa[LN]using I
  omega
 refine⟨⟨D 0 _ (by omega) h.c0,D 1 _ (by omega) h.c1,D 2 _ (by omega) h.c2,D 3 _ (by omega) h.c3,Z _ h.c4,λ i=>by rw[LU,gf];exact h.fz i,kp _ _ _ _ _ h'.rr h.a2.symm,kp _ _ _ _ _ h'.rn h.a3.symm,X,h.hb,by omega,by simp[MD],tp _ h.lr,tp _ h.ln,tg,h.a1,(nw _ h.lr h.a2.symm).symm,(nw _ h.ln h.a3.symm).symm⟩,?_⟩;refine⟨C.os,C.tape,C.output,by simp[MD];omega,λ k I F=>?_,λ k I F=>?_⟩
 ·rw[MO _ _ _ _ (by intro e;exact F (.inl e)),C.block k (by simp;omega) (by intro e;exact F (.inr (.inr (.inr e.symm))))];exact MC W o k I
 ·rintro(e|e|e|e)
  ·exact F (.inl e)
  ·exact F (.inr (.inl e))
  ·exact F (.inr (.inr (.inl e)))
  ·have e:g=k:=by simpa[LN]using e
   subst e;rcases J with Q|Q
   ·exact F (.inr (.inr (.inr Q)))
   ·omega
theorem Rd.moreR{W w4:tW}{t:tB}{st:gS}{vr vn vp:tV}(h:Rd W rb aH top t st vr vn vp){o:Obj}{x:(Nat->Bool)×Int×Int}{g aJ:Nat}
  (U:w4.ownsRow aH 119 6 (.slice (some ⟨g,0,none⟩) (st.aX.length+1) aJ) (st.aX.length+1) (B7 st.aX++nI x))
  (C:(W.alloc o).grownBy w4 vr.ownBlock) (J:vr.ownBlock=some g\/g=W.heap.size+1) (aO:g<w4.heap.size):
  Rd (w4.setCell ⟨rb,2,none⟩ (.slice (some ⟨g,0,none⟩) (st.aX.length+1) aJ)) rb aH w4.heap.size t {st with aX:=st.aX++[x]} (.slice (some ⟨g,0,none⟩) (st.aX.length+1) aJ) vn vp/\
  Fr W (w4.setCell ⟨rb,2,none⟩ (.slice (some ⟨g,0,none⟩) (st.aX.length+1) aJ)) rb vr vn vp (.slice (some ⟨g,0,none⟩) (st.aX.length+1) aJ) vn vp:=by
 have hb:=h.hb;have aR:=h.hbt;have hz:=h.hz;have Y:=C.size;simp at Y;have h':Rd (W.alloc o) rb aH top t st vr vn vp:=h.below (bR.alloc h.hz o);have aL:some rb≠vr.ownBlock:=λ e=>by have:=(h.rr.lt rb e.symm).1;omega
 obtain⟨gc,gf⟩:=gH C (k:=rb) (by omega) aL;have D:∀j u,j≠2->W.cell? ⟨rb,j,none⟩=some u->(w4.setCell ⟨rb,2,none⟩ (.slice (some ⟨g,0,none⟩) (st.aX.length+1) aJ)).cell? ⟨rb,j,none⟩=some u:=λ j u hj hu=>by
  rw[LP (h:=by intro e;injection e;omega),gc];exact hu
 have Z:∀u,W.cell? ⟨rb,2,none⟩=some u->(w4.setCell ⟨rb,2,none⟩ (.slice (some ⟨g,0,none⟩) (st.aX.length+1) aJ)).cell? ⟨rb,2,none⟩=some (.slice (some ⟨g,0,none⟩) (st.aX.length+1) aJ):=λ u hu=>
  MM (u:=u) _ _ _ ((gc 2).trans hu)
 have kp:∀(v:tV)(m sz:Nat)(xs:List tV)(e:TypeId),(W.alloc o).ownsRow aH e sz v m xs->qX vr v->(w4.setCell ⟨rb,2,none⟩ (.slice (some ⟨g,0,none⟩) (st.aX.length+1) aJ)).ownsRow aH e sz v m xs:=λ v m sz xs e hr ha=>by
  refine QN (hr.kept C ?_) h.hb _
  cases hv:v.ownBlock with
  | none=>exact .inl rfl
  | some k=>right;intro e;exact ha k e.symm hv
 have nw:∀v:tV,(∀k,v.ownBlock=some k->k<top)->qX vr v->qX (.slice (some ⟨g,0,none⟩) (st.aX.length+1) aJ) v:=λ v V ha k e1 e2=>by
  have e:g=k:=by simpa[LN]using e1
  subst e;rcases J with Q|Q
  ·exact ha g Q e2
  ·have:=V g e2;omega
 have X:(w4.setCell ⟨rb,2,none⟩ (.slice (some ⟨g,0,none⟩) (st.aX.length+1) aJ)).ownsRow aH 119 6 (.slice (some ⟨g,0,none⟩) (st.aX.length+1) aJ) (st.aX++[x]).length (B7 (st.aX++[x])):=by
  have e:B7 (st.aX++[x])=B7 st.aX++nI x:=by simp[B7]
  rw[e,LO,LQ];exact QN U h.hb _
 have tp:∀v:tV,(∀k,v.ownBlock=some k->k<top)->∀k,v.ownBlock=some k->k<w4.heap.size:=λ v V k I=>by have:=V k I;omega
 have tg:∀k,(LG (some ⟨g,0,none⟩) (st.aX.length+1) aJ).ownBlock=some k->k<w4.heap.size:=λ k I=>by
  have e:g=k:=by simpa[LN]using I
  omega
 refine⟨⟨D 0 _ (by omega) h.c0,D 1 _ (by omega) h.c1,Z _ h.c2,D 3 _ (by omega) h.c3,D 4 _ (by omega) h.c4,λ i=>by rw[LU,gf];exact h.fz i,X,kp _ _ _ _ _ h'.rn h.a1,kp _ _ _ _ _ h'.rp h.a2,h.hb,by omega,by simp[MD],tg,tp _ h.ln,tp _ h.lp,nw _ h.ln h.a1,nw _ h.lp h.a2,h.a3⟩,?_⟩;refine⟨C.os,C.tape,C.output,by simp[MD];omega,λ k I F=>?_,λ k I F=>?_⟩
 ·rw[MO _ _ _ _ (by intro e;exact F (.inl e)),C.block k (by simp;omega) (by intro e;exact F (.inr (.inl e.symm)))];exact MC W o k I
 ·rintro(e|e|e|e)
  ·exact F (.inl e)
  ·have e:g=k:=by simpa[LN]using e
   subst e;rcases J with Q|Q
   ·exact F (.inr (.inl Q))
   ·omega
  ·exact F (.inr (.inr (.inl e)))
  ·exact F (.inr (.inr (.inr e)))
end
theorem uJ(b:Int)(w:tW):QX LF 134 #[.int .i64 b] w λ e w'=>e=.returned (.bool (nQ b))/\w'=w:=by
 by_cases o:33<=b
 ·by_cases C:b<=126
  ·have e:nQ b=true:=by unfold nQ;simp[o,C]
   rw[e];clear e;go_enter func134,ntmps134;go_wp2;go_ret;exact⟨by simp,rfl⟩
  ·have e:nQ b=false:=by unfold nQ;simp[C]
   rw[e];clear e;go_enter func134,ntmps134;go_wp2;go_ret;exact⟨by simp,rfl⟩
 ·have e:nQ b=false:=by unfold nQ;simp[o]
  rw[e];clear e;go_enter func134,ntmps134;go_wp2;go_ret;exact⟨rfl,rfl⟩
theorem Uj(b:Int)(w:tW):QX LF 143 #[.int .i64 b] w λ e w'=>e=.returned (.bool (Fg b))/\w'=w:=by
 have e:Fg b=(decide (97<=b)&&decide (b<=122)||(decide (65<=b)&&decide (b<=90))||(decide (48<=b)&&decide (b<=57))):=by
  unfold Fg;rw[OO];simp;omega
 rw[e];clear e;by_cases C:97<=b<;>by_cases D:b<=122<;>by_cases F:65<=b<;>by_cases o:b<=90<;>by_cases J:48<=b<;>by_cases I:b<=57
 all_goals first
  | (exfalso;omega)
  | (simp only[C,D,F,o,J,I,decide_true,decide_false,Bool.and_false,Bool.or_false,Bool.or_true,Bool.and_true]
     go_enter func143,ntmps143;go_wp2;go_ret;exact⟨by simp<;>omega,rfl⟩)
theorem U3(b:Int)(sp:tB)(w:tW)(hs:sp.size<=100):QX LF 128 #[.int .i64 b,.string sp] w λ e w'=>e=.returned (.bool (kV b sp))/\w'=w:=by
 cases hv:nQ b with
 | false=>
  have e:kV b sp=false:=by unfold kV;rw[hv];rfl
  rw[e];clear e;go_enter func128,ntmps128;go_wp2_with (go_at_call 134;refine(uJ _ _).mono ?_;rintro e w ⟨rfl,rfl⟩);go_ret;exact⟨rfl,rfl⟩
 | true=>
  have e:kV b sp=decide (∀i,i<sp.size->(bt sp i:Int)≠b):=by unfold kV;rw[hv];rfl
  rw[e];clear e;go_enter func128,ntmps128;go_wp2_with (go_at_call 134;refine(uJ _ _).mono ?_;rintro e w ⟨rfl,rfl⟩)
  go_loop [5] (λ x=>∃k:Nat,k<=sp.size/\x=.int .i64 (k:Int)/\∀i,i<k->(bt sp i:Int)≠b) (λ x=>sp.size-(QO x).toNat)
  case atStart=>exact⟨0,zL,rfl,λ i h=>absurd h (ON _)⟩
  case round=>
   obtain⟨k,Z,rfl,D⟩:=hrel;have J:=fZ D;clear D;by_cases F:k<sp.size
   ·have U:=kM sp k F;have Y:=mT sp k;by_cases C:(bt sp k:Int)=b
    ·have V:QP (decide (∀i,i<sp.size->(bt sp i:Int)≠b)=false):=by
      unfold QP;rw[aF];intro h;exact h k F C
     have I:((bt sp k:Int)==b)=true:=beq_iff_eq.2 C;clear C;go_wp2;go_ret;exact⟨by rw[V.o];rfl,rfl⟩
    ·have I:((bt sp k:Int)==b)=false:=aC.2 C;have X:=fZ C;clear C;go_wp2;go_round
     case rel=>
      refine⟨k+1,F,by go_num,λ i hi=>?_⟩;by_cases e:i=k
      ·rw[e];exact X.o
      ·exact J.o i (by omega)
     case measure=>simp[QO];omega
   ·have Q:QP (decide (∀i,i<sp.size->(bt sp i:Int)≠b)=true):=by
     unfold QP;rw[aE];intro i hi;exact J.o i (by omega)
    go_wp2;go_ret;exact⟨by rw[Q.o];rfl,rfl⟩
theorem wF(t:tB)(st:gS)(rb aH top:Nat)(vr vn vp:tV)(w:tW)(h:Rd w rb aH top t st vr vn vp):
  QX LF 97 #[.pointer (some ⟨rb,0,none⟩)] w λ e w'=>e=.returned (.int .i64 (gF t st.at_))/\∃q,w'=w.drewN q:=by
 have c0:=h.c0;have Q:=h.c1;clear h;generalize st.at_=a at*;by_cases C:t.size<=a
 ·rw[jW C];have D:decide ((t.size:Int)<=(a:Int))=true:=by simp;omega
  go_enter func97,ntmps97;go_wp2;go_quiet (fail);go_wp2;go_ret;exact⟨rfl,_,rfl⟩
 ·rw[lK (by omega)];have D:decide ((t.size:Int)<=(a:Int))=false:=by simp;omega
  have o:=kM t a (by omega);have I:=mT t a;have J:(0:Int)<=(a:Int)/\(a:Int)<(t.size:Int):=by omega
  have F:IntKind.i64.wrap (bt t a:Int)=(bt t a:Int):=IntWalk.i64_in _ (by omega);go_enter func97,ntmps97;go_wp2;go_quiet (fail);go_wp2;go_quiet (fail);go_wp2;go_ret;exact⟨rfl,_,NE _ _ _⟩
theorem K2(c:Nat)(s:tB)(w:tW)(hs:s.size<=1000000):
  QX LF 131 #[.int .u8 (c:Int),.string s] w λ e w'=>e=.returned (.bool (Hs c s))/\∃q,w'=w.drewN q:=by
 have I:QP (Hs c s=decide (∃i,i<s.size/\bt s i=c)):=rfl;go_enter func131,ntmps131;go_wp2
 go_loopw [5] (λ x wr=>∃i q:Nat,i<=s.size/\x=.int .i64 (i:Int)/\(∀k,k<i->bt s k≠c)/\wr=w.drewN q) (λ x _=>s.size-(QO x).toNat)
 case atStart=>exact⟨0,0,by omega,rfl,λ k h=>by omega,rfl⟩
 case round=>
  obtain⟨i,q,hi,rfl,C,rfl⟩:=hrel;replace C:QP (∀k,k<i->bt s k≠c):=C;by_cases D:i<s.size
  ·have F:(s[i]'D).toNat=bt s i:=kM s i D;have U:(0:Int)<=(i:Int)/\(i:Int)<(s.size:Int):=by omega
   by_cases e:bt s i=c
   ·have d:((((s[i]'D).toNat:Nat):Int)==(c:Int))=true:=by rw[F,e];simp
    have J:QP (Hs c s=true):=by unfold QP;rw[I.o,aE];exact⟨i,D,e⟩
    clear e F;go_wp2;go_ret;exact⟨by rw[J.o];simp,_,rfl⟩
   ·have d:((((s[i]'D).toNat:Nat):Int)==(c:Int))=false:=by rw[F,aC];omega
    have X:QP (∀k,k<i+1->bt s k≠c):=λ k hk=>by
     by_cases Q:k=i
     ·rw[Q];exact e
     ·exact C.o k (by omega)
    clear e F;go_wp2;go_roundw
    case rel=>exact⟨i+1,_,D,by go_num,X.o,rfl⟩
    case measure=>simp[QO];omega
  ·have e:i=s.size:=by omega
   subst e;have Y:QP (Hs c s=false):=by
    unfold QP;rw[I.o,aF];rintro⟨k,V,Z⟩;exact C.o k V Z
   go_wp2;go_ret;exact⟨by rw[Y.o];simp,q,rfl⟩
theorem L2(c:Nat)(w:tW)(Q:c<256):
  QX LF 132 #[.int .u8 (c:Int)] w λ e w'=>e=.returned (.bool (nQ (c:Int)))/\∃q,w'=w.drewN q:=by
 by_cases I:33<=c
 ·have D:decide ((33:Int)<=(c:Int))=true:=by simp;omega
  by_cases J:c<=126
  ·have F:decide ((c:Int)<=126)=true:=by simp;omega
   have C:QP (nQ (c:Int)=true):=by unfold QP nQ;rw[aE];omega
   go_enter func132,ntmps132;go_wp2;go_ret;exact⟨by rw[C.o];simp,0,rfl⟩
  ·have F:decide ((c:Int)<=126)=false:=by simp;omega
   have C:QP (nQ (c:Int)=false):=by unfold QP nQ;rw[aF];omega
   go_enter func132,ntmps132;go_wp2;go_ret;exact⟨by rw[C.o];simp,0,rfl⟩
 ·have D:decide ((33:Int)<=(c:Int))=false:=by simp;omega
  have C:QP (nQ (c:Int)=false):=by unfold QP nQ;rw[aF];omega
  go_enter func132,ntmps132;go_wp2;go_ret;exact⟨by rw[C.o];simp,0,rfl⟩
def vB(c:Nat):Nat×Bool:=if c=110 then(10,true)else if c=115 then(32,true)else(c,nQ (c:Int) && !Hs c C8)
theorem Am(c:Nat)(w:tW)(J:c<256):
  QX LF 130 #[.int .u8 (c:Int)] w λ e w'=>e=.returned (.tuple #[.int .u8 ((vB c).1:Int),.bool (vB c).2])/\∃q,w'=w.drewN q:=by
 by_cases C:c=110
 ·have F:QP (vB c=(10,true)):=by unfold QP vB;rw[aB C]
  have I:((c:Int)==110)=true:=by rw[C];rfl
  clear C;go_enter func130,ntmps130;go_wp2;go_ret2;exact⟨by rw[F.o];simp,0,rfl⟩
 ·have I:((c:Int)==110)=false:=by rw[aC];omega
  by_cases D:c=115
  ·have F:QP (vB c=(32,true)):=by unfold QP vB;rw[aA C,aB D]
   have Q:((c:Int)==115)=true:=by rw[D];rfl
   clear C D;go_enter func130,ntmps130;go_wp2;go_ret2;exact⟨by rw[F.o];simp,0,rfl⟩
  ·have Q:((c:Int)==115)=false:=by rw[aC];omega
   have F:QP (vB c=(c,nQ (c:Int) && !Hs c C8)):=by unfold QP vB;rw[aA C,aA D]
   clear C D;go_enter func130,ntmps130;go_wp2_with fail;refine(K2 c C8 _ (by decide)).mono ?_;rintro e w1 ⟨rfl,V,rfl⟩;go_wp2_with fail;refine(L2 c _ J).mono ?_;rintro e w2 ⟨rfl,U,rfl⟩;generalize Hs c C8=am at*;generalize nQ (c:Int)=vi at*
   cases vi<;>cases am
   all_goals
    go_wp2;go_ret2;exact⟨by rw[F.o];simp,_,by first|rfl|(rw[NE])⟩
def qS(s:tB)(i:Nat):Nat×Nat×Bool:=
 if s.size<=i then(0,i,false)else if bt s i=92 then(if s.size<=i+1 then(0,i,false)else((vB (bt s (i+1))).1,i+2,(vB (bt s (i+1))).2))
 else(bt s i,i+1,nQ (bt s i:Int) && !Hs (bt s i) Xv)
theorem Gi(s:tB)(i:Nat)(w:tW)(hs:s.size<=1000)(hi:i<=1000):
  QX LF 135 #[.string s,.int .i64 (i:Int)] w λ e w'=>e=.returned (.tuple #[.int .u8 ((qS s i).1:Int),.int .i64 ((qS s i).2.1:Int),.bool (qS s i).2.2])/\∃q,w'=w.drewN q:=by
 by_cases J:s.size<=i
 ·have F:QP (qS s i=(0,i,false)):=by unfold QP qS;rw[aB J]
  have Z:decide ((s.size:Int)<=(i:Int))=true:=by simp;omega
  go_enter OL,OD;go_wp2;go_ret3;exact⟨by rw[F.o];simp,0,rfl⟩
 ·have Q:i<s.size:=by omega
  have Z:decide ((s.size:Int)<=(i:Int))=false:=by simp;omega
  have hb:(s[i]'Q).toNat=bt s i:=kM s i Q;have V:=mT s i;have aL:(0:Int)<=(i:Int)/\(i:Int)<(s.size:Int):=by omega
  have I:QP (qS s i=if bt s i=92 then(if s.size<=i+1 then(0,i,false)else((vB (bt s (i+1))).1,i+2,(vB (bt s (i+1))).2))else(bt s i,i+1,nQ (bt s i:Int) && !Hs (bt s i) Xv)):=by unfold QP qS;rw[aA J]
  generalize bt s i=x at*;by_cases D:x=92
  ·have d2:((x:Int)==92)=true:=by rw[D];rfl
   by_cases Y:s.size<=i+1
   ·have F:QP (qS s i=(0,i,false)):=by unfold QP;rw[I.o,aB D,aB Y]
    have d3:decide ((s.size:Int)<=(i:Int)+1)=true:=by simp;omega
    clear J D I;go_enter OL,OD;go_wp2;go_ret3;exact⟨by rw[F.o];simp,0,rfl⟩
   ·have F:QP (qS s i=((vB (bt s (i+1))).1,i+2,(vB (bt s (i+1))).2)):=by unfold QP;rw[I.o,aB D,aA Y]
    have C:i+1<s.size:=by omega
    have d3:decide ((s.size:Int)<=(i:Int)+1)=false:=by simp;omega
    have aO:(s[i+1]'C).toNat=bt s (i+1):=kM s (i+1) C;have U:=mT s (i+1);have X:(0:Int)<=(i:Int)+1/\(i:Int)+1<(s.size:Int):=by omega
    generalize bt s (i+1)=y at*;clear J D I;go_enter OL,OD;go_wp2_with fail;refine(Am y _ U).mono ?_;rintro e w1 ⟨rfl,q1,rfl⟩;generalize vB y=ey at*;obtain⟨e1,e2⟩:=ey;go_wp2;go_ret3;exact⟨by rw[F.o];simp,_,rfl⟩
  ·have d2:((x:Int)==92)=false:=by rw[aC];omega
   have F:QP (qS s i=(x,i+1,nQ (x:Int) && !Hs x Xv)):=by unfold QP;rw[I.o,aA D]
   clear J D I;go_enter OL,OD;go_wp2_with fail;refine(K2 x Xv _ (by decide)).mono ?_;rintro e w1 ⟨rfl,q1,rfl⟩;go_wp2_with fail;refine(L2 x _ V).mono ?_;rintro e w2 ⟨rfl,q2,rfl⟩;generalize Hs x Xv=am at*;generalize nQ (x:Int)=vi at*
   cases vi<;>cases am
   all_goals
    go_wp2;go_ret3;exact⟨by rw[F.o];simp,_,by first|rfl|(rw[NE])⟩
def jR(c:Nat):Int:=if 65<=c/\c<69 then(c:Int)-65 else -1
theorem B4(c:Nat)(w:tW)(U:c<256):
  QX LF 27 #[.int .u8 (c:Int)] w λ e w'=>e=.returned (.int .i64 (jR c))/\∃q,w'=w.drewN q:=by
 by_cases J:65<=c
 ·obtain⟨k,rfl⟩:∃k,c=k+65:=⟨c-65,by omega⟩
  have D:decide ((k:Int)<0)=false:=by simp
  have I:((k+65:Nat):Int)-65=(k:Int):=by omega
  by_cases Q:k<4
  ·have C:QP (jR (k+65)=(k:Int)):=by unfold QP jR;rw[aB (by omega)];omega
   have F:decide ((4:Int)<=(k:Int))=false:=by simp;omega
   go_enter func27,ntmps27;go_wp2;go_ret;exact⟨by rw[C.o];simp,0,rfl⟩
  ·have C:QP (jR (k+65)= -1):=by unfold QP jR;rw[aA (by omega)]
   have F:decide ((4:Int)<=(k:Int))=true:=by simp;omega
   go_enter func27,ntmps27;go_wp2;go_ret;exact⟨by rw[C.o];simp,0,rfl⟩
 ·have C:QP (jR c= -1):=by unfold QP jR;rw[aA (by omega)]
  have D:decide ((c:Int)-65<0)=true:=by simp;omega
  go_enter func27,ntmps27;go_wp2;go_ret;exact⟨by rw[C.o];simp,0,rfl⟩
def N3(c:Nat):Nat:=if c=46 then 0 else if c=45 then 1 else c-65+2
theorem Wf(c:Nat)(w:tW)(C:c=46\/c=45\/(65<=c/\c<69)):
  QX LF 49 #[.int .u8 (c:Int)] w λ e w'=>e=.returned (.int .u8 (N3 c:Int))/\∃q,w'=w.drewN q:=by
 have o:c=46\/c=45\/c=65\/c=66\/c=67\/c=68:=by omega
 rcases o with rfl|rfl|rfl|rfl|rfl|rfl
 all_goals
  go_enter func49,ntmps49;go_wp2;go_ret;exact⟨by simp[N3],0,rfl⟩
theorem zT(C:Nat->Int)(g n aJ:Nat)(x:Int)(w:tW)(J:x= -1\/(0<=x/\x<n))(h:P9 w g n C):
  QX LF 102 #[.slice (some ⟨g,0,none⟩) n aJ,.int .i64 x] w λ e w'=>e=.returned (.int .i64 (pG C x))/\w'=w:=by
 by_cases D:x= -1
 ·subst D;go_enter func102,ntmps102;go_wp2;go_ret;exact⟨rfl,rfl⟩
 ·have U:(x== -1)=false:=aC.2 D;obtain⟨k,rfl⟩:∃k:Nat,x=(k:Int):=⟨x.toNat,by omega⟩
  have I:k<n:=by omega
  have V:=h k I;have Q:QP (pG C (k:Int)=C k):=by unfold QP pG;rw[aA D];simp
  have F:=iI k n (by omega)
  clear D J h;go_enter func102,ntmps102;go_wp2;go_ret;exact⟨by rw[Q.o];rfl,rfl⟩
theorem Ra(C:Nat->Int)(g n aJ K top pg I:Nat)(zb tk:Nat->Nat)(nx:Nat->Nat->Int)(s t:Nat)(w:tW)(hs:s<n)(Y:t<n)(hK:K<=300)
  (hr:∀i k,i<n->k<K->nx i k= -1\/(0<=nx i k/\nx i k<n)) (V:Wd w top g n K zb tk nx) (hP:P9 w pg n C):
  QX LF 101 #[.slice (some ⟨g,0,none⟩) n aJ,.slice (some ⟨pg,0,none⟩) n I,.int .i64 s,.int .i64 t] w λ e w'=>e=.returned (.bool (iS C tk nx K s t))/\∃q,w'=w.drewN q:=by
 have p1:=hP s hs;have p2:=hP t Y;have t1:=V.tkc s hs;have t2:=V.tkc t Y;have n1:=V.nxc s hs;have n2:=V.nxc t Y;have bM:=iI s n (by omega)
 have bO:=iI t n (by omega)
 have HS:=fV V;have HP:=fV hP;have HR:=fV hr;clear V hP hr;by_cases Q:C s=C t
 ·have aR:(C s !=C t)=false:=by rw[Q];simp
  by_cases Z:tk s=tk t
  ·have bK:((tk s:Int) !=(tk t:Int))=false:=by rw[Z];simp
   have X:QP (iS C tk nx K s t=Bw C nx s t K):=by unfold QP iS;rw[decide_eq_true Q,decide_eq_true Z];simp
   generalize C s=a1 at*;generalize C t=a2 at*;generalize tk s=a3 at*;generalize tk t=a4 at*;clear Q Z;go_enter func101,ntmps101;go_wp2_with fail;go_quiet (fail);go_wp2_with fail
   go_loopw [41] (λ x wr=>∃(k q:Nat),x=.int .i64 (k:Int)/\k<=K/\wr=w.drewN q/\∀j,j<k->pG C (nx s j)=pG C (nx t j)) (λ x _=>K-(QO x).toNat)
   case atStart=>exact⟨0,nq,rfl,zL,rfl,λ j hj=>absurd hj (ON _)⟩
   case round=>
    obtain⟨k,q,rfl,hk,rfl,J⟩:=hrel;have HA:=fV J;clear J;by_cases D:k<K
    ·have c1:=HS.o.ldc s k hs D;have c2:=HS.o.ldc t k Y D;have aT:=fV (λ W (hW:P9 W pg n C)=>zT C pg n I (nx s k) W (HR.o s k hs D) hW);have aL:=fV (λ W (hW:P9 W pg n C)=>zT C pg n I (nx t k) W (HR.o t k Y D) hW);have HN:=fV (@EI C nx s t K k D);have HL:QP (pG C (nx s k)=pG C (nx t k)->∀j,j<k+1->pG C (nx s j)=pG C (nx t j)):=λ h j hj=>by
      by_cases e:j=k
      ·rw[e];exact h
      ·exact HA.o j (by omega)
     have bN:=iI k K (by omega)
     have bC:=dT k K (by omega)
     generalize nx s k=x1 at*;generalize nx t k=x2 at*;go_wp2_with fail;refine(aT.o (w.drewN q) HP.o).mono ?_;rintro e w2 ⟨rfl,rfl⟩;go_wp2_with fail;refine(aL.o (w.drewN q) HP.o).mono ?_;rintro e w2 ⟨rfl,rfl⟩;by_cases F:pG C x1=pG C x2
     ·have aO:(pG C x1 !=pG C x2)=false:=by rw[F];simp
      have aW:=fV (HL.o F);generalize pG C x1=y1 at*;generalize pG C x2=y2 at*;clear F;go_wp2;go_roundw
      case rel=>exact⟨k+1,q,by go_num,D,rfl,aW.o⟩
      case measure=>simp[QO];omega
     ·have aO:(pG C x1 !=pG C x2)=true:=by rw[aD];exact F
      have U:=fV (HN.o F);generalize pG C x1=y1 at*;generalize pG C x2=y2 at*;clear F;go_wp2;go_ret;exact⟨by rw[X.o,U.o];rfl,_,rfl⟩
    ·have e:k=K:=by omega
     subst e;have U:QP (Bw C nx s t k=true):=BD HA.o;have bC:=dF k k (by omega)
     go_wp2;go_ret;exact⟨by rw[X.o,U.o];rfl,_,rfl⟩
  ·have bK:((tk s:Int) !=(tk t:Int))=true:=by rw[aD];omega
   have X:QP (iS C tk nx K s t=false):=by unfold QP iS;rw[decide_eq_false Z];simp
   generalize C s=a1 at*;generalize C t=a2 at*;generalize tk s=a3 at*;generalize tk t=a4 at*;clear Q Z;go_enter func101,ntmps101;go_wp2_with fail;go_quiet (fail);go_wp2;go_ret;exact⟨by rw[X.o];rfl,_,rfl⟩
 ·have aR:(C s !=C t)=true:=by rw[aD];exact Q
  have X:QP (iS C tk nx K s t=false):=by unfold QP iS;rw[decide_eq_false Q];simp
  generalize C s=a1 at*;generalize C t=a2 at*;clear Q;go_enter func101,ntmps101;go_wp2_with fail;go_quiet (fail);go_wp2;go_ret;exact⟨by rw[X.o];rfl,_,rfl⟩
theorem I1{w:tW}{base':Nat}{e:TypeId}{xs:List tV}(h:w.ownsRow aH e size (.slice (some ⟨g,0,none⟩) n aJ) n xs)(I:base'<=g):w.ownsRow base' e size (.slice (some ⟨g,0,none⟩) n aJ) n xs:=by
 refine⟨h.1,?_⟩;rcases h.2 with D|⟨Q,C,o,F,J,rest⟩
 ·exact .inl D
 ·cases F
  exact .inr ⟨g,aJ,o,rfl,I,rest⟩
def Sy(w:tW)(a b:List Nat)(e:Ending)(w':tW):Prop:=
 ∃o F C D,e=.returned (.tuple #[.slice (some ⟨o,0,none⟩) a.length F,.slice (some ⟨C,0,none⟩) b.length D])/\P9 w' o a.length (iY a)/\P9 w' C b.length (iY b)/\o<w'.heap.size/\C<w'.heap.size/\w.heap.size<=o/\w.heap.size<=C/\Bl w w'
theorem Xa(pt:Nat->Int)(g n aJ K pg cF:Nat)(zb tk:Nat->Nat)(nx:Nat->Nat->Int)(w:tW)(hn:n<=2000)(hK:K<=300)
  (hr:∀i k,i<n->k<K->nx i k= -1\/(0<=nx i k/\nx i k<n)) (hS:Wd w w.heap.size g n K zb tk nx) (hP:P9 w pg n pt) (hW:pg<w.heap.size):
  QX LF 72 #[.slice (some ⟨g,0,none⟩) n aJ,.slice (some ⟨pg,0,none⟩) n cF] w λ e w'=>Sy w (kX n (iS pt tk nx K)).1 (kX n (iS pt tk nx K)).2 e w':=by
 obtain⟨i0,hN,hG,aT,hB⟩:=QT bU;have HI:QP (Tryz.prog.info? 3=some i0/\i0.zero=some (.int .i64 0)/\i0.size=1/\i0.bytes=8):=⟨hN,hG,aT,hB⟩
 clear hN hG aT hB;have HS:=fV hS;have HP:=fV hP;have HR:=fV hr;clear hS hP hr;go_enter func72,ntmps72;go_wp2_with (first|(at_make;refine QU w rfl _ _ 59 rfl w.heap.size 3 i0 (.int .i64 0) 1 MJ HI.o.1 HI.o.2.1 HI.o.2.2.1 .i64 .i64 _ n rfl rfl rfl (by rw[HI.o.2.2.2];omega) (by unfold QW;omega) lR ?_;intro w1 Z aO));obtain⟨Q,EQ⟩:=xE (iS pt tk nx K)
 replace EQ:=fV EQ;have hD:QP (Bl w w1):=⟨aO.os,aO.tape,aO.output,aO.size,λ k hk=>aO.block k hk (by simp)⟩
 have aT:w.heap.size<w1.heap.size:=by have:=(Z.lt w.heap.size rfl).2;omega
 have hH:=fV (Z.alloc (.cells #[] 3));have eS:=fV (hD.o.alloc (MB aT) (.cells #[] 3));have hC:QP ((w1.alloc (.cells #[] 3)).ownsRow (w.heap.size+1) 3 1 (.slice (some ⟨w1.heap.size,0,none⟩) 0 0) 0 []):=I1 (K5 w1 3) aT;clear Z aO hD;generalize w1.alloc (.cells #[] 3)=w2 at*;generalize w1.heap.size=g20 at*
 go_loopg [6,7,16] n (λ gk fv sv iv wr=>∃(aK aN:List Nat)(s g2 c2:Nat),fv=.slice (some ⟨w.heap.size,0,none⟩) aK.length n/\sv=.slice (some ⟨g2,0,none⟩) aN.length c2/\iv=.int .i64 (s:Int)/\s+gk=n/\aK.length=s/\aN.length<=100/\
  (∀x∈aN,x<s)/\kX n Q=kH Q gk s aK aN/\wr.ownsRow w.heap.size 3 1 (.slice (some ⟨w.heap.size,0,none⟩) aK.length n) aK.length (pA aK)/\
  wr.ownsRow (w.heap.size+1) 3 1 (.slice (some ⟨g2,0,none⟩) aN.length c2) aN.length (pA aN)/\Bl w wr)
 case atStart=>exact⟨[],[],0,g20,0,rfl,rfl,rfl,by omega,rfl,by simp,λ x hx=>absurd hx (OV),rfl,hH.o,hC.o,eS.o⟩
 case round=>
  obtain⟨aK,aN,s,g2,c2,rfl,rfl,rfl,nL,hJ,eN,hF,hT,eR,hL,hb⟩:=hrel;have HQ:=fV hT;have aL:=fV eR;have U:=fV hL;have HB:=fV hb;have cP:=fV hF;have bO:=fV hJ;clear hT eR hL hb hF hJ hH hC eS;have hQ:w.heap.size<wr.heap.size:=(aL.o.lt _ rfl).2;by_cases hU:s<n
  ·obtain⟨d,rfl⟩:∃d,gk=d+1:=⟨gk-1,by omega⟩
   have hV:=dT s n (by omega)
   have hE:=fV (HS.o.below HB.o lR);have gL:=fV (HP.o.below HB.o hW);have eX:=fV (P9.of_row U.o);go_upto_block 2 with fail
   go_cut [9] from 17 to 51 (λ fv wc=>∃q,fv=.int .i64 ((gW Q aN s aN.length:Nat):Int)/\wc=wr.drewN q)
   case first=>
    go_wp2_with fail
    go_loopg [9] aN.length (λ gj fv wj=>∃(f q:Nat),fv=.int .i64 (f:Int)/\f+gj=aN.length/\wj=wr.drewN q/\gW Q aN s aN.length=gW Q aN s gj)
    case atStart=>exact⟨0,0,rfl,by omega,rfl,rfl⟩
    case round=>
     obtain⟨f,q,rfl,hX,rfl,eT⟩:=hrel;have eM:=fV eT;clear eT;by_cases hA:f<aN.length
     ·obtain⟨j,rfl⟩:∃j,gk=j+1:=⟨gk-1,by omega⟩
      have c1:=eX.o f hA;have lH:=D8 cP.o hA;have HL:QP (iY aN f=((aN.getD f 0:Nat):Int)):=rfl;rw[HL.o]at c1;have D:= @D0 Q aN s f j hX;generalize aN.getD f 0=x at*;have aW:=Ra pt g n aJ K w.heap.size pg cF zb tk nx x s (wr.drewN q) (by omega) hU hK HR.o (hE.o.drewN q) gL.o;rw[EQ.o]at aW;have eL:decide ((f:Int)<(aN.length:Int))=true:=by simp;omega
      have nN:(0:Int)<=(f:Int)/\(f:Int)<(aN.length:Int):=by omega
      cases hq:Q x s with
      | true=>
       rw[hq]at aW D;rw[aB rfl]at D;have V:QP (gW Q aN s aN.length=f):=eM.o.trans D;clear D hq;go_wp2_with fail;refine aW.mono ?_;rintro e w3 ⟨rfl,q',rfl⟩;go_wp2;go_meet
       case rel=>exact⟨q+q',by rw[V.o],rfl⟩
      | false=>
       rw[hq]at aW D;rw[aA (by decide)]at D;have V:QP (gW Q aN s aN.length=gW Q aN s j):=eM.o.trans D;clear D hq;go_wp2_with fail;refine aW.mono ?_;rintro e w3 ⟨rfl,q',rfl⟩;go_wp2;go_roundg j
       case measure=>omega
       case rel=>exact⟨f+1,q+q',by go_num,by omega,rfl,V.o⟩
     ·have e:gk=0:=by omega
      subst e;have eL:decide ((f:Int)<(aN.length:Int))=false:=by simp;omega
      have V:QP (gW Q aN s aN.length=f):=eM.o.trans (by rw[gW];omega);go_wp2;go_meet
      case rel=>exact⟨q,by rw[V.o],rfl⟩
   case rest=>
    obtain⟨q,rfl,rfl⟩:=hcut;have bM:QP ((wr.drewN q).ownsRow w.heap.size 3 1 (.slice (some ⟨w.heap.size,0,none⟩) aK.length n) aK.length (pA aK)):=aL.o;have I:QP ((wr.drewN q).ownsRow (w.heap.size+1) 3 1 (.slice (some ⟨g2,0,none⟩) aN.length c2) aN.length (pA aN)):=U.o;have cN:QP (Bl w (wr.drewN q)):=⟨HB.o.os,HB.o.tape,HB.o.output,HB.o.size,HB.o.block⟩
    have aR:w.heap.size<(wr.drewN q).heap.size:=hQ;have D:kH Q (d+1) s aK aN=if gW Q aN s aN.length=aN.length then
     (if 100<aN.length+1 then(aK,aN++[s])else kH Q d (s+1) (aK++[aN.length]) (aN++[s]))else kH Q d (s+1) (aK++[gW Q aN s aN.length]) aN:=rfl
    have hY:=tF Q aN s aN.length;clear aL U HB hE gL eX;generalize wr.drewN q=wq at*;generalize gW Q aN s aN.length=fp at*;by_cases X:fp=aN.length
    ·rw[aB X]at D;have eL:((fp:Int)==(aN.length:Int))=true:=by rw[X];simp
     have iN:=(I.o.lt g2 rfl).1;by_cases bS:100<aN.length+1
     ·rw[aB bS]at D;have V:QP (kX n Q=(aK,aN++[s])):=HQ.o.trans D;have hR:decide ((100:Int)<((aN.length+1:Nat):Int))=true:=by simp;omega
      have hI:decide ((100:Int)<(aN.length:Int)+1)=true:=by simp;omega
      clear D X;go_wp2_with (first|(at_builtin;refine gB wq rfl (.tmp 40) (.tmp 42) 59 rfl (w.heap.size+1) 3 (.int .i64 0) 1 8 MJ bU rfl (by decide) (by decide) (.slice (some ⟨g2,0,none⟩) aN.length c2) aN.length (pA aN) [.int .i64 (s:Int)] _ rfl I.o _ rfl rfl rfl (by simp[LZ]) (by omega) (by omega) ?_;intro g4 cap4 w4 J C bN bT;have bK:=fV ((bM.o.alloc _).kept C (.inr (λ e=>absurd (show w.heap.size=g2 by simpa[LN]using e) (by omega))));have eO:QP (Bl w w4):=(cN.o.alloc (MB aR) _).grown C (LS (MB aR) (by simp)) (λ k hk=>LS (NY _) (I.o.lt k hk).1);have bC:=fV J;clear J C bN));go_ret2;refine⟨w.heap.size,n,g4,cap4,?_,?_,?_,?_,bT,lR,?_,eO.o⟩
      ·rw[EQ.o,V.o];simp
      ·rw[EQ.o,V.o];exact P9.of_row bK.o
      ·rw[EQ.o,V.o];refine P9.of_row (aH:=w.heap.size+1) (e:=3) (aJ:=cap4) ?_;rw[sA,LO];exact bC.o
      ·exact(bK.o.lt _ rfl).2
      ·have:=(bC.o.lt g4 rfl).1;omega
     ·rw[aA bS]at D;have V:QP (kX n Q=kH Q d (s+1) (aK++[fp]) (aN++[s])):=by unfold QP;rw[X];exact HQ.o.trans D
      have hR:decide ((100:Int)<((aN.length+1:Nat):Int))=false:=by simp;omega
      have hI:decide ((100:Int)<(aN.length:Int)+1)=false:=by simp;omega
      clear D X;go_wp2_with (first|(at_builtin;refine gB wq rfl (.tmp 40) (.tmp 42) 59 rfl (w.heap.size+1) 3 (.int .i64 0) 1 8 MJ bU rfl (by decide) (by decide) (.slice (some ⟨g2,0,none⟩) aN.length c2) aN.length (pA aN) [.int .i64 (s:Int)] _ rfl I.o _ rfl rfl rfl (by simp[LZ]) (by omega) (by omega) ?_;intro g4 cap4 w4 J C bN bT;have bK:=fV ((bM.o.alloc _).kept C (.inr (λ e=>absurd (show w.heap.size=g2 by simpa[LN]using e) (by omega))));have eO:QP (Bl w w4):=(cN.o.alloc (MB aR) _).grown C (LS (MB aR) (by simp)) (λ k hk=>LS (NY _) (I.o.lt k hk).1);have bC:=fV J;clear J C bN)|(at_builtin;refine kY w4 rfl (.tmp 47) (.tmp 49) 59 rfl w.heap.size 3 (.int .i64 0) 1 8 MJ bU w.heap.size aK.length n (pA aK) [.int .i64 (fp:Int)] _ rfl bK.o _ rfl rfl rfl (by simp[LZ]) (by have:=bO.o;omega) ?_;intro w6 Y F));go_roundg d
      case measure=>omega
      case rel=>
       have hM:=(bK.o.lt _ rfl).2;refine⟨aK++[fp],aN++[s],s+1,g4,cap4,by simp,by simp,by go_num,by omega,by have:=bO.o;simp;omega,by simp;omega,λ x hx=>?_,V.o,by rw[sA,LO];exact Y,?_,?_⟩
       ·rcases List.mem_append.1 hx with h|h
        ·have:=cP.o x h;omega
        ·rw[OU]at h;omega
       ·rw[sA,LO];exact(bC.o.alloc _).kept F (.inr (by have:=(bC.o.lt g4 rfl).1;simp[LN];omega))
       ·exact(eO.o.alloc (MB hM) _).grown F (LS (MB hM) (by simp)) (λ k hk=>by injection hk;omega)
    ·rw[aA X]at D;have V:QP (kX n Q=kH Q d (s+1) (aK++[fp]) aN):=HQ.o.trans D;have eL:((fp:Int)==(aN.length:Int))=false:=by rw[aC];omega
     have hR:decide ((100:Int)<(aN.length:Int))=false:=by simp;omega
     clear D X;go_wp2_with (first|(at_builtin;refine kY wq rfl (.tmp 47) (.tmp 49) 59 rfl w.heap.size 3 (.int .i64 0) 1 8 MJ bU w.heap.size aK.length n (pA aK) [.int .i64 (fp:Int)] _ rfl bM.o _ rfl rfl rfl (by simp[LZ]) (by have:=bO.o;omega) ?_;intro w6 Y F));go_roundg d
     case measure=>omega
     case rel=>
      refine⟨aK++[fp],aN,s+1,g2,c2,by simp,rfl,by go_num,by omega,by have:=bO.o;simp;omega,eN,λ x hx=>by have:=cP.o x hx;omega,V.o,by rw[sA,LO];exact Y,?_,?_⟩
      ·exact(I.o.alloc _).kept F (.inr (by have:=(I.o.lt g2 rfl).1;simp[LN];omega))
      ·exact(cN.o.alloc (MB aR) _).grown F (LS (MB aR) (by simp)) (λ k hk=>by injection hk;omega)
  ·have e:gk=0:=by omega
   subst e;have hV:=dF s n (by omega)
   have V:QP (kX n Q=(aK,aN)):=HQ.o;go_wp2;go_ret2;refine⟨w.heap.size,n,g2,c2,?_,?_,?_,?_,?_,lR,?_,HB.o⟩
   ·rw[EQ.o,V.o];rfl
   ·rw[EQ.o,V.o];exact P9.of_row aL.o
   ·rw[EQ.o,V.o];exact P9.of_row U.o
   ·exact hQ
   ·exact(U.o.lt _ rfl).2
   ·have:=(U.o.lt g2 rfl).1;omega
def Gf(w:tW)(K:Nat)(l:List (Nat×List Int))(e:Ending)(w':tW):Prop:=
 ∃(B:Nat)(zs:List ((Nat×List Int)×Nat)),w.heap.size<=B/\e=.returned (.slice (some ⟨B,0,none⟩) zs.length zs.length)/\zs.map (·.1)=l/\
   w'.ownsRow B 121 2 (.slice (some ⟨B,0,none⟩) zs.length zs.length) zs.length (Ju K zs)/\pQ w' (B+1) zs/\Bl w w'
theorem Mh(aK aN:List Nat)(g n aJ K pg bM fg eM:Nat)(zb tk:Nat->Nat)(nx:Nat->Nat->Int)(w:tW)(hK:K<=300)(hf:aN.length<=100)(eT:∀x∈aN,x<n)
  (hr:∀i k,i<n->k<K->nx i k= -1\/(0<=nx i k/\nx i k<n)) (hS:Wd w w.heap.size g n K zb tk nx) (hP:P9 w pg n (iY aK)) (eX:pg<w.heap.size) (hF:P9 w fg aN.length (iY aN)) (gL:fg<w.heap.size):
  QX LF 73 #[.slice (some ⟨g,0,none⟩) n aJ,.slice (some ⟨pg,0,none⟩) n bM,.slice (some ⟨fg,0,none⟩) aN.length eM] w λ e w'=>Gf w K (nW tk nx K aK aN) e w':=by
 obtain⟨i0,aR,Y,U,V⟩:=QT bU;have HI:QP (Tryz.prog.info? 3=some i0/\i0.zero=some (.int .i64 0)/\i0.size=1/\i0.bytes=8):=⟨aR,Y,U,V⟩
 clear aR Y U V;obtain⟨i1,aR,Y,U,V⟩:=QT cS;have bC:QP (Tryz.prog.info? 121=some i1/\i1.zero=some (.agg #[.int .i64 0,.slice none 0 0])/\i1.size=2/\i1.bytes=32):=⟨aR,Y,U,V⟩
 clear aR Y U V;have HS:=fV hS;have HP:=fV hP;have HR:=fV hr;have HF:=fV hF;have hN:=fV eT;clear hS hP hr hF eT;obtain⟨m,hm⟩:=xE (aN.length)
 rw[hm]at hf ⊢;replace hm:=fV hm;go_enter func73,ntmps73;go_wp2_with (first|(at_make;refine QU w rfl _ _ 110 rfl w.heap.size 121 i1 _ 2 underlying110 bC.o.1 bC.o.2.1 bC.o.2.2.1 .i64 .i64 _ m rfl rfl rfl (by rw[bC.o.2.2.2];omega) (by unfold QW;omega) lR ?_;intro w2 D hg));have bO:QP (Below w.heap.size w w2):=⟨hg.os,hg.tape,hg.output,hg.size,λ k hk=>hg.block k hk (by simp)⟩
 have eL:=fV D;clear D hg;obtain⟨B,cP⟩:=xE (w.heap.size)
 rw[cP]at bO eL eX gL HS ⊢
 go_loopg [7,19] m (λ gk x iv wr=>∃(zs:List ((Nat×List Int)×Nat)) (k:Nat),x=.slice (some ⟨B,0,none⟩) k m/\iv=.int .i64 (k:Int)/\zs.length=k/\k+gk=m/\zs.map (·.1)=nW tk nx K aK (aN.take k)/\
  wr.ownsRow B 121 2 (.slice (some ⟨B,0,none⟩) k m) k (Ju K zs)/\pQ wr (B+1) zs/\Below B w wr)
 case atStart=>exact⟨[],0,rfl,rfl,rfl,by omega,by simp[nW],eL.o,pQ.nil _ _,bO.o⟩
 case round=>
  obtain⟨zs,k,rfl,rfl,eN,hX,hB,D,bK,hb⟩:=hrel;have HQ:=fV hB;have HO:=fV D;have HW:=fV bK;have HB:=fV hb;have HX:=fV eN;have hU:B<wr.heap.size:=(D.lt B rfl).2;clear hB D hb eN bK eL bO;by_cases hJ:k<m
  ·obtain⟨g',rfl⟩:∃g',gk=g'+1:=⟨gk-1,by omega⟩
   have Z:k<aN.length:=by rw[hm.o];exact hJ
   have c1:=(HF.o.below HB.o gL) k Z;have aT:=D8 hN.o Z;have hQ:QP (nW tk nx K aK (aN.take (k+1))=nW tk nx K aK (aN.take k)++[(tk (aN.getD k 0),(NQ K).map λ g=>pG (iY aK) (nx (aN.getD k 0) g))]):=by
    unfold QP nW;rw[List.take_add_one,LM Z,OP,LY,LM Z];rfl
   have HL:QP (iY aN k=((aN.getD k 0:Nat):Int)):=rfl;rw[HL.o]at c1;generalize aN.getD k 0=s at*;have aW:=fV (HS.o.below HB.o (by omega));have eR:=fV (HP.o.below HB.o eX);have c2:=aW.o.nxc s aT;have hE:=dT k m (by omega)
   have iN:=iI k m (by omega)
   have hY:=iI s n (by omega)
   have hT:g<wr.heap.size:=by have:=aW.o.bg;omega
   clear Z;go_wp2_with (first|(at_make;refine QU wr rfl _ _ 59 rfl wr.heap.size 3 i0 (.int .i64 0) 1 MJ HI.o.1 HI.o.2.1 HI.o.2.2.1 .i64 .i64 _ K rfl rfl rfl (by rw[HI.o.2.2.2];omega) (by unfold QW;omega) lR ?_;intro w4 aL J;have Q:QP (Below wr.heap.size wr w4):=(⟨J.os,J.tape,J.output,J.size,λ k hk=>J.block k hk (by simp)⟩:Below wr.heap.size wr w4);have c3:=(Q.o.cell (p:=⟨g,s*2+1,none⟩) hT).trans c2;clear c1 c2));have bS:=fV aL;have lH:=fV (aW.o.below Q.o (by omega));have hW:=fV (eR.o.below Q.o (by omega));clear aL J;obtain⟨C,hC⟩:=xE (wr.heap.size)
   rw[hC]at Q bS hU ⊢;clear c3
   go_loopg [10,36] K (λ gj x iv wj=>∃(xs:List Int)(j:Nat),x=.slice (some ⟨C,0,none⟩) j K/\iv=.int .i64 (j:Int)/\j+gj=K/\xs=(NQ j).map (λ g=>pG (iY aK) (nx s g))/\
    wj.ownsRow C 3 1 (.slice (some ⟨C,0,none⟩) j K) j (pN xs)/\Below C wr wj)
   case atStart=>exact⟨[],0,rfl,rfl,by omega,rfl,bS.o,Q.o⟩
   case round=>
    obtain⟨xs,j,rfl,rfl,nL,bT,D,hb⟩:=hrel;have cF:=fV bT;have cN:=fV D;have X:=fV hb;have cF:=fV bT;have cN:=fV D;have X:=fV hb;have aO:C<wr.heap.size:=(D.lt C rfl).2;have eS:=fV (aW.o.below hb (by omega));have hI:=fV (eR.o.below hb (by omega));clear bT D hb bS Q;by_cases bN:j<K
    ·obtain⟨j',rfl⟩:∃j',gk=j'+1:=⟨gk-1,by omega⟩
     have c5:=eS.o.ldc s j aT bN;have hc:=zT (iY aK) pg n bM (nx s j) wr (HR.o s j aT bN) hI.o;have hG:QP ((NQ (j+1)).map (λ g=>pG (iY aK) (nx s g))=xs++[pG (iY aK) (nx s j)]):=by unfold QP;rw[List.range_succ,OP,cF.o];rfl
     generalize nx s j=x1 at*;generalize pG (iY aK) x1=y at*;have hL:=dT j K (by omega)
     have hV:=iI j K (by omega)
     go_wp2_with fail;refine hc.mono ?_;rintro e w5 ⟨rfl,rfl⟩;go_wp2_with (first|(at_builtin;refine kY w5 rfl _ _ 59 rfl C 3 (.int .i64 0) 1 8 MJ bU C j K (pN xs) [.int .i64 y] _ rfl cN.o _ rfl rfl rfl (by simp[LZ]) (by omega) ?_;intro w6 I F));go_roundg j'
     case measure=>omega
     case rel=>
      exact⟨xs++[y],j+1,rfl,by go_num,by omega,hG.o.symm,by rw[tX];exact I,(X.o.alloc (MB aO) _).grown F (LS (MB aO) (by simp)) (λ q hq=>by injection hq;omega)⟩
    ·have e:j=K:=by omega
     subst e;have e2:gk=0:=by omega
     subst e2;have hL:=dF j j (by omega)
     have c5:=eS.o.tkc s aT;have hH:QP (wr.ownsRow B 121 2 (.slice (some ⟨B,0,none⟩) k m) k (Ju j zs)):=fV (iH HO.o (λ q hq=>X.o.block q (by simp[LN]at hq;omega)));have hM:QP (pQ wr (B+1) zs):=HW.o.below X.o (by omega);have hD:QP (Below B w wr):=HB.o.trans (X.o.mono (by omega));have hR:=fV (nV cN.o);generalize tk s=eO at*;go_wp2_with (first|(at_builtin;refine kY wr rfl _ _ 110 rfl B 121 (.agg #[.int .i64 0,.slice none 0 0]) 2 32 underlying110 cS B k m (Ju j zs) [.int .i64 (eO:Int),.slice (some ⟨C,0,none⟩) j j] _ rfl hH.o _ rfl rfl rfl (by simp[LZ]) (by omega) ?_;intro w6 I F));go_roundg g'
     case measure=>omega
     case rel=>
      have hA:=F.size;simp at hA;refine⟨zs++[((eO,xs),C)],k+1,rfl,by go_num,by simp[HX.o],by omega,?_,by rw[Ka];exact I,?_,?_⟩
      ·rw[OP,hQ.o,HQ.o,<-cF.o];rfl
      ·refine((hM.o.grown (kA (World.grownBy.refl _ (some B)) _) (by omega)).snoc ⟨by omega,by simp;omega,?_⟩).grown F (by omega);exact fY hR.o (MC wr _ C aO)
      ·exact(hD.o.alloc (by omega) _).grown F (LS (MB (show B<wr.heap.size by omega)) (by simp)) (λ q hq=>by injection hq;omega)
  ·have e:k=m:=by omega
   subst e;have hE:=dF k k (by omega)
   go_wp2;go_ret;have hx:=HX.o;subst hx;refine⟨B,zs,by rw[cP];exact lR,rfl,?_,HO.o,HW.o,by have hh:=HB.o;rw[<-cP]at hh;exact hh⟩;rw[HQ.o,<-hm.o,List.take_length]
end Go.Proofs.YtgjgjgihceijnaaGreat
namespace Go.Stn
variable {l bA:List Nat}{x s n a:Nat}{b aY:Int}
theorem Oy:∀(k m:Nat)(f:Nat->Nat),(∀i,i<m->f i<k)->(∀i j,i<m->j<m->f i=f j->i=j)->m<=k:=by
 intro k
 induction k with
 | zero=>
  intro m f h _;cases m with
  | zero=>exact lR
  | succ n=>have:=h 0 (by omega);omega
 | succ k ih=>
  intro m f h hi
  cases m with
  | zero=>omega
  | succ n=>
   have:=ih n (λ j=>if f j=k then f n else f j) (λ i D=>by
    by_cases e:f i=k
    ·simp only[aB e];have J:=h n (by omega);have Q:f n≠k:=λ U=>by have:=hi i n (by omega) (by omega) (by omega);omega
     omega
    ·simp only[aA e];have:=h i (by omega);omega) (λ i j D I o=>by
    by_cases C:f i=k<;>by_cases F:f j=k
    ·exact hi i j (by omega) (by omega) (by omega)
    ·simp only[aB C,aA F]at o;have:=hi n j (by omega) (by omega) o;omega
    ·simp only[aA C,aB F]at o;have:=hi i n (by omega) (by omega) o;omega
    ·simp only[aA C,aA F]at o;exact hi i j (by omega) (by omega) o)
   omega
theorem gV{i:Nat}(h:i<l.length):(l++[x]).getD i 0=l.getD i 0:=by
 rw[LY,LY,MQ h]
theorem jD{l:List Nat}{x:Nat}:(l++[x]).getD l.length 0=x:=by
 rw[LY,MF lR];simp
theorem Li{q:Nat->Nat->Bool}:∀d,d<=l.length->gW q l s d<l.length->q (l.getD (gW q l s d) 0) s=true:=by
 intro d
 induction d with
 | zero=>intro _ h;rw[gW]at h;omega
 | succ k ih=>
  intro C h;rw[gW]at h ⊢;split
  ·assumption
  ·rename_i o;rw[aA o]at h;exact ih (by omega) h
structure PI(q:Nat->Nat->Bool)(s:Nat)(aK aN:List Nat):Prop where
 len:aK.length=s
 cl:∀x,x<s->aK.getD x 0<aN.length/\(aN.getD (aK.getD x 0) 0=x\/q (aN.getD (aK.getD x 0) 0) x=true)
 rep:∀f,f<aN.length->aN.getD f 0<s/\aK.getD (aN.getD f 0) 0=f
theorem Hi{q:Nat->Nat->Bool}:∀d s aK aN,PI q s aK aN->(kH q d s aK aN).2.length<=100->PI q (s+d) (kH q d s aK aN).1 (kH q d s aK aN).2:=by
 intro d
 induction d with
 | zero=>intro s aK aN h _;exact h
 | succ k ih=>
  intro s aK aN h D;rw[kH]at D ⊢;by_cases V:gW q aN s aN.length=aN.length
  ·rw[aB V]at D ⊢;by_cases C:100<aN.length+1
   ·rw[aB C]at D;simp at D;omega
   ·rw[aA C]at D ⊢;rw[show s+(k+1)=s+1+k by omega];refine ih (s+1) _ _ ⟨by simp[h.len],λ x Y=>?_,λ f I=>?_⟩ D
    ·by_cases e:x=s
     ·subst e;rw[show(aK++[aN.length]).getD x 0=aN.length by have:= @jD aK aN.length;rw[h.len]at this;exact this];refine⟨by simp,.inl jD⟩
     ·have o:x<s:=by omega
      obtain⟨F,J⟩:=h.cl x o;rw[gV (by rw[h.len];exact o),gV F];exact⟨LH F (by simp),J⟩
    ·simp at I;by_cases e:f=aN.length
     ·subst e;rw[jD];refine⟨by omega,?_⟩;have:= @jD aK aN.length;rw[h.len]at this;exact this
     ·have Q:f<aN.length:=by omega
      obtain⟨F,J⟩:=h.rep f Q;rw[gV Q,gV (by rw[h.len];exact F)];exact⟨by omega,J⟩
  ·rw[aA V]at D ⊢;have U:gW q aN s aN.length<aN.length:=by have:=tF q aN s aN.length;omega
   have X:=Li _ lR U;rw[show s+(k+1)=s+1+k by omega];refine ih (s+1) _ _ ⟨by simp[h.len],λ x Y=>?_,λ f I=>?_⟩ D
   ·by_cases e:x=s
    ·subst e;rw[show(aK++[gW q aN x aN.length]).getD x 0=gW q aN x aN.length by have:= @jD aK (gW q aN x aN.length);rw[h.len]at this;exact this];exact⟨U,.inr X⟩
    ·have o:x<s:=by omega
     obtain⟨F,J⟩:=h.cl x o;rw[gV (by rw[h.len];exact o)];exact⟨F,J⟩
   ·obtain⟨F,J⟩:=h.rep f I;rw[gV (by rw[h.len];exact F)];exact⟨by omega,J⟩
theorem U2{n:Nat}{q:Nat->Nat->Bool}(h:(kX n q).2.length<=100):PI q n (kX n q).1 (kX n q).2:=by
 have:=Hi (q:=q) n 0 [] [] ⟨rfl,λ x C=>by omega,λ f o=>by simp at o⟩ h;rw[MI]at this;exact this
def Ba(n:Nat)(bA:List Nat)(o:Nat):Prop:=bA.length=n/\∀f,f<o->∃s,s<n/\bA.getD s 0=f
theorem Q8{n:Nat}{q:Nat->Nat->Bool}(h:(kX n q).2.length<=100):Ba n (kX n q).1 (kX n q).2.length:=by
 have o:=U2 h;exact⟨o.len,λ f C=>⟨_,(o.rep f C).1,(o.rep f C).2⟩⟩
theorem Dm{o:Nat}{q:Nat->Nat->Bool}(D:Ba n bA o)(J:∀s t,q s t=true->bA.getD s 0=bA.getD t 0)(h:(kX n q).2.length<=100):o<=(kX n q).2.length:=by
 have F:=U2 h;refine Oy _ _ (λ f=>if hf:f<o then(kX n q).1.getD (NK (D.2 f hf)) 0 else 0) (λ i hi=>?_) (λ i j hi I Q=>?_)
 ·simp only[dif_pos hi];exact(F.cl _ (MS (D.2 i hi)).1).1
 ·simp only[dif_pos hi,dif_pos I]at Q;have X:=MS (D.2 i hi);have U:=MS (D.2 j I);generalize NK (D.2 i hi)=a at*;generalize NK (D.2 j I)=b at*;have ha:=(F.cl a X.1).2;have V:=(F.cl b U.1).2;rw[<-Q]at V;have Y:bA.getD ((kX n q).2.getD ((kX n q).1.getD a 0) 0) 0=bA.getD a 0:=by
   rcases ha with C|C
   ·rw[C]
   ·exact J _ _ C
  have Z:bA.getD ((kX n q).2.getD ((kX n q).1.getD a 0) 0) 0=bA.getD b 0:=by
   rcases V with C|C
   ·rw[C]
   ·exact J _ _ C
  rw[<-X.2,<-U.2,<-Y,<-Z]
theorem A8{tk:Nat->Nat}{nx:Nat->Nat->Int}{K t:Nat}(h:iS (iY bA) tk nx K s t=true):bA.getD s 0=bA.getD t 0:=by
 unfold iS at h;simp only[OG,aE]at h;have:=h.1;unfold iY at this;omega
def yZ(n:Nat)(tk:Nat->Nat)(nx:Nat->Nat->Int)(K:Nat):Option (List (Nat×List Int)):=
 (tQ n tk nx K 102 (MU n 0) 0).map λ x=>nW tk nx K x.1 x.2
def Bq(t:tB)(b:Int)(st:gS):gS:=if gG t b st=true then iO st else st
theorem kP{t:tB}{st:gS}(h:gG t b st=true):Bq t b st=iO st:=by unfold Bq;rw[aB h]
theorem mH{t:tB}{st:gS}(h:gG t b st=false):Bq t b st=st:=by unfold Bq;rw[aA (by rw[h];decide)]
theorem j9{t:tB}(h:nQ (gF t a)=true):a<t.size:=by
 unfold nQ at h;rw[aE]at h;rcases OK a t.size with o|o
 ·exact o
 ·rw[jW o]at h;omega
theorem z4{t sp:tB}(h:kV (gF t a) sp=true):a<t.size:=by
 unfold kV at h;rw[OG]at h;exact j9 h.1
theorem iG(st:gS):(iO st).at_=st.at_+1:=rfl
theorem Ss{t:tB}{st:gS}(h:st.at_<=t.size):st.at_<=(uD t st).2.2.at_/\(uD t st).2.2.at_<=t.size:=by
 unfold uD;by_cases o:gG t 110 st=true
 ·rw[aB o];have:=iV (by omega) o;simp only[iG];omega
 ·rw[aA o];by_cases C:gG t 115 st=true
  ·rw[aB C];have:=iV (by omega) C;simp only[iG];omega
  ·rw[aA C];by_cases D:nQ (gF t st.at_)=true/\Fg (gF t st.at_)=false
   ·rw[aB D];have:=j9 D.1;simp only[iG];omega
   ·rw[aA D];exact⟨lR,h⟩
theorem wR{t sp:tB}{st:gS}(h:st.at_<=t.size):st.at_<=(gC t sp st).2.2.at_/\(gC t sp st).2.2.at_<=t.size:=by
 unfold gC;by_cases o:gG t 92 st=true
 ·rw[aB o];have:=iV (by omega) o;have:=Ss (t:=t) (st:=iO st) (by rw[iG];omega);rw[iG]at this;omega
 ·rw[aA o];by_cases C:kV (gF t st.at_) sp=true
  ·rw[aB C];have:=z4 C;simp only[iG];omega
  ·rw[aA C];exact⟨lR,h⟩
theorem r9{t:tB}{st:gS}(h:(uD t st).2.1=true):st.at_<(uD t st).2.2.at_:=by
 unfold uD at h⊢;by_cases o:gG t 110 st=true
 ·rw[aB o];simp only[iG];omega
 ·rw[aA o]at h ⊢;by_cases C:gG t 115 st=true
  ·rw[aB C];simp only[iG];omega
  ·rw[aA C]at h ⊢;by_cases D:nQ (gF t st.at_)=true/\Fg (gF t st.at_)=false
   ·rw[aB D];simp only[iG];omega
   ·rw[aA D]at h;simp at h
theorem Al{t sp:tB}{st:gS}(h:(gC t sp st).2.1=true):st.at_<(gC t sp st).2.2.at_:=by
 unfold gC at h⊢;by_cases o:gG t 92 st=true
 ·rw[aB o]at h ⊢;have:=r9 h;rw[iG]at this;omega
 ·rw[aA o]at h ⊢;by_cases C:kV (gF t st.at_) sp=true
  ·rw[aB C];simp only[iG];omega
  ·rw[aA C]at h;simp at h
theorem zI{t:tB}{f:Nat->Bool}{st:gS}(h:st.at_<=t.size):st.at_<=(gY t f st).2.2.at_/\(gY t f st).2.2.at_<=t.size:=by
 have F:=wR (sp:=kJ) h;obtain⟨Z,J,Q,o⟩:∃b I s,gC t kJ st=(b,I,s):=⟨_,_,_,rfl⟩
 rw[o]at F
 cases J with
 | false=>rw[uR o];exact F
 | true=>
  cases hn:gG t 45 Q with
  | false=>rw[uM o hn];exact F
  | true=>
   have Y:=iV (by omega) hn;have U:=wR (sp:=kJ) (st:=iO Q) (t:=t) (by rw[iG];omega);obtain⟨b2,C,s2,D⟩:∃b I s,gC t kJ (iO Q)=(b,I,s):=⟨_,_,_,rfl⟩
   rw[D,iG]at U;simp only at F U;by_cases V:C=false\/b2<Z
   ·rw[pW o hn D V];simp only;omega
   ·have X:C=true:=by cases C<;>simp_all
    subst X;rw[uK o hn D (by simp at V;omega)];simp only;omega
theorem Kf{t:tB}{f:Nat->Bool}{st:gS}(h:(gY t f st).2.1=true):st.at_<(gY t f st).2.2.at_:=by
 have F:= @Al t kJ st;obtain⟨Z,J,Q,o⟩:∃b I s,gC t kJ st=(b,I,s):=⟨_,_,_,rfl⟩
 rw[o]at F
 cases J with
 | false=>rw[uR o]at h;simp at h
 | true=>
  have F:=F rfl
  cases hn:gG t 45 Q with
  | false=>rw[uM o hn];exact F
  | true=>
   have Y:=iV (by omega) hn;have U:=wR (sp:=kJ) (st:=iO Q) (t:=t) (by rw[iG];omega);obtain⟨b2,C,s2,D⟩:∃b I s,gC t kJ (iO Q)=(b,I,s):=⟨_,_,_,rfl⟩
   rw[D,iG]at U;simp only at F U;by_cases V:C=false\/b2<Z
   ·rw[pW o hn D V]at h;simp at h
   ·have X:C=true:=by cases C<;>simp_all
    subst X;rw[uK o hn D (by simp at V;omega)];simp only;omega
theorem wN{t:tB}{st:gS}(h:st.at_<=t.size):st.at_<=(gE t st).2.2.at_/\(gE t st).2.2.at_<=t.size:=by
 unfold gE;by_cases o:65<=gF t st.at_/\gF t st.at_<69
 ·rw[aB o];have:st.at_<t.size:=by
   rcases OK st.at_ t.size with C|C
   ·exact C
   ·rw[jW C]at o;omega
  simp only[iG];omega
 ·rw[aA o];exact⟨lR,h⟩
theorem Pd{t:tB}{st:gS}(h:st.at_<=t.size):st.at_<=(jQ t st).2.2.at_/\(jQ t st).2.2.at_<=t.size:=by
 unfold jQ;by_cases o:gG t 46 st=true
 ·rw[aB o];have:=iV (by omega) o;simp only[iG];omega
 ·rw[aA o];by_cases C:gG t 45 st=true
  ·rw[aB C];have:=iV (by omega) C;simp only[iG];omega
  ·rw[aA C];have:=wN h;split<;>exact this
def kL(a b:gS):Prop:=b.aX=a.aX/\b.aV=a.aV/\b.aW=a.aW
theorem kL.refl(a:gS):kL a a:=⟨rfl,rfl,rfl⟩
theorem kL.adv(a:gS):kL a (Go.Stn.iO a):=⟨rfl,rfl,rfl⟩
theorem kL.trans{a b c:gS}(h:kL a b)(k:kL b c):kL a c:=⟨k.1.trans h.1,k.2.1.trans h.2.1,k.2.2.trans h.2.2⟩
theorem Ys(t:tB)(st:gS):kL st (uD t st).2.2:=by
 unfold uD;by_cases o:gG t 110 st=true
 ·rw[aB o];exact kL.adv st
 ·rw[aA o];by_cases C:gG t 115 st=true
  ·rw[aB C];exact kL.adv st
  ·rw[aA C];split
   ·exact kL.adv st
   ·exact kL.refl st
theorem yY(t sp:tB)(st:gS):kL st (gC t sp st).2.2:=by
 unfold gC;by_cases o:gG t 92 st=true
 ·rw[aB o];exact(kL.adv st).trans (Ys t _)
 ·rw[aA o];split
  ·exact kL.adv st
  ·exact kL.refl st
theorem M8(t:tB)(f:Nat->Bool)(st:gS):kL st (gY t f st).2.2:=by
 have F:=yY t kJ st;obtain⟨Z,Q,I,o⟩:∃b J s,gC t kJ st=(b,J,s):=⟨_,_,_,rfl⟩
 rw[o]at F
 cases Q with
 | false=>rw[uR o];exact F
 | true=>
  cases hn:gG t 45 I with
  | false=>rw[uM o hn];exact F
  | true=>
   have U:=yY t kJ (iO I);obtain⟨b2,C,s2,D⟩:∃b J s,gC t kJ (iO I)=(b,J,s):=⟨_,_,_,rfl⟩
   rw[D]at U;have V:=(F.trans (kL.adv I)).trans U;by_cases X:C=false\/b2<Z
   ·rw[pW o hn D X];exact V
   ·have Y:C=true:=by cases C<;>simp_all
    subst Y;rw[uK o hn D (by simp at X;omega)];exact V
theorem Jb(t:tB):∀(n:Nat)(f:Nat->Bool)(o:Bool)(st:gS),kL st (mY t n f o st).2.2:=by
 intro n
 induction n with
 | zero=>intro f o st;exact kL.refl st
 | succ e ih=>
  intro f o st;rw[mY];split
  ·exact kL.refl st
  ·split
   ·exact kL.adv st
   ·exact(M8 t f st).trans (ih _ _ _)
theorem Hq(t:tB)(st:gS):kL st (rS t st).2.2:=(M8 t gJ st).trans (Jb t _ _ _ _)
theorem Ux(t:tB)(st:gS):kL st (rI t st).2.2:=by
 unfold rI;by_cases o:gG t 94 st=true
 ·rw[aB o];have:=(kL.adv st).trans (Hq t (iO st));split<;>exact this
 ·rw[aA o];have:=Hq t st;split<;>exact this
theorem xV(t:tB)(st:gS):kL st (hO t st).2.2:=by
 unfold hO;by_cases o:gG t 91 st=true
 ·rw[aB o];exact(kL.adv st).trans (Ux t _)
 ·rw[aA o];by_cases C:gG t 46 st=true
  ·rw[aB C];exact kL.adv st
  ·rw[aA C];have:=yY t kI st;split<;>exact this
def rV(x:Int×Int×Int)(st:gS):gS:= {st with aV:=st.aV++[x]}
def Zv(f:Nat->Bool)(st:gS):gS:= {st with aW:=st.aW++[f]}
def qZ(t:tB)(st:gS):Int×Bool×gS:=
 if(hO t st).2.1=true then(((hO t st).2.2.aV.length:Int),true,rV (0,((hO t st).2.2.aW.length:Int),0) (Zv (hO t st).1 (hO t st).2.2))
 else(0,false,(hO t st).2.2)
def mW(t:tB)(st:gS):Bool:=
 decide (gF t st.at_=40\/gF t st.at_=91\/gF t st.at_=46\/gF t st.at_=92)||kV (gF t st.at_) kI
def jS(t:tB)(ex:gS->Int×Bool×gS)(st:gS):Int×Bool×gS:=
 if gG t 40 st=true then
  (if(ex (iO st)).2.1=true/\gG t 41 (ex (iO st)).2.2=true then((ex (iO st)).1,true,iO (ex (iO st)).2.2)else(0,false,(ex (iO st)).2.2))
 else qZ t st
def mE(p:Int):Int:=if p=63 then 3 else if p=43 then 4 else if p=42 then 5 else 0
def jE(t:tB)(ex:gS->Int×Bool×gS)(st:gS):Int×Bool×gS:=
 if(jS t ex st).2.1=true then
  (if mE (gF t (jS t ex st).2.2.at_)=0 then((jS t ex st).1,true,(jS t ex st).2.2)
   else(((jS t ex st).2.2.aV.length:Int),true,rV (mE (gF t (jS t ex st).2.2.at_),(jS t ex st).1,0) (iO (jS t ex st).2.2)))
 else(0,false,(jS t ex st).2.2)
def nO(t:tB)(ex:gS->Int×Bool×gS):Nat->Int->Bool->gS->Int×Bool×gS
 | 0,aY,_,st=>(aY,false,st)
 | n+1,aY,ok,st=>
  if ok=false then(aY,false,st)
  else if mW t st=false then(aY,true,st)
  else nO t ex n ((jE t ex st).2.2.aV.length:Int) (jE t ex st).2.1 (rV (1,aY,(jE t ex st).1) (jE t ex st).2.2)
def mI(t:tB)(ex:gS->Int×Bool×gS)(st:gS):Int×Bool×gS:=
 nO t ex (t.size+1) (jE t ex st).1 (jE t ex st).2.1 (jE t ex st).2.2
def kE(t:tB)(ex:gS->Int×Bool×gS):Nat->Int->Bool->gS->Int×Bool×gS
 | 0,aY,_,st=>(aY,false,st)
 | n+1,aY,ok,st=>
  if ok=false then(aY,false,st)
  else if gG t 124 st=false then(aY,true,st)
  else kE t ex n ((mI t ex (iO st)).2.2.aV.length:Int) (mI t ex (iO st)).2.1 (rV (2,aY,(mI t ex (iO st)).1) (mI t ex (iO st)).2.2)
def lI(t:tB):Nat->gS->Int×Bool×gS
 | 0,st=>(0,false,st)
 | f+1,st=>kE t (lI t f) (t.size+1) (mI t (lI t f) st).1 (mI t (lI t f) st).2.1 (mI t (lI t f) st).2.2
def Gr(t:tB)(a b:gS):Prop:=a.at_<=b.at_/\b.at_<=t.size/\b.aV.length+3*a.at_<=a.aV.length+3*b.at_/\b.aW.length+a.at_<=a.aW.length+b.at_
def JR(t:tB)(a b:gS):Prop:=(b.aV.length+1+3*a.at_<=a.aV.length+3*b.at_/\a.at_<b.at_/\b.at_<=t.size/\b.aW.length+a.at_<=a.aW.length+b.at_)\/
 (b.aV.length=a.aV.length/\b.at_=a.at_/\b.aW.length=a.aW.length/\b.at_<=t.size)
theorem Gr.refl{t:tB}{a:gS}(h:a.at_<=t.size):Gr t a a:=⟨lR,h,lR,lR⟩
theorem Gr.trans{t:tB}{a b c:gS}(h:Gr t a b)(k:Gr t b c):Gr t a c:=by
 obtain⟨I,J,U,F⟩:=h;obtain⟨Q,o,D,C⟩:=k;exact⟨by omega,o,by omega,by omega⟩
theorem JR.gr{t:tB}{a b:gS}(h:JR t a b):Gr t a b:=by
 rcases h with⟨D,F,C,o⟩|⟨D,F,C,o⟩
 ·exact⟨by omega,C,by omega,o⟩
 ·exact⟨by omega,o,by omega,by omega⟩
theorem Sa{t:tB}:∀(n:Nat)(f:Nat->Bool)(o:Bool)(st:gS),st.at_<=t.size->st.at_<=(mY t n f o st).2.2.at_/\(mY t n f o st).2.2.at_<=t.size:=by
 intro n
 induction n with
 | zero=>intro f o st h;exact⟨lR,h⟩
 | succ e ih=>
  intro f o st h;rw[mY];split
  ·exact⟨lR,h⟩
  ·split
   ·rename_i C;have:=iV (by omega) C;simp only[iG];omega
   ·have D:=zI (f:=f) h;have F:=ih (gY t f st).1 (gY t f st).2.1 (gY t f st).2.2 D.2;omega
theorem Tf{t:tB}{st:gS}(h:st.at_<=t.size):st.at_<=(rS t st).2.2.at_/\(rS t st).2.2.at_<=t.size:=by
 have o:=zI (f:=gJ) h;have C:=Sa (t:=t) (t.size+1) (gY t gJ st).1 (gY t gJ st).2.1 (gY t gJ st).2.2 o.2;unfold rS;omega
theorem Hy{t:tB}{st:gS}(h:st.at_<=t.size):st.at_<=(rI t st).2.2.at_/\(rI t st).2.2.at_<=t.size:=by
 unfold rI;by_cases o:gG t 94 st=true
 ·rw[aB o];have C:=iV (by omega) o;have:=Tf (t:=t) (st:=iO st) (by rw[iG];omega);rw[iG]at this;split<;>(simp only;omega)
 ·rw[aA o];have:=Tf (t:=t) h;split<;>exact this
theorem Nh{t:tB}{st:gS}(h:st.at_<=t.size):st.at_<=(hO t st).2.2.at_/\(hO t st).2.2.at_<=t.size:=by
 unfold hO;by_cases o:gG t 91 st=true
 ·rw[aB o];have D:=iV (by omega) o;have:=Hy (t:=t) (st:=iO st) (by rw[iG];omega);rw[iG]at this;omega
 ·rw[aA o];by_cases C:gG t 46 st=true
  ·rw[aB C];have:=iV (by omega) C;simp only[iG];omega
  ·rw[aA C];have:=wR (sp:=kI) h;split<;>exact this
theorem Ja{t:tB}{st:gS}(o:mW t st=true)(hn:gG t 40 st=false):st.at_<(hO t st).2.2.at_:=by
 unfold hO;by_cases D:gG t 91 st=true
 ·rw[aB D];have J:=iV (by omega) D;have:=Hy (t:=t) (st:=iO st) (by rw[iG];omega);rw[iG]at this;omega
 ·rw[aA D];by_cases F:gG t 46 st=true
  ·rw[aB F];simp only[iG];omega
  ·rw[aA F];have I:st.at_<(gC t kI st).2.2.at_:=by
    unfold gC;by_cases C:gG t 92 st=true
    ·rw[aB C];have J:=iV (by omega) C;have:=Ss (t:=t) (st:=iO st) (by rw[iG];omega);rw[iG]at this;omega
    ·rw[aA C];have Q:kV (gF t st.at_) kI=true:=by
      unfold mW at o;rw[Bool.or_eq_true,aE]at o;rcases o with(e|e|e|e)|e
      ·unfold gG at hn;rw[aF]at hn;exact absurd e hn
      ·unfold gG at D;rw[aE]at D;exact absurd e D
      ·unfold gG at F;rw[aE]at F;exact absurd e F
      ·unfold gG at C;rw[aE]at C;exact absurd e C
      ·exact e
     rw[aB Q];simp only[iG];omega
   split<;>exact I
theorem Lz{t:tB}{a b:gS}(h:kL a b)(F:a.at_<=b.at_)(o:b.at_<=t.size):JR t a b:=by
 have C:b.aV.length=a.aV.length:=by rw[h.2.1]
 have D:b.aW.length=a.aW.length:=by rw[h.2.2]
 by_cases e:a.at_=b.at_
 ·exact .inr ⟨C,e.symm,D,o⟩
 ·exact .inl ⟨by omega,by omega,o,by omega⟩
theorem Ff{t:tB}{st:gS}(o:(hO t st).2.1=true):st.at_<(hO t st).2.2.at_:=by
 unfold hO at o⊢;by_cases C:gG t 91 st=true
 ·rw[aB C];have I:=iV (by omega) C;have:=Hy (t:=t) (st:=iO st) (by rw[iG];omega);rw[iG]at this;omega
 ·rw[aA C]at o ⊢;by_cases F:gG t 46 st=true
  ·rw[aB F];simp only[iG];omega
  ·rw[aA F]at o ⊢;by_cases D:(gC t kI st).2.1=true
   ·rw[aB D];exact Al D
   ·rw[aA D]at o;simp at o
theorem Vw{t:tB}{st:gS}(h:st.at_<=t.size):JR t st (qZ t st).2.2:=by
 have C:=Nh h;have D:=xV t st;have I:(hO t st).2.2.aV.length=st.aV.length:=by rw[D.2.1]
 have J:(hO t st).2.2.aW.length=st.aW.length:=by rw[D.2.2]
 unfold qZ;by_cases o:(hO t st).2.1=true
 ·have F:=Ff o;rw[aB o];left;refine⟨?_,F,C.2,?_⟩
  ·simp only[rV,Zv,LO,LQ];omega
  ·simp only[rV,Zv,LO,LQ];omega
 ·rw[aA o];exact Lz D C.1 C.2
def Dw(t:tB)(ex:gS->Int×Bool×gS):Prop:=∀st,st.at_<=t.size->Gr t st (ex st).2.2
theorem Jk{t:tB}{a b:gS}(h:Gr t (iO a) b):JR t a b:=by
 obtain⟨F,I,C,o⟩:=h;rw[iG]at F C o;have D:(iO a).aV=a.aV:=rfl;have J:(iO a).aW=a.aW:=rfl;rw[D]at C;rw[J]at o;exact .inl ⟨by omega,by omega,I,by omega⟩
theorem Ml{t:tB}{ex:gS->Int×Bool×gS}(C:Dw t ex){st:gS}(h:st.at_<=t.size):JR t st (jS t ex st).2.2:=by
 unfold jS;by_cases o:gG t 40 st=true
 ·rw[aB o];have I:=iV (by omega) o;have hg:=C (iO st) (by rw[iG];omega);split
  ·rename_i F;have D:=iV (by omega) F.2;refine Jk (hg.trans ⟨by rw[iG];omega,by rw[iG];omega,?_,?_⟩)
   ·show(ex (iO st)).2.2.aV.length+3*(ex (iO st)).2.2.at_<=(ex (iO st)).2.2.aV.length+3*(iO (ex (iO st)).2.2).at_;rw[iG];omega
   ·show(ex (iO st)).2.2.aW.length+(ex (iO st)).2.2.at_<=(ex (iO st)).2.2.aW.length+(iO (ex (iO st)).2.2).at_;rw[iG];omega
  ·exact Jk hg
 ·rw[aA o];exact Vw h
theorem CO{t:tB}(h:mE (gF t a)≠0):a<t.size:=by
 rcases OK a t.size with o|o
 ·exact o
 ·rw[jW o]at h;exact absurd rfl h
theorem E1{t:tB}{ex:gS->Int×Bool×gS}(F:Dw t ex){st:gS}(h:st.at_<=t.size):JR t st (jE t ex st).2.2:=by
 have hg:=Ml F h;unfold jE;split
 ·split
  ·exact hg
  ·rename_i I;have V:=CO I;left;have C:(rV (mE (gF t (jS t ex st).2.2.at_),(jS t ex st).1,0) (iO (jS t ex st).2.2)).aV.length=(jS t ex st).2.2.aV.length+1:=by simp[rV,iO]
   have J:(rV (mE (gF t (jS t ex st).2.2.at_),(jS t ex st).1,0) (iO (jS t ex st).2.2)).aW=(jS t ex st).2.2.aW:=rfl;have U:(rV (mE (gF t (jS t ex st).2.2.at_),(jS t ex st).1,0) (iO (jS t ex st).2.2)).at_=(jS t ex st).2.2.at_+1:=rfl;simp only[C,J,U];rcases hg with⟨D,Q,o,g4⟩|⟨D,Q,o,g4⟩
   ·exact⟨by omega,by omega,by omega,by omega⟩
   ·exact⟨by omega,by omega,by omega,by omega⟩
 ·exact hg
theorem Dh{t:tB}{ex:gS->Int×Bool×gS}(I:Dw t ex){st:gS}(F:mW t st=true):st.at_<(jE t ex st).2.2.at_:=by
 have D:st.at_<(jS t ex st).2.2.at_:=by
  unfold jS;by_cases o:gG t 40 st=true
  ·rw[aB o];have J:=iV (by omega) o;have hg:=(I (iO st) (by rw[iG];omega)).1;rw[iG]at hg;split
   ·simp only[iG];omega
   ·simp only;omega
  ·rw[aA o];have C:=Ja F (by simpa using o);unfold qZ;split
   ·exact C
   ·exact C
 unfold jE;split
 ·split
  ·exact D
  ·show st.at_<(jS t ex st).2.2.at_+1;omega
 ·exact D
theorem Oc{t:tB}{ex:gS->Int×Bool×gS}(F:Dw t ex):∀(n:Nat)(aY:Int)(C:Bool)(st:gS),st.at_<=t.size->Gr t st (nO t ex n aY C st).2.2:=by
 intro n
 induction n with
 | zero=>intro aY C st h;exact Gr.refl h
 | succ e ih=>
  intro aY C st h;rw[nO];split
  ·exact Gr.refl h
  ·split
   ·exact Gr.refl h
   ·rename_i o;have o:mW t st=true:=by simpa using o
    have U:=Dh F o;have hg:=E1 F h;have I:Gr t st (rV (1,aY,(jE t ex st).1) (jE t ex st).2.2):=by
     rcases hg with⟨J,Q,D,g4⟩|⟨J,Q,D,g4⟩
     ·exact⟨by show st.at_<=(jE t ex st).2.2.at_;omega,D,by simp only[rV,LO,LQ];omega,g4⟩
     ·omega
    exact I.trans (ih _ _ _ I.2.1)
theorem N7{t:tB}{ex:gS->Int×Bool×gS}(o:Dw t ex){st:gS}(h:st.at_<=t.size):Gr t st (mI t ex st).2.2:=by
 have hg:=(E1 o h).gr;exact hg.trans (Oc o _ _ _ _ hg.2.1)
theorem Kq{t:tB}{ex:gS->Int×Bool×gS}(D:Dw t ex):∀(n:Nat)(aY:Int)(o:Bool)(st:gS),st.at_<=t.size->Gr t st (kE t ex n aY o st).2.2:=by
 intro n
 induction n with
 | zero=>intro aY o st h;exact Gr.refl h
 | succ e ih=>
  intro aY o st h;rw[kE];split
  ·exact Gr.refl h
  ·split
   ·exact Gr.refl h
   ·rename_i I;have V:=iV (by omega) (show gG t 124 st=true by simpa using I);have hg:=Jk (N7 D (st:=iO st) (by rw[iG];omega));have F:Gr t st (rV (2,aY,(mI t ex (iO st)).1) (mI t ex (iO st)).2.2):=by
     have U:=(N7 D (st:=iO st) (by rw[iG];omega)).1;rw[iG]at U;rcases hg with⟨J,Q,C,g4⟩|⟨J,Q,C,g4⟩
     ·exact⟨by show st.at_<=(mI t ex (iO st)).2.2.at_;omega,C,by simp only[rV,LO,LQ];omega,g4⟩
     ·omega
    exact F.trans (ih _ _ _ F.2.1)
theorem Bp(t:tB):∀f,Dw t (lI t f):=by
 intro f
 induction f with
 | zero=>intro st h;exact Gr.refl h
 | succ e ih=>
  intro st h;have hg:=N7 ih h;exact hg.trans (Kq ih _ _ _ _ hg.2.1)
theorem Ey(t:tB)(ex:gS->Int×Bool×gS)(n:Nat)(aY:Int)(st:gS):nO t ex n aY false st=(aY,false,st):=by cases n<;>rfl
theorem Js{t:tB}{ex:gS->Int×Bool×gS}{st:gS}(h:mW t st=false):nO t ex (n+1) aY true st=(aY,true,st):=by
 rw[nO,aA (by decide),aB h]
theorem Jh{t:tB}{ex:gS->Int×Bool×gS}{st:gS}(h:mW t st=true):
  nO t ex (n+1) aY true st=nO t ex n ((jE t ex st).2.2.aV.length:Int) (jE t ex st).2.1 (rV (1,aY,(jE t ex st).1) (jE t ex st).2.2):=by
 rw[nO,aA (by decide),aA (by rw[h];decide)]
theorem Db(t:tB)(ex:gS->Int×Bool×gS)(n:Nat)(aY:Int)(st:gS):kE t ex n aY false st=(aY,false,st):=by cases n<;>rfl
theorem Eu{t:tB}{ex:gS->Int×Bool×gS}{st:gS}(h:gG t 124 st=false):kE t ex (n+1) aY true st=(aY,true,st):=by
 rw[kE,aA (by decide),aB h]
theorem Fi{t:tB}{ex:gS->Int×Bool×gS}{st:gS}(h:gG t 124 st=true):
  kE t ex (n+1) aY true st=kE t ex n ((mI t ex (iO st)).2.2.aV.length:Int) (mI t ex (iO st)).2.1 (rV (2,aY,(mI t ex (iO st)).1) (mI t ex (iO st)).2.2):=by
 rw[kE,aA (by decide),aA (by rw[h];decide)]
def sT(f:Nat->Bool)(k:Int):Nat->Bool:=λ i=>if(i:Int)=k then true else f i
def nD(t:tB):Nat->(Nat->Bool)->Int->gS->(Nat->Bool)×Bool×gS
 | 0,f,_,st=>(f,false,st)
 | n+1,f,aZ,st=>
  if(gE t st).2.1=false then(f,true,(gE t st).2.2)
  else if(gE t st).1<=aZ then(f,false,(gE t st).2.2)
  else nD t n (sT f (gE t st).1) (gE t st).1 (gE t st).2.2
def iU(t:tB)(st:gS):(Nat->Bool)×Bool×gS:=
 if(gE t st).2.1=false then(gJ,false,(gE t st).2.2)
 else nD t 5 (sT gJ (gE t st).1) (gE t st).1 (gE t st).2.2
def IG(f:Nat->Bool):tV:= .agg #[.bool (f 0),.bool (f 1),.bool (f 2),.bool (f 3)]
theorem vU(t:tB)(st:gS):kL st (gE t st).2.2:=by
 unfold gE;split
 ·exact kL.adv st
 ·exact kL.refl st
theorem Iq{t:tB}:∀(n:Nat)(f:Nat->Bool)(aZ:Int)(st:gS),st.at_<=t.size->kL st (nD t n f aZ st).2.2/\st.at_<=(nD t n f aZ st).2.2.at_/\(nD t n f aZ st).2.2.at_<=t.size:=by
 intro n
 induction n with
 | zero=>intro f aZ st h;exact⟨kL.refl st,lR,h⟩
 | succ e ih=>
  intro f aZ st h;have o:=vU t st;have C:=wN h;rw[nD];split
  ·exact⟨o,C⟩
  ·split
   ·exact⟨o,C⟩
   ·have D:=ih (sT f (gE t st).1) (gE t st).1 (gE t st).2.2 C.2;exact⟨o.trans D.1,by omega,D.2.2⟩
theorem Bf{t:tB}{st:gS}(h:st.at_<=t.size):kL st (iU t st).2.2/\st.at_<=(iU t st).2.2.at_/\(iU t st).2.2.at_<=t.size:=by
 have o:=vU t st;have C:=wN h;unfold iU;split
 ·exact⟨o,C⟩
 ·have D:=Iq (t:=t) 5 (sT gJ (gE t st).1) (gE t st).1 (gE t st).2.2 C.2;exact⟨o.trans D.1,by omega,D.2.2⟩
def FU(x:(Nat->Bool)×Int×Int)(st:gS):gS:= {st with aX:=st.aX++[x]}
def F8(t:tB)(f:Nat->Bool)(root:Int)(st:gS):Bool×gS:=
 if(jQ t st).2.1=false then(false,(jQ t st).2.2)else(true,FU (f,(jQ t st).1,root) (jQ t st).2.2)
def F1(t:tB)(f:Nat->Bool)(st:gS):Bool×gS:=
 if(lI t (t.size+1) st).2.1=false then(false,(lI t (t.size+1) st).2.2)
 else if gG t 32 (lI t (t.size+1) st).2.2=false then(false,(lI t (t.size+1) st).2.2)
 else F8 t f (lI t (t.size+1) st).1 (iO (lI t (t.size+1) st).2.2)
def nE(t:tB)(st:gS):Bool×gS:=
 if(iU t st).2.1=false then(false,(iU t st).2.2)
 else if gG t 32 (iU t st).2.2=false then(false,(iU t st).2.2)
 else F1 t (iU t st).1 (iO (iU t st).2.2)
end Go.Stn
namespace Go.Proofs.YtgjgjgihceijnaaGreat
open Go.RowKit Go.Stn
variable {x:Operand}{ty:TypeId}{gd:Option (Nat×Bool)}{a:Act}{b:Nat}
theorem F0(n:Nat):(madeCells (OH .i64 0).cells (n*1)).toList=(MU n (0:Nat)).map (λ(_:Nat)=>OH .i64 0):=by
 have h:∀i:Nat,(OH .i64 0).cells[i%(OH .i64 0).cells.size]! =OH .i64 0:=by
  intro i;have e:i%(OH .i64 0).cells.size=0:=by simp[OZ,Nat.mod_one]
  rw[e];simp[OZ]
 unfold madeCells;rw[Nat.mul_one];simp only[h,Array.toList_map,Array.toList_range];rw[List.map_replicate,List.eq_replicate_iff];exact⟨by simp,by intro b o;simp at o;exact o.2.symm⟩
theorem Tl{w:tW}{top o g n K:Nat}{zb tk:Nat->Nat}{nx:Nat->Nat->Int}(h:Wd w top g n K zb tk nx)(C:top<=o):Wd w o g n K zb tk nx:=
 ⟨h.tkc,h.nxc,h.ldc,LH h.bg C,λ s D=>LH (h.bz s D) C⟩
def Zp(w:tW)(K:Nat):Option (List (Nat×List Int))->Ending->tW->Prop
 | none,e,w'=>e=.returned (.tuple #[.slice none 0 0,.bool false])/\Bl w w'
 | some l,e,w'=>∃v,Gf w K l (.returned v) w'/\e=.returned (.tuple #[v,.bool true])
theorem Rp(g n aJ K:Nat)(zb tk:Nat->Nat)(nx:Nat->Nat->Int)(w:tW)(hn:n<=2000)(hK:K<=300)
  (hr:∀i k,i<n->k<K->nx i k= -1\/(0<=nx i k/\nx i k<n)) (hS:Wd w w.heap.size g n K zb tk nx):
  QX LF 40 #[.slice (some ⟨g,0,none⟩) n aJ] w λ e w'=>Zp w K (yZ n tk nx K) e w':=by
 obtain⟨i0,eN,bT,Z,bN⟩:=QT bU;have HI:QP (Tryz.prog.info? 3=some i0/\i0.zero=some (.int .i64 0)/\i0.size=1/\i0.bytes=8):=⟨eN,bT,Z,bN⟩
 clear eN bT Z bN;have HS:=fV hS;have HR:=fV hr;clear hS hr;go_enter func40,ntmps40;go_wp2_with (first|(at_make;refine wpList_make_full w rfl _ _ 59 rfl w.heap.size 3 i0 (.int .i64 0) 1 MJ HI.o.1 HI.o.2.1 HI.o.2.2.1 .i64 .i64 _ _ n rfl rfl rfl rfl (by rw[HI.o.2.2.2];omega) (by unfold QW;omega) lR ?_;intro w1 V hg));have X:QP (P9 w1 w.heap.size n (iY (MU n 0))):=λ i hi=>by
  have h1:=V.cells rfl i (.int .i64 0) (by
   rw[F0,NZ,OI,aB hi];rfl)
  have e:iY (MU n 0) i=0:=by unfold iY;rw[LY,OI,aB hi];rfl
  rw[e];by_cases hj:i=0
  ·subst hj;simpa[Addr.add]using h1
  ·simpa[Addr.add,hj]using h1
 have bO:QP (Bl w w1):=⟨hg.os,hg.tape,hg.output,hg.size,λ k hk=>hg.block k hk (by simp)⟩
 have Z:w.heap.size<w1.heap.size:=(V.lt w.heap.size rfl).2;clear V hg;obtain⟨MP,aL⟩:=xE (tQ n tk nx K 102 (MU n 0) 0)
 have cN:QP (yZ n tk nx K=MP.map λ x=>nW tk nx K x.1 x.2):=by unfold QP yZ;rw[aL]
 replace aL:=fV aL
 go_loopg [4,5] 102 (λ gk pv cv wr=>∃(bA:List Nat)(C pg Y:Nat),pv=.slice (some ⟨pg,0,none⟩) n Y/\cv=.int .i64 (C:Int)/\C<=100/\102<=C+gk/\Ba n bA C/\MP=tQ n tk nx K gk bA C/\
  P9 wr pg n (iY bA)/\pg<wr.heap.size/\Bl w wr)
 case atStart=>exact⟨MU n 0,0,w.heap.size,n,rfl,rfl,by omega,by omega,⟨by simp,λ f hf=>by omega⟩,aL.o.symm,X.o,Z,bO.o⟩
 case round=>
  obtain⟨bA,C,pg,Y,rfl,rfl,hc,hL,cF,eO,aW,hB,hb⟩:=hrel;have HQ:=fV eO;have HN:=fV aW;have HB:=fV hb;have hI:=fV cF;clear eO aW hb cF X bO;obtain⟨f,rfl⟩:∃f,gk=f+1:=⟨gk-1,by omega⟩
  have bS:=fV (HS.o.below HB.o lR);have bK:=Xa (iY bA) g n aJ K pg Y zb tk nx wr hn hK HR.o (Tl bS.o HB.o.size) HN.o hB;have aR:=Ho (iS (iY bA) tk nx K) n 0 [] [];have Q:=λ h=>Dm (q:=iS (iY bA) tk nx K) hI.o (λ s t=>A8) h
  have I:=λ h=> @Q8 n (iS (iY bA) tk nx K) h
  have D:=λ h=> @U2 n (iS (iY bA) tk nx K) h
  have J:tQ n tk nx K (f+1) bA C=if 100<(kX n (iS (iY bA) tk nx K)).2.length then none
   else if(kX n (iS (iY bA) tk nx K)).2.length=C then some (kX n (iS (iY bA) tk nx K))
   else tQ n tk nx K f (kX n (iS (iY bA) tk nx K)).1 (kX n (iS (iY bA) tk nx K)).2.length:=rfl
  have hC:QP (kH (iS (iY bA) tk nx K) n 0 [] []=kX n (iS (iY bA) tk nx K)):=rfl;rw[hC.o]at aR;generalize kX n (iS (iY bA) tk nx K)=PP at*;obtain⟨aK,aN⟩:=PP;simp only at*;have hP:aN.length<=2000:=by have:=aR.1;simp at this;omega
  go_wp2_with fail;refine bK.mono ?_;rintro e w3 ⟨g1,c1,g2,c2,rfl,eL,eR,aT,hH,hQ,hN,aO⟩;have X:=fV eL;have hE:=fV eR;have U:=fV (HB.o.trans (aO.mono HB.o.size));have eX:=fV (Tl (bS.o.below aO HB.o.size) (LS HB.o.size aO.size));clear eL eR aO bK aR;by_cases h1:100<aN.length
  ·have HE:QP (MP=none):=by unfold QP;rw[HQ.o,J,aB h1]
   have eT:decide ((100:Int)<(aN.length:Int))=true:=by simp;omega
   clear J Q I D;go_wp2;go_ret2;rw[cN.o,HE.o];exact⟨rfl,U.o⟩
  ·have eT:decide ((100:Int)<(aN.length:Int))=false:=by simp;omega
   rw[aA h1]at J;have D:=D (by omega);have F:=D.len;by_cases h2:aN.length=C
   ·rw[aB h2]at J;have HE:QP (MP=some (aK,aN)):=by unfold QP;rw[HQ.o,J]
    have hD:((aN.length:Int)==(C:Int))=true:=by rw[h2];simp
    have bM:∀x∈aN,x<n:=λ x hx=>by
     obtain⟨i,hi,rfl⟩:=List.mem_iff_getElem.1 hx;have:=(D.rep i hi).1;rw[LY,LM hi]at this;exact this
    have cP:P9 w3 g1 n (iY aK):=by have:=X.o;rw[F]at this;exact this
    have eM:=Mh aK aN g n aJ K g1 c1 g2 c2 zb tk nx w3 hK (by omega) bM HR.o eX.o cP aT hE.o hH;rw[F];clear J Q I D h2 bM cP F;go_wp2_with fail;refine eM.mono ?_;rintro e w4 ⟨B,zs,q1,rfl,q3,q4,q5,q6⟩;have gL:=fV q3;have hA:=fV q4;have hF:=fV q5;have hG:=fV (U.o.trans (q6.mono U.o.size));have hJ:w.heap.size<=B:=LS U.o.size q1;clear q1 q3 q4 q5 q6 eM;go_wp2;go_ret2;rw[cN.o,HE.o];exact⟨.slice (some ⟨B,0,none⟩) zs.length zs.length,⟨B,zs,hJ,rfl,gL.o,hA.o,hF.o,hG.o⟩,rfl⟩
   ·rw[aA h2]at J;have HE:QP (MP=tQ n tk nx K f aK aN.length):=HQ.o.trans J;have hD:((aN.length:Int)==(C:Int))=false:=by rw[aC];omega
    have hM:=Q (by omega);have bC:=fV (I (by omega));have eS:QP (P9 w3 g1 n (iY aK)):=by have:=X.o;rw[F]at this;exact this
    rw[F];clear J Q I D F;go_wp2;go_roundg f
    case measure=>omega
    case rel=>exact⟨aK,aN.length,g1,c1,rfl,rfl,by omega,by omega,bC.o,HE.o,eS.o,aT,U.o⟩
def Fa(w:tW)(rb aH:Nat)(t:tB)(vr vn vp:tV)(st:gS)(w':tW):Prop:=w.grownBy w' (some rb)/\Rd w' rb aH w'.heap.size t st vr vn vp
theorem kN(t:tB)(st:gS)(b:Int)(rb aH:Nat)(vr vn vp:tV)(w:tW)(J:t.size<=120)(F:st.at_<=t.size)(h:Rd w rb aH w.heap.size t st vr vn vp):
  QX LF 66 #[.pointer (some ⟨rb,0,none⟩),.int .i64 b] w λ e w'=>e=.returned (.bool (gG t b st))/\Fa w rb aH t vr vn vp (Bq t b st) w':=by
 cases hb:gG t b st with
 | true=>
  rw[kP hb];have D:(gF t st.at_ !=b)=false:=by unfold gG at hb;rw[aE]at hb;rw[hb];simp
  go_enter func66,ntmps66;go_wp2_with fail;refine(wF t st rb aH w.heap.size vr vn vp _ h).mono ?_;rintro e w1 ⟨rfl,q,rfl⟩;have C:=fZ (h.drewN q).raise;have I:QP (w.grownBy (w.drewN q) (some rb)):=jZ (World.grownBy.refl _ _) q;generalize w.drewN q=w1 at*;clear h;have U:=C.o.c1;have Q:=C.o.fz 1;go_wp2;go_ret;exact⟨rfl,lO I.o _ _,C.o.adv.raise⟩
 | false=>
  rw[mH hb];have D:(gF t st.at_ !=b)=true:=by unfold gG at hb;rw[aF]at hb;rw[aD];exact hb
  go_enter func66,ntmps66;go_wp2_with fail;refine(wF t st rb aH w.heap.size vr vn vp _ h).mono ?_;rintro e w1 ⟨rfl,q,rfl⟩;go_wp2;go_ret;exact⟨rfl,jZ (World.grownBy.refl _ _) q,(h.drewN q).raise⟩
theorem uT{t:tB}{st:gS}(h:st.at_<t.size):(iO st).at_<=t.size:=h
theorem FZ(t:tB)(st:gS)(rb aH:Nat)(vr vn vp:tV)(w:tW)(ht:t.size<=120)(X:st.at_<=t.size)(h:Rd w rb aH w.heap.size t st vr vn vp):
  QX LF 142 #[.pointer (some ⟨rb,0,none⟩)] w λ e w'=>e=.returned (.tuple #[.int .i64 (uD t st).1,.bool (uD t st).2.1])/\Fa w rb aH t vr vn vp (uD t st).2.2 w':=by
 cases h1:gG t 110 st with
 | true=>
  have U:QP (uD t st=(10,true,iO st)):=by unfold QP uD;rw[aB h1]
  go_enter func142,ntmps142;go_wp2_with fail;refine(kN t st 110 rb aH vr vn vp _ ht X h).mono ?_;rintro e w1 ⟨rfl,hr⟩;rw[kP h1]at hr;rw[h1];go_wp2;go_ret2;rw[U.o];exact⟨rfl,hr⟩
 | false=>
  have n1:¬(gG t 110 st=true):=by rw[h1];decide
  have aO:=fZ h1;go_enter func142,ntmps142;go_wp2_with fail;refine(kN t st 110 rb aH vr vn vp _ ht X h).mono ?_;rintro e w1 ⟨rfl,Z,Q⟩;rw[mH h1]at Q;rw[h1];have I:=fZ Z;clear h Z;go_wp2_with fail;refine(kN t st 115 rb aH vr vn vp _ ht X Q).mono ?_;rintro e w2 ⟨rfl,J,C⟩
  cases h2:gG t 115 st with
  | true=>
   have U:QP (uD t st=(32,true,iO st)):=by unfold QP uD;rw[aA n1,aB h2]
   rw[kP h2]at C;have aL:=fZ C;have F:=fZ (gD I.o J);clear C J Q I;go_wp2;go_ret2;rw[U.o];exact⟨rfl,F.o,aL.o⟩
  | false=>
   have n2:¬(gG t 115 st=true):=by rw[h2];decide
   rw[mH h2]at C;have F:=fZ (gD I.o J);clear J Q I;go_wp2_with fail;refine(wF t st rb aH _ vr vn vp _ C).mono ?_;rintro e Y ⟨rfl,q,rfl⟩;have D:=fZ (C.drewN q).raise;have V:=fZ (jZ F.o q);clear F C;generalize w2.drewN q=Y at*;have c1:=D.o.c1;have f1:=D.o.fz 1
   cases hv:nQ (gF t st.at_)with
   | false=>
    have U:QP (uD t st=(0,false,st)):=by unfold QP uD;rw[aA n1,aA n2,aA (by rw[hv];simp)]
    clear n1 n2;go_wp2_with (go_at_call 134;refine(uJ _ _).mono ?_;rintro e Y ⟨rfl,rfl⟩);go_ret2;rw[U.o];exact⟨rfl,V.o,D.o⟩
   | true=>
    cases hl:Fg (gF t st.at_)with
    | true=>
     have U:QP (uD t st=(0,false,st)):=by unfold QP uD;rw[aA n1,aA n2,aA (by rw[hl];simp)]
     clear n1 n2;go_wp2_with (first|(go_at_call 134;refine(uJ _ _).mono ?_;rintro e Y ⟨rfl,rfl⟩)|(go_at_call 143;refine(Uj _ _).mono ?_;rintro e Y ⟨rfl,rfl⟩));go_ret2;rw[U.o];exact⟨rfl,V.o,D.o⟩
    | false=>
     have U:QP (uD t st=(gF t st.at_,true,iO st)):=by unfold QP uD;rw[aA n1,aA n2,aB ⟨hv,hl⟩]
     clear n1 n2;go_wp2_with (first|(go_at_call 134;refine(uJ _ _).mono ?_;rintro e Y ⟨rfl,rfl⟩)|(go_at_call 143;refine(Uj _ _).mono ?_;rintro e Y ⟨rfl,rfl⟩));go_ret2;rw[U.o];exact⟨rfl,lO V.o _ _,D.o.adv.raise⟩
theorem I9(t sp:tB)(st:gS)(rb aH:Nat)(vr vn vp:tV)(w:tW)(X:t.size<=120)(I:sp.size<=100)(Q:st.at_<=t.size)(h:Rd w rb aH w.heap.size t st vr vn vp):
  QX LF 139 #[.pointer (some ⟨rb,0,none⟩),.string sp] w λ e w'=>e=.returned (.tuple #[.int .i64 (gC t sp st).1,.bool (gC t sp st).2.1])/\Fa w rb aH t vr vn vp (gC t sp st).2.2 w':=by
 cases h1:gG t 92 st with
 | true=>
  have V:QP (gC t sp st=uD t (iO st)):=by unfold QP gC;rw[aB h1]
  have Z:=iV (by omega) h1;go_enter func139,ntmps139;go_wp2_with fail;refine(kN t st 92 rb aH vr vn vp _ X Q h).mono ?_;rintro e w1 ⟨rfl,F,C⟩;rw[kP h1]at C;rw[h1];go_wp2_with fail;refine(FZ t (iO st) rb aH vr vn vp _ X (uT Z) C).mono ?_;rintro e w2 ⟨rfl,Y,aL⟩;go_wp2;go_ret2;rw[V.o];exact⟨rfl,gD F Y,aL⟩
 | false=>
  have n1:¬(gG t 92 st=true):=by rw[h1];decide
  go_enter func139,ntmps139;go_wp2_with fail;refine(kN t st 92 rb aH vr vn vp _ X Q h).mono ?_;rintro e w1 ⟨rfl,F,C⟩;rw[mH h1]at C;rw[h1];have U:=fZ F;clear h F;go_wp2_with fail;refine(wF t st rb aH _ vr vn vp _ C).mono ?_;rintro e w2 ⟨rfl,q,rfl⟩;have D:=fZ (C.drewN q).raise;have J:=fZ (jZ U.o q);clear U C;generalize w1.drewN q=w2 at*;have c1:=D.o.c1;have f1:=D.o.fz 1
  cases hp:kV (gF t st.at_) sp with
  | true=>
   have V:QP (gC t sp st=(gF t st.at_,true,iO st)):=by unfold QP gC;rw[aA n1,aB hp]
   clear n1;go_wp2_with (go_at_call 128;refine(U3 _ _ _ I).mono ?_;rintro e w2 ⟨rfl,rfl⟩);go_ret2;rw[V.o];exact⟨rfl,lO J.o _ _,D.o.adv.raise⟩
  | false=>
   have V:QP (gC t sp st=(0,false,st)):=by unfold QP gC;rw[aA n1,aA (by rw[hp];decide)]
   clear n1;go_wp2_with (go_at_call 128;refine(U3 _ _ _ I).mono ?_;rintro e w2 ⟨rfl,rfl⟩);go_ret2;rw[V.o];exact⟨rfl,J.o,D.o⟩
theorem J4(t:tB)(st:gS)(rb aH:Nat)(vr vn vp:tV)(w:tW)(V:t.size<=120)(J:st.at_<=t.size)(h:Rd w rb aH w.heap.size t st vr vn vp):
  QX LF 113 #[.pointer (some ⟨rb,0,none⟩)] w λ e w'=>e=.returned (.tuple #[.int .i64 (gE t st).1,.bool (gE t st).2.1])/\Fa w rb aH t vr vn vp (gE t st).2.2 w':=by
 have I:=A9 t st.at_;go_enter func113,ntmps113;go_wp2_with fail;refine(wF t st rb aH _ vr vn vp _ h).mono ?_;rintro e w2 ⟨rfl,q,rfl⟩;have C:=fZ (h.drewN q).raise;have D:QP (w.grownBy (w.drewN q) (some rb)):=jZ (World.grownBy.refl _ _) q;clear h;generalize w.drewN q=w2 at*;have Y:=C.o.c1;have X:=C.o.fz 1;by_cases Q:65<=gF t st.at_
 ·by_cases U:gF t st.at_<69
  ·have F:QP (gE t st=(gF t st.at_-65,true,iO st)):=by unfold QP gE;rw[aB ⟨Q,U⟩]
   go_wp2;go_ret2;rw[F.o];exact⟨rfl,lO D.o _ _,C.o.adv.raise⟩
  ·have F:QP (gE t st=(0,false,st)):=by unfold QP gE;rw[aA (by omega)]
   go_wp2;go_ret2;rw[F.o];exact⟨rfl,D.o,C.o⟩
 ·have F:QP (gE t st=(0,false,st)):=by unfold QP gE;rw[aA (by omega)]
  go_wp2;go_ret2;rw[F.o];exact⟨rfl,D.o,C.o⟩
theorem xW(t:tB)(st:gS):0<=(gE t st).1/\(gE t st).1<=3:=by
 unfold gE;split
 ·simp only;omega
 ·simp
theorem Pg(t:tB)(st:gS)(rb aH:Nat)(vr vn vp:tV)(w:tW)(ht:t.size<=120)(F:st.at_<=t.size)(h:Rd w rb aH w.heap.size t st vr vn vp):
  QX LF 96 #[.pointer (some ⟨rb,0,none⟩)] w λ e w'=>e=.returned (.tuple #[.int .i64 (jQ t st).1,.bool (jQ t st).2.1])/\Fa w rb aH t vr vn vp (jQ t st).2.2 w':=by
 cases h1:gG t 46 st with
 | true=>
  have U:QP (jQ t st=(0,true,iO st)):=by unfold QP jQ;rw[aB h1]
  go_enter func96,ntmps96;go_wp2_with fail;refine(kN t st 46 rb aH vr vn vp _ ht F h).mono ?_;rintro e w1 ⟨rfl,hr⟩;rw[kP h1]at hr;rw[h1];go_wp2;go_ret2;rw[U.o];exact⟨rfl,hr⟩
 | false=>
  have n1:¬(gG t 46 st=true):=by rw[h1];decide
  go_enter func96,ntmps96;go_wp2_with fail;refine(kN t st 46 rb aH vr vn vp _ ht F h).mono ?_;rintro e w1 ⟨rfl,aL,Q⟩;rw[mH h1]at Q;rw[h1];have I:=fZ aL;clear h aL;go_wp2_with fail;refine(kN t st 45 rb aH vr vn vp _ ht F Q).mono ?_;rintro e w2 ⟨rfl,J,C⟩
  cases h2:gG t 45 st with
  | true=>
   have U:QP (jQ t st=(1,true,iO st)):=by unfold QP jQ;rw[aA n1,aB h2]
   rw[kP h2]at C;have aO:=fZ C;have D:=fZ (gD I.o J);clear C J Q I;go_wp2;go_ret2;rw[U.o];exact⟨rfl,D.o,aO.o⟩
  | false=>
   have n2:¬(gG t 45 st=true):=by rw[h2];decide
   rw[mH h2]at C;have D:=fZ (gD I.o J);clear J Q I;have aR:=xW t st;go_wp2_with fail;refine(J4 t st rb aH vr vn vp _ ht F C).mono ?_;rintro e w3 ⟨rfl,Y,V⟩;have Z:=fZ V;have X:=fZ (gD D.o Y);clear C D V Y
   cases hl:(gE t st).2.1 with
   | true=>
    have U:QP (jQ t st=((gE t st).1+2,true,(gE t st).2.2)):=by unfold QP jQ;rw[aA n1,aA n2,aB hl]
    clear n1 n2;generalize gE t st=L at*;go_wp2;go_ret2;rw[U.o];exact⟨rfl,X.o,Z.o⟩
   | false=>
    have U:QP (jQ t st=(0,false,(gE t st).2.2)):=by unfold QP jQ;rw[aA n1,aA n2,aA (by rw[hl];decide)]
    clear n1 n2;generalize gE t st=L at*;go_wp2;go_ret2;rw[U.o];exact⟨rfl,X.o,Z.o⟩
theorem Gj:kJ.size<=100:=by decide
theorem yU(t sp:tB)(st:gS):0<=(gC t sp st).1/\(gC t sp st).1<=255:=by
 have J:=A9 t st.at_;have I:=A9 t (iO st).at_;unfold gC;by_cases F:gG t 92 st=true
 ·rw[aB F];unfold uD;by_cases a1:gG t 110 (iO st)=true
  ·rw[aB a1];simp
  ·rw[aA a1];by_cases D:gG t 115 (iO st)=true
   ·rw[aB D];simp
   ·rw[aA D];by_cases C:nQ (gF t (iO st).at_)=true/\Fg (gF t (iO st).at_)=false
    ·rw[aB C];have:=C.1;unfold nQ at this;rw[aE]at this;simp only;omega
    ·rw[aA C];simp
 ·rw[aA F];by_cases o:kV (gF t st.at_) sp=true
  ·rw[aB o];unfold kV at o;rw[OG]at o;have:=o.1;unfold nQ at this;rw[aE]at this;simp only;omega
  ·rw[aA o];simp
theorem lQ{w X:tW}{rb aH:Nat}{t:tB}{st st':gS}{vr vn vp:tV}(h:Rd w rb aH w.heap.size t st vr vn vp)(D:Rd X rb aH X.heap.size t st' vr vn vp)(hg:w.grownBy X (some rb))(b o:Nat)(vs:List tV)(C:w.heap.size<=b):
  Fa w rb aH t vr vn vp st' (X.setCells b o vs):=
 ⟨oI hg b o vs C,((h.retop D hg.size).below (fX vs o X b bR C)).raise⟩
theorem KN(f:Nat->Bool)(t:tB)(st:gS)(rb aH:Nat)(vr vn vp:tV)(w:tW)(h:Rd w rb aH w.heap.size t st vr vn vp):
  QP (Rd ((w.alloc (.cells (gQ f).toArray 158)).alloc (.cells LC 158)) rb aH ((w.alloc (.cells (gQ f).toArray 158)).alloc (.cells LC 158)).heap.size t st vr vn vp)/\
  QP (((w.alloc (.cells (gQ f).toArray 158)).alloc (.cells LC 158)).rangeAt w.heap.size 0 (gQ f))/\
  QP (((w.alloc (.cells (gQ f).toArray 158)).alloc (.cells LC 158)).there (w.heap.size+1) 0 256)/\
  QP (w.grownBy ((w.alloc (.cells (gQ f).toArray 158)).alloc (.cells LC 158)) (some rb))/\
  ((w.alloc (.cells (gQ f).toArray 158)).alloc (.cells LC 158)).heap.size=w.heap.size+2:=by
 refine⟨?_,NO (zF w (gQ f) 158) _,iD _ LC 158 _ 256 bW (by simp),kA (kA (World.grownBy.refl _ _) _) _,by simp⟩;exact(h.below ((bR.alloc lR _).alloc (by simp) _)).raise
theorem Ej(t:tB)(f:Nat->Bool)(st:gS)(rb aH:Nat)(vr vn vp:tV)(w:tW)(ht:t.size<=120)(gL:st.at_<=t.size)(h:Rd w rb aH w.heap.size t st vr vn vp):
  QX LF 141 #[.pointer (some ⟨rb,0,none⟩),.agg (gQ f).toArray] w λ e w'=>
   e=.returned (.tuple #[.agg (gQ (gY t f st).1).toArray,.bool (gY t f st).2.1])/\Fa w rb aH t vr vn vp (gY t f st).2.2 w':=by
 obtain⟨hI,hH,hJ,hE,hD⟩:=KN f t st rb aH vr vn vp w h;have hP:rb<w.heap.size:=by have:=h.hb;have:=h.hbt;omega
 go_enter func141,ntmps141;go_wp2_with fail;generalize (w.alloc (.cells (gQ f).toArray 158)).alloc (.cells LC 158)=W0 at*;obtain⟨I,hL,D,cN⟩:∃b ok s,gC t kJ st=(b,ok,s):=⟨_,_,_,rfl⟩
 have Q:=yU t kJ st;have X:=(wR (t:=t) (sp:=kJ) gL).2;have aW:=I9 t kJ st rb aH vr vn vp W0 ht Gj gL hI.o;rw[cN]at aW Q X;have Z:=fZ cN;clear cN;simp only at aW Q X;refine aW.mono ?_;rintro e w1 ⟨rfl,aL,hC⟩;have eN:=fZ hC;have eL:=fZ (gD hE.o aL);have eM:=fZ (fY hH.o (aL.block w.heap.size (by omega) (by intro e;injection e;omega)));have bO:=fZ (gK hJ.o (aL.block (w.heap.size+1) (by omega) (by intro e;injection e;omega)));have eS:w.heap.size+2<=w1.heap.size:=by have:=aL.size;omega
 clear hC aL hI hH hJ hE hD aW
 cases hL with
 | false=>
  have HE:QP (gY t f st=(f,false,D)):=uR Z.o;go_wp2_with (first|(refine QQ rfl 158 (.tmp 3) rfl w.heap.size 0 rfl (gQ f) _ eM.o LI rfl (by rw[gP];exact bJ) ?_)|(refine QR rfl 158 (.tmp 4) (.tmp 16) rfl (w.heap.size+1) 0 (gQ f).toArray rfl rfl (by rw[iJ];exact bO.o) (by rw[iJ];exact bJ) (QS (mD _)) ?_));refine jH MZ (w.heap.size+1) 0 (gQ f) _ (.bool false) rfl rfl ?_ LI rfl (by rw[gP];exact bJ) rfl ?_
  ·exact LD _ _ _ _ (by rw[gP];exact bO.o)
  ·rw[HE.o];exact⟨rfl,lQ h eN.o eL.o _ _ _ (by omega)⟩
 | true=>
  go_wp2_with fail;refine(kN t D 45 rb aH vr vn vp _ ht X eN.o).mono ?_;rintro e w2 ⟨rfl,aO,J⟩;have bN:=fZ (gD eL.o aO);have bM:=fZ (fY eM.o (aO.block w.heap.size (by omega) (by intro e;injection e;omega)));have aT:=fZ (gK bO.o (aO.block (w.heap.size+1) (by omega) (by intro e;injection e;omega)));have hF:w.heap.size+2<=w2.heap.size:=by have:=aO.size;omega
  clear eN eL eM bO aO eS
  cases hn:gG t 45 D with
  | false=>
   rw[mH hn]at J;have hB:=fZ J;clear J;have HE:QP (gY t f st=(jI f I I,true,D)):=uM Z.o hn;go_wp2_with (first|(refine QQ rfl 158 (.tmp 3) rfl w.heap.size 0 rfl (gQ f) _ bM.o LI rfl (by rw[gP];exact bJ) ?_)|fail);refine(Co f I I _).mono ?_;rintro e w9 ⟨rfl,C⟩;have cP:=fZ (((hB.o).below (C.mono lR)).raise);have eR:=fZ (gD bN.o (iQ C lR (some rb)));have Y:=fZ (sB aT.o C (by omega));have hA:=C.size;clear C hB bN aT bM;go_wp2_with (first|(refine QR rfl 158 (.tmp 4) (.tmp 23) rfl (w.heap.size+1) 0 (gQ (jI f I I)).toArray rfl rfl (by rw[iJ];exact Y.o) (by rw[iJ];exact bJ) (QS (mD _)) ?_));refine jH MZ (w.heap.size+1) 0 (gQ (jI f I I)) _ (.bool true) rfl rfl ?_ LI rfl (by rw[gP];exact bJ) rfl ?_
   ·exact LD _ _ _ _ (by rw[gP];exact Y.o)
   ·rw[HE.o];exact⟨rfl,lQ h cP.o eR.o _ _ _ (by omega)⟩
  | true=>
   rw[kP hn]at J;have hK:=iV (by omega) hn;have eT:(iO D).at_<=t.size:=uT hK;obtain⟨b2,hM,cF,eO⟩:∃b ok s,gC t kJ (iO D)=(b,ok,s):=⟨_,_,_,rfl⟩
   have V:=yU t kJ (iO D);have bC:=I9 t kJ (iO D) rb aH vr vn vp w2 ht Gj eT J;rw[eO]at bC V;have bT:=fZ eO;clear eO;simp only at bC V;go_wp2_with fail;refine bC.mono ?_;rintro e w3 ⟨rfl,U,eX⟩;have bK:=fZ eX;have bS:=fZ (gD bN.o U);have aR:=fZ (fY bM.o (U.block w.heap.size (by omega) (by intro e;injection e;omega)));have F:=fZ (gK aT.o (U.block (w.heap.size+1) (by omega) (by intro e;injection e;omega)));have hN:w.heap.size+2<=w3.heap.size:=by have:=U.size;omega
   clear eX U J bN bM aT hF bC
   cases hM with
   | false=>
    have HE:QP (gY t f st=(f,false,cF)):=pW Z.o hn bT.o (.inl rfl);go_wp2_with (first|(refine QQ rfl 158 (.tmp 3) rfl w.heap.size 0 rfl (gQ f) _ aR.o LI rfl (by rw[gP];exact bJ) ?_)|(refine QR rfl 158 (.tmp 4) (.tmp 36) rfl (w.heap.size+1) 0 (gQ f).toArray rfl rfl (by rw[iJ];exact F.o) (by rw[iJ];exact bJ) (QS (mD _)) ?_));refine jH MZ (w.heap.size+1) 0 (gQ f) _ (.bool false) rfl rfl ?_ LI rfl (by rw[gP];exact bJ) rfl ?_
    ·exact LD _ _ _ _ (by rw[gP];exact F.o)
    ·rw[HE.o];exact⟨rfl,lQ h bK.o bS.o _ _ _ (by omega)⟩
   | true=>
    by_cases hG:b2<I
    ·have HE:QP (gY t f st=(f,false,cF)):=pW Z.o hn bT.o (.inr hG);go_wp2_with (first|(refine QQ rfl 158 (.tmp 3) rfl w.heap.size 0 rfl (gQ f) _ aR.o LI rfl (by rw[gP];exact bJ) ?_)|(refine QR rfl 158 (.tmp 4) (.tmp 36) rfl (w.heap.size+1) 0 (gQ f).toArray rfl rfl (by rw[iJ];exact F.o) (by rw[iJ];exact bJ) (QS (mD _)) ?_));refine jH MZ (w.heap.size+1) 0 (gQ f) _ (.bool false) rfl rfl ?_ LI rfl (by rw[gP];exact bJ) rfl ?_
     ·exact LD _ _ _ _ (by rw[gP];exact F.o)
     ·rw[HE.o];exact⟨rfl,lQ h bK.o bS.o _ _ _ (by omega)⟩
    ·have HE:QP (gY t f st=(jI f I b2,true,cF)):=uK Z.o hn bT.o hG;go_wp2_with (first|(refine QQ rfl 158 (.tmp 3) rfl w.heap.size 0 rfl (gQ f) _ aR.o LI rfl (by rw[gP];exact bJ) ?_)|fail);refine(Co f I b2 _).mono ?_;rintro e w9 ⟨rfl,C⟩;have cP:=fZ (((bK.o).below (C.mono lR)).raise);have eR:=fZ (gD bS.o (iQ C lR (some rb)));have Y:=fZ (sB F.o C (by omega));have hA:=C.size;clear C bK bS F aR;go_wp2_with (first|(refine QR rfl 158 (.tmp 4) (.tmp 40) rfl (w.heap.size+1) 0 (gQ (jI f I b2)).toArray rfl rfl (by rw[iJ];exact Y.o) (by rw[iJ];exact bJ) (QS (mD _)) ?_));refine jH MZ (w.heap.size+1) 0 (gQ (jI f I b2)) _ (.bool true) rfl rfl ?_ LI rfl (by rw[gP];exact bJ) rfl ?_
     ·exact LD _ _ _ _ (by rw[gP];exact Y.o)
     ·rw[HE.o];exact⟨rfl,lQ h cP.o eR.o _ _ _ (by omega)⟩
theorem cU:LC=(gQ gJ).toArray:=by kernel_rfl
theorem dC:Tryz.zeroCells158.toList=gQ gJ:=by rw[cU]
theorem cZ:Tryz.zeroCells158.all (·.oneCell')=true:=by kernel_rfl
theorem IC(t:tB)(st:gS)(rb aH:Nat)(vr vn vp:tV)(w:tW)(ht:t.size<=120)(hL:st.at_<=t.size)(h:Rd w rb aH w.heap.size t st vr vn vp):
  QX LF 137 #[.pointer (some ⟨rb,0,none⟩)] w λ e w'=>
   e=.returned (.tuple #[.agg (gQ (rI t st).1).toArray,.bool (rI t st).2.1])/\Fa w rb aH t vr vn vp (rI t st).2.2 w':=by
 have rT:rb<w.heap.size:=by have:=h.hb;have:=h.hbt;omega
 have hF:=fZ (h.below (bR.alloc lR (.cells LC 158))).raise;have hR:=fZ (iD w LC 158 _ 256 bW rfl);have hE:QP (w.grownBy (w.alloc (.cells LC 158)) (some rb)):=kA (World.grownBy.refl _ _) _;have hD:(w.alloc (.cells LC 158)).heap.size=w.heap.size+1:=by simp
 go_enter func137,ntmps137;go_wp2_with fail;generalize w.alloc (.cells LC 158)=W0 at*;refine(kN t st 94 rb aH vr vn vp _ ht hL hF.o).mono ?_;rintro e w1 ⟨rfl,aO,bT⟩;have hC:=fZ (gD hE.o aO);have eR:=fZ (gK hR.o (aO.block w.heap.size (by omega) (by intro e;injection e;omega)));have cP:w.heap.size+1<=w1.heap.size:=by have:=aO.size;omega
 clear hF hR hE hD aO;obtain⟨C,D⟩:=xE (Bq t 94 st)
 obtain⟨o,ho⟩:=xE (gG t 94 st)
 have aW:C.at_<=t.size:=by
  rw[<-D];unfold Bq;split
  ·rename_i hq;exact iV (by omega) hq
  ·exact hL
 have HP:QP (rI t st=if o=true then(if(rS t C).2.1=true then((λ i=> !((rS t C).1 i)),true,(rS t C).2.2)else(gJ,false,(rS t C).2.2))else(if(rS t C).2.1=true then((rS t C).1,true,(rS t C).2.2)else(gJ,false,(rS t C).2.2))):=by
  unfold QP rI;rw[<-D,<-ho];by_cases hq:gG t 94 st=true
  ·rw[kP hq,aB hq,aB hq]
  ·rw[mH (by simpa using hq),aA hq,aA hq]
 rw[D]at bT;rw[ho];clear D ho;have cN:=Ej t gJ C rb aH vr vn vp w1 ht aW bT;have hm:=zI (f:=gJ) aW;have hV:QP (rS t C=mY t (t.size+1) (gY t gJ C).1 (gY t gJ C).2.1 (gY t gJ C).2.2):=rfl;generalize gY t gJ C=M at*;obtain⟨Y,hY,lH⟩:=M;simp only at cN hm;go_wp2_with fail;rw[cU];refine cN.mono ?_;rintro e w2 ⟨rfl,aL,hI⟩;have hH:=fZ (gD hC.o aL);have hP:=fZ (gK eR.o (aL.block w.heap.size (by omega) (by intro e;injection e;omega)));have rO:w.heap.size+1<=w2.heap.size:=by have:=aL.size;omega
 have aR:=fZ (iD w2 LC 158 _ 256 bW rfl);have eL:=fZ hI;clear hC eR cP aL bT hI cN;go_wp2_with (first|(refine QR rfl 158 (.tmp 5) (.tmp 13) rfl w2.heap.size 0 (gQ Y).toArray rfl rfl (by rw[iJ];exact aR.o) (by rw[iJ];exact bJ) (QS (mD _)) ?_));have hQ:=fZ (((h.retop eL.o (by omega)).below (bR.alloc (by omega) (.cells LC 158))).below (fX (gQ Y) 0 _ w2.heap.size (MN w.heap.size _) (by omega)));have eS:=fZ (oI (kA hH.o (.cells LC 158)) w2.heap.size 0 (gQ Y) (by omega));have hN:=fZ (LD (w2.alloc (.cells LC 158)) w2.heap.size 0 (gQ Y) (by rw[gP];exact aR.o));have hB:=fZ (MV aR.o w2.heap.size 0 (gQ Y));have hA:=fZ (MV (OC hP.o (.cells LC 158)) w2.heap.size 0 (gQ Y));have hT:w2.heap.size<((w2.alloc (.cells LC 158)).setCells w2.heap.size 0 (gQ Y)).heap.size:=by
  have:=(fX (gQ Y) 0 (w2.alloc (.cells LC 158)) w2.heap.size (MN 0 _) zL).size;simp at this;omega
 generalize hB2:w2.heap.size=B2 at*;generalize (w2.alloc (.cells LC 158)).setCells B2 0 (gQ Y)=X0 at*;clear hB2 eL hH hP aR
 go_loopg [6] (t.size+1) (λ gk x wr=>∃(f:Nat->Bool)(ok:Bool)(s:gS),x=.bool ok/\s.at_<=t.size/\(ok=true->t.size-s.at_<gk)/\rS t C=mY t gk f ok s/\
  Rd wr rb aH w.heap.size t s vr vn vp/\wr.rangeAt B2 0 (gQ f)/\wr.there B2 0 256/\wr.there w.heap.size 0 256/\w.grownBy wr (some rb)/\B2<wr.heap.size)
 case atStart=>exact⟨Y,hY,lH,rfl,hm.2,λ _=>by omega,hV.o,hQ.o,hN.o,hB.o,hA.o,eS.o,hT⟩
 case round=>
  obtain⟨f,ok,s,rfl,bN,eO,hK,hr,hf,hM,hz,hg,gL⟩:=hrel;have HL:=fZ hK;have HR:=fZ hr;have HF:=fZ hf;have HT:=fZ hM;have HZ:=fZ hz;have HG:=fZ hg;clear hK hr hf hM hz hg hQ eS hN hB hA
  cases ok with
  | false=>
   have X:rS t C=(f,false,s):=HL.o.trans (xR t gk f s);have HE:QP (rI t st=(gJ,false,s)):=by
    unfold QP;rw[HP.o,X];cases o<;>rfl
   clear X;go_wp2_with (first|(refine QR rfl 158 (.tmp 2) (.tmp 29) rfl w.heap.size 0 LC rfl rfl (by rw[bW];exact HZ.o) (by rw[bW];exact bJ) cZ ?_));refine jH OQ w.heap.size 0 (gQ gJ) _ (.bool false) rfl rfl ?_ LI rfl (by rw[gP];exact bJ) rfl ?_
   ·rw[dC];exact LD _ _ _ _ (by rw[gP];exact HZ.o)
   ·rw[HE.o];exact⟨rfl,lQ h HR.o.raise HG.o _ _ _ lR⟩
  | true=>
   have eN:=fZ (eO rfl);clear eO;obtain⟨g',hG⟩:∃g',gk=g'+1:=⟨gk-1,by have:=eN.o;omega⟩
   have Z:=fZ hG;clear hG;go_wp2_with fail;refine(kN t s 93 rb aH vr vn vp _ ht bN HR.o.raise).mono ?_;rintro e w3 ⟨rfl,F,J⟩;have U:=fZ (gD HG.o F);have V:=fZ (fY HF.o (F.block B2 gL (by intro e;injection e;omega)));have cF:=fZ (gK HT.o (F.block B2 gL (by intro e;injection e;omega)));have I:=fZ (gK HZ.o (F.block w.heap.size (by omega) (by intro e;injection e;omega)));have bC:B2<w3.heap.size:=by have:=F.size;omega
   clear HG HF HT HZ F
   cases hn:gG t 93 s with
   | true=>
    rw[kP hn]at J;have bO:=fZ J;have X:rS t C=(f,true,iO s):=by rw[HL.o,Z.o];exact P5 hn
    clear J HR
    cases o with
    | true=>
     have HE:QP (rI t st=((λ i=> !(f i)),true,iO s)):=by unfold QP;rw[HP.o,X];rfl
     clear X;go_wp2_with (first|(refine QQ rfl 158 (.tmp 5) rfl B2 0 rfl (gQ f) _ V.o LI rfl (by rw[gP];exact bJ) ?_)|fail);refine(Ua f _).mono ?_;rintro e w9 ⟨rfl,aT⟩;have qR:=fZ ((bO.o.below aT).raise);have iN:=fZ (gD U.o (iQ aT lR (some rb)));have eM:=fZ (sB I.o aT (by omega));clear aT bO U I V cF;go_wp2_with (first|(refine QR rfl 158 (.tmp 2) (.tmp 32) rfl w.heap.size 0 (gQ λ i=> !(f i)).toArray rfl rfl (by rw[iJ];exact eM.o) (by rw[iJ];exact bJ) (QS (mD _)) ?_));refine jH OQ w.heap.size 0 (gQ λ i=> !(f i)) _ (.bool true) rfl rfl ?_ LI rfl (by rw[gP];exact bJ) rfl ?_
     ·exact LD _ _ _ _ (by rw[gP];exact eM.o)
     ·rw[HE.o];exact⟨rfl,lQ h qR.o.raise iN.o _ _ _ lR⟩
    | false=>
     have HE:QP (rI t st=(f,true,iO s)):=by unfold QP;rw[HP.o,X];rfl
     clear X;go_wp2_with (first|(refine QQ rfl 158 (.tmp 5) rfl B2 0 rfl (gQ f) _ V.o LI rfl (by rw[gP];exact bJ) ?_)|(refine QR rfl 158 (.tmp 2) (.tmp 33) rfl w.heap.size 0 (gQ f).toArray rfl rfl (by rw[iJ];exact I.o) (by rw[iJ];exact bJ) (QS (mD _)) ?_));refine jH OQ w.heap.size 0 (gQ f) _ (.bool true) rfl rfl ?_ LI rfl (by rw[gP];exact bJ) rfl ?_
     ·exact LD _ _ _ _ (by rw[gP];exact I.o)
     ·rw[HE.o];exact⟨rfl,lQ h bO.o.raise U.o _ _ _ lR⟩
   | false=>
    rw[mH hn]at J;have X:rS t C=mY t g' (gY t f s).1 (gY t f s).2.1 (gY t f s).2.2:=by rw[HL.o,Z.o];exact N5 hn
    have bM:=Ej t f s rb aH vr vn vp w3 ht bN J;have hJ:=zI (f:=f) bN;have bK:= @Kf t f s;generalize gY t f s=M at*;obtain⟨f5,nN,s5⟩:=M;simp only at bM hJ bK;have HS:=fZ X;clear X;go_wp2_with (first|(refine QQ rfl 158 (.tmp 5) rfl B2 0 rfl (gQ f) _ V.o LI rfl (by rw[gP];exact bJ) ?_)|fail);refine bM.mono ?_;rintro e w5 ⟨rfl,Q,eT⟩;have nL:=fZ (gD U.o Q);have bS:=fZ (gK cF.o (Q.block B2 bC (by intro e;injection e;omega)));have qL:=fZ (gK I.o (Q.block w.heap.size (by omega) (by intro e;injection e;omega)));have rL:B2<w5.heap.size:=by have:=Q.size;omega
    have hU:=fZ eT;have hW:=fZ bK;clear Q eT U V cF I bC J bM HR bK;go_wp2_with (first|(refine QR rfl 158 (.tmp 5) (.tmp 25) rfl B2 0 (gQ f5).toArray rfl rfl (by rw[iJ];exact bS.o) (by rw[iJ];exact bJ) (QS (mD _)) ?_));go_roundg g'
    case measure=>have:=Z.o;omega
    case rel=>
     have eX:=fX (gQ f5) 0 w5 B2 (MN w.heap.size _) (by omega);refine⟨f5,nN,s5,rfl,hJ.2,λ hX=>?_,HS.o,(h.retop hU.o (by omega)).below eX,?_,?_,?_,oI nL.o B2 0 (gQ f5) (by omega),?_⟩
     ·have a1:=hW.o hX;have a2:=eN.o;have a3:=Z.o;omega
     ·exact LD _ _ _ _ (by rw[gP];exact bS.o)
     ·exact MV bS.o _ _ _
     ·exact MV qL.o _ _ _
     ·have:=eX.size;omega
theorem Cd:kI.size<=100:=by decide
theorem Ns(t:tB)(st:gS)(rb aH:Nat)(vr vn vp:tV)(w:tW)(ht:t.size<=120)(aR:st.at_<=t.size)(h:Rd w rb aH w.heap.size t st vr vn vp):
  QX LF 136 #[.pointer (some ⟨rb,0,none⟩)] w λ e w'=>
   e=.returned (.tuple #[.agg (gQ (hO t st).1).toArray,.bool (hO t st).2.1])/\Fa w rb aH t vr vn vp (hO t st).2.2 w':=by
 have gL:rb<w.heap.size:=by have:=h.hb;have:=h.hbt;omega
 have eM:=fZ (h.below (bR.alloc lR (.cells LC 158))).raise;have eN:=fZ (iD w LC 158 _ 256 bW rfl);have cP:QP (w.grownBy (w.alloc (.cells LC 158)) (some rb)):=kA (World.grownBy.refl _ _) _;have cN:(w.alloc (.cells LC 158)).heap.size=w.heap.size+1:=by simp
 go_enter func136,ntmps136;go_wp2_with fail;generalize w.alloc (.cells LC 158)=W0 at*;refine(kN t st 91 rb aH vr vn vp _ ht aR eM.o).mono ?_;rintro e w1 ⟨rfl,aL,J⟩;have Z:=fZ (gD cP.o aL);have aO:=fZ (gK eN.o (aL.block w.heap.size (by omega) (by intro e;injection e;omega)));have bO:w.heap.size+1<=w1.heap.size:=by have:=aL.size;omega
 clear eM eN cP cN aL
 cases h1:gG t 91 st with
 | true=>
  rw[kP h1]at J;have eR:=iV (by omega) h1;have HE:QP (hO t st=rI t (iO st)):=by unfold QP hO;rw[aB h1]
  have aW:=IC t (iO st) rb aH vr vn vp w1 ht (uT eR) J;generalize rI t (iO st)=M at*;obtain⟨f2,eS,eX⟩:=M;simp only at aW;go_wp2_with fail;refine aW.mono ?_;rintro e w2 ⟨rfl,F,D⟩;have Q:=fZ (gD Z.o F);have I:=fZ (gK aO.o (F.block w.heap.size (by omega) (by intro e;injection e;omega)));have Y:=fZ D;clear Z aO J F D aW;go_wp2_with (first|(refine QR rfl 158 (.tmp 2) (.tmp 10) rfl w.heap.size 0 (gQ f2).toArray rfl rfl (by rw[iJ];exact I.o) (by rw[iJ];exact bJ) (QS (mD _)) ?_));refine jH NN w.heap.size 0 (gQ f2) _ (.bool eS) rfl rfl ?_ LI rfl (by rw[gP];exact bJ) rfl ?_
  ·exact LD _ _ _ _ (by rw[gP];exact I.o)
  ·rw[HE.o];exact⟨rfl,lQ h Y.o.raise Q.o _ _ _ lR⟩
 | false=>
  have n1:¬(gG t 91 st=true):=by rw[h1];decide
  rw[mH h1]at J;go_wp2_with fail;refine(kN t st 46 rb aH vr vn vp _ ht aR J).mono ?_;rintro e w2 ⟨rfl,F,D⟩;have Q:=fZ (gD Z.o F);have I:=fZ (gK aO.o (F.block w.heap.size (by omega) (by intro e;injection e;omega)));have eL:w.heap.size+1<=w2.heap.size:=by have:=F.size;omega
  clear Z aO J F bO
  cases h2:gG t 46 st with
  | true=>
   rw[kP h2]at D;have Y:=fZ D;have HE:QP (hO t st=((λ i=> !(gJ i)),true,iO st)):=by unfold QP hO;rw[aA n1,aB h2]
   clear D n1;go_wp2_with fail;rw[cU];refine(Ua gJ _).mono ?_;rintro e w9 ⟨rfl,C⟩;have aT:=fZ ((Y.o.below C).raise);have bM:=fZ (gD Q.o (iQ C lR (some rb)));have U:=fZ (sB I.o C (by omega));clear C Y Q I;go_wp2_with (first|(refine QR rfl 158 (.tmp 2) (.tmp 15) rfl w.heap.size 0 (gQ λ i=> !(gJ i)).toArray rfl rfl (by rw[iJ];exact U.o) (by rw[iJ];exact bJ) (QS (mD _)) ?_));refine jH NN w.heap.size 0 (gQ λ i=> !(gJ i)) _ (.bool true) rfl rfl ?_ LI rfl (by rw[gP];exact bJ) rfl ?_
   ·exact LD _ _ _ _ (by rw[gP];exact U.o)
   ·rw[HE.o];exact⟨rfl,lQ h aT.o.raise bM.o _ _ _ lR⟩
  | false=>
   have n2:¬(gG t 46 st=true):=by rw[h2];decide
   rw[mH h2]at D;have cF:=yU t kI st;have bK:=I9 t kI st rb aH vr vn vp w2 ht Cd aR D;have HY:QP ((gC t kI st).2.1=true->hO t st=(jI gJ (gC t kI st).1 (gC t kI st).1,true,(gC t kI st).2.2)):=by
    intro hq;unfold hO;rw[aA n1,aA n2,aB hq]
   have HN:QP ((gC t kI st).2.1=false->hO t st=(gJ,false,(gC t kI st).2.2)):=by
    intro hq;unfold hO;rw[aA n1,aA n2,aA (by rw[hq];decide)]
   generalize gC t kI st=M at*;obtain⟨b3,eO,bT⟩:=M;simp only at bK cF HY HN;clear n1 n2;go_wp2_with fail;refine bK.mono ?_;rintro e w3 ⟨rfl,V,bS⟩;have bN:=fZ (gD Q.o V);have X:=fZ (gK I.o (V.block w.heap.size (by omega) (by intro e;injection e;omega)));have bC:=fZ bS;have eT:w.heap.size+1<=w3.heap.size:=by have:=V.size;omega
   clear Q I D V bS bK eL
   cases eO with
   | false=>
    have HE:QP (hO t st=(gJ,false,bT)):=HN.o rfl;go_wp2_with (first|(refine QR rfl 158 (.tmp 2) (.tmp 23) rfl w.heap.size 0 LC rfl rfl (by rw[bW];exact X.o) (by rw[bW];exact bJ) cZ ?_));refine jH NN w.heap.size 0 (gQ gJ) _ (.bool false) rfl rfl ?_ LI rfl (by rw[gP];exact bJ) rfl ?_
    ·rw[dC];exact LD _ _ _ _ (by rw[gP];exact X.o)
    ·rw[HE.o];exact⟨rfl,lQ h bC.o.raise bN.o _ _ _ lR⟩
   | true=>
    have HE:QP (hO t st=(jI gJ b3 b3,true,bT)):=HY.o rfl;go_wp2_with fail;rw[cU];refine(Co gJ b3 b3 _).mono ?_;rintro e w9 ⟨rfl,C⟩;have aT:=fZ ((bC.o.below C).raise);have bM:=fZ (gD bN.o (iQ C lR (some rb)));have U:=fZ (sB X.o C (by omega));clear C bC bN X;go_wp2_with (first|(refine QR rfl 158 (.tmp 2) (.tmp 27) rfl w.heap.size 0 (gQ (jI gJ b3 b3)).toArray rfl rfl (by rw[iJ];exact U.o) (by rw[iJ];exact bJ) (QS (mD _)) ?_));refine jH NN w.heap.size 0 (gQ (jI gJ b3 b3)) _ (.bool true) rfl rfl ?_ LI rfl (by rw[gP];exact bJ) rfl ?_
    ·exact LD _ _ _ _ (by rw[gP];exact U.o)
    ·rw[HE.o];exact⟨rfl,lQ h aT.o.raise bM.o _ _ _ lR⟩
theorem fL:(Tryz.prog.info? 162).map (λ i=>(i.zero,i.size,i.bytes))=some (some (.agg #[.int .i64 0,.int .i64 0,.int .i64 0]),3,24):=by kernel_rfl
theorem F2(t:tB)(st:gS)(x y z:Int)(rb aH:Nat)(vr vn vp:tV)(w:tW)(h:Rd w rb aH w.heap.size t st vr vn vp)(hn:st.aV.length<=100000):
  QX LF 115 #[.pointer (some ⟨rb,0,none⟩),.agg #[.int .i64 x,.int .i64 y,.int .i64 z]] w λ e w'=>e=.returned (.int .i64 st.aV.length)/\Gq w rb aH t vr vn vp (rV (x,y,z) st) w':=by
 have D:=fZ (h.below (bR.alloc lR (.cells #[.int .i64 x,.int .i64 y,.int .i64 z] 162)));have V:=fZ ((MN w.heap.size w).alloc lR (.cells #[.int .i64 x,.int .i64 y,.int .i64 z] 162));have g0:(w.alloc (.cells #[.int .i64 x,.int .i64 y,.int .i64 z] 162)).cell? ⟨w.heap.size,0,none⟩=some (.int .i64 x):=by rw[NJ];rfl
 have g1:(w.alloc (.cells #[.int .i64 x,.int .i64 y,.int .i64 z] 162)).cell? ⟨w.heap.size,1,none⟩=some (.int .i64 y):=by rw[NJ];rfl
 have g2:(w.alloc (.cells #[.int .i64 x,.int .i64 y,.int .i64 z] 162)).cell? ⟨w.heap.size,2,none⟩=some (.int .i64 z):=by rw[NJ];rfl
 have Y:(w.alloc (.cells #[.int .i64 x,.int .i64 y,.int .i64 z] 162)).heap.size=w.heap.size+1:=by simp
 go_enter func115,ntmps115;go_wp2_with fail;generalize w.alloc (.cells #[.int .i64 x,.int .i64 y,.int .i64 z] 162)=W at*;have Z:=D.o.c3;have aL:rb<w.heap.size:=by have:=h.hb;have:=h.hbt;omega
 have U:aH<=W.heap.size:=by have:=h.hbt;omega
 have F:some rb≠vn.ownBlock:=λ e=>by have:=h.rn.lt rb e.symm;have:=h.hb;omega
 have f3:=D.o.fz 3;go_region_law ((refine qJ W.drew rfl (.tmp 10) (.tmp 12) 41 rfl aH 162 (.agg #[.int .i64 0,.int .i64 0,.int .i64 0]) 3 24 underlying41 fL rfl (by decide) (by decide) vn st.aV.length (xF st.aV) [.int .i64 x,.int .i64 y,.int .i64 z] _ (by simp[Act.eval]) D.o.rn _ rfl (by simp[Act.eval]) rfl (by simp[LZ]) (by omega) U ?_;intro g4 cap4 w4 I C J Q;have m3:=((gH C (k:=rb) (by show rb<W.heap.size;omega) F).1 3).trans Z;have n3:=((gH C (k:=rb) (by show rb<W.heap.size;omega) F).2 3).trans f3;have X:=fZ (D.o.drew.moreN (x:=(x,y,z)) I C J Q)))
 all_goals
  go_wp2;go_ret;refine⟨?_,_,_,_,X.o.1.raise,(Fr.of_grown (iQ V.o lR (some rb))).trans X.o.2.of_drew⟩
  first|rfl|(simp;done)|(congr 2;omega)
section
theorem Wz(f:Nat->Bool)(o:Array tV)(h:o.size=256):Instr.fill (λ i=>some (i*256,256)) o [(0,.agg (gQ f).toArray)]=some (gQ f).toArray:=by
 have D:=Go.Great.fill_whole (s:=256) (by decide) [.agg (gQ f).toArray] o (λ v C=>by rw[OU]at C;subst C;exact iJ f) (by simp[h]);have e:([Value.agg (gQ f).toArray].flatMap λ v=>v.cells.toList).toArray=(gQ f).toArray:=by simp[OZ]
 rw[e]at D;exact D
def Dj(v:tV):Array tV:=match v with
 | .agg cs=>cs
 | _=> #[]
def Mm(v:tV):Prop:=∃f,v=.agg (gQ f).toArray
theorem dE:(Tryz.prog.info? 158).map (λ i=>(i.zero,i.size,i.bytes))=some (some (.agg LC),256,256):=by kernel_rfl
theorem dQ{d:Option Tmp}{p:String}{D:Array Edge}{X:tW}{K:Act->tW->Prop}{Q:Exit->Act->tW->Prop}
  (h:Mm (a.eval x)):
  Oper.wp LF {dst:=d,op:= .buildSlice 42 1 #[(0,x)],type:=ty,pos:=p,after:=D,guard:=gd} a X K Q=K (a.put d (.slice (some ⟨X.heap.size,0,none⟩) 1 1)) (X.alloc (.cells (Dj (a.eval x)) 158)):=by
 obtain⟨f,F⟩:=h;obtain⟨i,hi,I,o,J⟩:=QT dE;have C:=run_buildSlice (P:=LF) X 42 158 1 #[(0,.agg (gQ f).toArray)] (gQ f).toArray i _ underlying42 hi I (by rw[o];decide) (by rw[o];decide)
  (by rw[o];exact Wz f _ (by simp))
 unfold Oper.wp execOp;simp only[OX,PE,PH,F,Sem.run_bind,C,Result.andThen_ok,Dj]
 rfl
def Oa(X:tW)(v:tV):Nat->Bool:=match v with
 | .pointer (some a)=>X6 X a.block
 | _=>λ _=>false
def Fs(X:tW)(v:tV):Prop:=∃B,v=.pointer (some ⟨B,0,none⟩)/\Rk X B
theorem eC{d:Option Tmp}{p:String}{D:Array Edge}{X:tW}{K:Act->tW->Prop}{Q:Exit->Act->tW->Prop}
  (h:Fs X (a.eval x)):
  Oper.wp LF {dst:=d,op:= .load 158 x,type:=ty,pos:=p,after:=D,guard:=gd} a X K Q=K (a.put d (.agg (gQ (Oa X (a.eval x))).toArray)) X:=by
 obtain⟨B,C,F⟩:=h;have o:=QV (P:=LF) X B 0 158 (gQ (X6 X B)) _ F LI rfl (by rw[gP];exact bJ);unfold Oper.wp execOp;simp only[C,Instr.loadAt,Instr.sureAddr,Sem.run_bind,Sem.run_pure,Result.andThen_ok,o,Oa]
 rfl
attribute [local go_sem] Dj
attribute [local go_sem ↓] Go.wp_at_zero Go.wp_at_succ dQ eC
theorem Xe(t:tB)(st:gS)(rb aH:Nat)(vr vn vp:tV)(w:tW)(ht:t.size<=120)(eX:st.at_<=t.size)(h:Rd w rb aH w.heap.size t st vr vn vp)(hn:st.aV.length<=1000)(cP:st.aW.length<=1000):
  QX LF 133 #[.pointer (some ⟨rb,0,none⟩)] w λ e w'=>e=.returned (.tuple #[.int .i64 (qZ t st).1,.bool (qZ t st).2.1])/\Gq w rb aH t vr vn vp (qZ t st).2.2 w':=by
 have hJ:rb<w.heap.size:=by have:=h.hb;have:=h.hbt;omega
 have Y:=Ns t st rb aH vr vn vp w ht eX h;have hY:(hO t st).2.1=true->qZ t st=(((hO t st).2.2.aV.length:Int),true,rV (0,((hO t st).2.2.aW.length:Int),0) (Zv (hO t st).1 (hO t st).2.2)):=λ hq=>by unfold qZ;rw[aB hq]
 have hN:(hO t st).2.1=false->qZ t st=(0,false,(hO t st).2.2):=λ hq=>by unfold qZ;rw[aA (by rw[hq];decide)]
 have Q:=xV t st;generalize hO t st=M at*;obtain⟨f,ok,F⟩:=M;simp only at Y hY hN Q;have hL:F.aV.length<=1000:=by rw[Q.2.1];exact hn
 have hI:F.aW.length<=1000:=by rw[Q.2.2];exact cP
 clear Q;have HY:=fZ hY;have HN:=fZ hN;clear hY hN;go_enter func133,ntmps133;go_wp2_with fail;refine Y.mono ?_;rintro e w1 ⟨rfl,J,bO⟩;have Z:=fZ (iD w1 LC 158 _ 256 bW rfl);have I:=J.size;clear Y;have D:=fZ (((h.retop bO I).below (bR.alloc (by omega) (.cells LC 158))).below (fX (gQ f) 0 _ w1.heap.size (MN w.heap.size _) (by omega)));have bS:=fZ (oI (kA J (.cells LC 158)) w1.heap.size 0 (gQ f) (by omega));have eL:=fZ (LD (w1.alloc (.cells LC 158)) w1.heap.size 0 (gQ f) (by rw[gP];exact Z.o));have hA:QP (w1.heap.size<((w1.alloc (.cells LC 158)).setCells w1.heap.size 0 (gQ f)).heap.size):=by
  unfold QP;have:=(fX (gQ f) 0 (w1.alloc (.cells LC 158)) w1.heap.size (MN 0 _) zL).size;simp at this;omega
 have eT:=fZ J;clear J bO;go_upto_region 2 with(first|(refine xM rfl 158 (.tmp 4) (.tmp 10) rfl w1.heap.size 0 f ?_ ?_ ?_ bJ ?_;rfl;rfl;exact Z.o))
 generalize (w1.alloc (.cells LC 158)).setCells w1.heap.size 0 (gQ f)=X at*;have aT:QP (w.heap.size<=w1.heap.size):=I;clear Z eT I;generalize w1.heap.size=B1 at*
 cases ok with
 | false=>
  have HE:=fZ (HN.o rfl);go_wp2;go_ret2;rw[HE.o];exact⟨rfl,_,_,_,D.o.raise,Fr.of_grown bS.o⟩
 | true=>
  have HE:=fZ (HY.o rfl);obtain⟨av,cv,gL⟩:=gA D.o.rp;subst gL;have c4:=D.o.c4;have f4:=D.o.fz 4;go_wp2_with fail;have V:some rb≠(LG av F.aW.length cv).ownBlock:=λ e=>by have:=D.o.rp.lt rb e.symm;have:=h.hb;omega
  have eM:aH<=X.heap.size:=by have:=D.o.hbt;have:=D.o.hz;omega
  have hK:Mm (.agg (gQ f).toArray):=⟨f,rfl⟩
  have aO:rb<X.heap.size:=by have:=D.o.hz;omega
  have hu:=LI;have hi:(Tryz.prog.info? 158).map (·.size)=some (gQ f).length:=by rw[gP];exact bJ
  have eR:=gP f;have eS:=mD f;have hF:=eL.o;have bN:B1<X.heap.size:=hA.o;have cF:some B1≠(LG av F.aW.length cv).ownBlock:=λ e=>by have:=D.o.lp B1 e.symm;have:=aT.o;omega
  have hD:rb≠B1:=by have:=aT.o;omega
  obtain⟨U,bM⟩:=Xi (X:=X.drew) (B:=B1) (f:=f) hF;have hH:Fs X.drew (.pointer (some ⟨B1,0,none⟩)):=⟨B1,rfl,bM⟩
  have hP:gQ (Oa X.drew (.pointer (some ⟨B1,0,none⟩)))=gQ f:=U;clear U bM hu hi eR eS;go_region_law ((refine qJ X.drew rfl (.tmp 25) (.tmp 27) 42 rfl aH 158 (.agg LC) 256 256 underlying42 dE bW (by decide) (by decide) _ F.aW.length (Z3 F.aW) (gQ f) _ (by simp[Act.eval]) D.o.rp _ rfl (by simp[Act.eval]) (gP f) (mD f) (by omega) eM ?_;intro g4 cap4 w4 aL C cN bK;have m3:=((gH C (k:=rb) aO V).1 4).trans c4;have n3:=((gH C (k:=rb) aO V).2 4).trans f4;have hG:w4.rangeAt B1 0 (gQ f):=λ j v hv=>((gH C (k:=B1) bN cF).1 (0+j)).trans (hF j v hv);have HM:=fZ (D.o.drew.moreP (x:=f) aL C cN bK)))
  all_goals
   have bC:=HM.o.1.raise;have hB:=fZ bC;have eN:=fZ ((Fr.of_grown bS.o).trans HM.o.2.of_drew);clear bC;generalize w4.setCell ⟨rb,4,none⟩ (.slice (some ⟨g4,0,none⟩) (F.aW.length+1) cap4)=w5 at*;go_wp2_with fail;refine(F2 t (Zv f F) 0 (F.aW.length:Int) 0 rb aH _ _ _ w5 hB.o (by show F.aV.length<=100000;omega)).mono ?_;rintro e w6 ⟨rfl,hM,hQ,hE,aR,bT⟩;have hC:=fZ aR;have eO:=fZ (eN.o.trans bT);clear aR bT;go_wp2;go_ret2;rw[HE.o];exact⟨rfl,_,_,_,hC.o,eO.o⟩
end
def zQ(st:gS):Prop:=st.aV.length<=3*st.at_/\st.aW.length<=st.at_
theorem zQ.gr{t:tB}{a b:gS}(h:zQ a)(g:Gr t a b):zQ b:=by
 obtain⟨D,F⟩:=h;obtain⟨C,I,o,g4⟩:=g;exact⟨by omega,by omega⟩
theorem zQ.adv{a:gS}(h:zQ a):zQ (Go.Stn.iO a):=by
 obtain⟨o,C⟩:=h;refine⟨?_,?_⟩
 ·show a.aV.length<=3*(a.at_+1);omega
 ·show a.aW.length<=a.at_+1;omega
def vK(o:Nat)(t:tB)(F:gS->Int×Bool×gS)(st:gS):Prop:=
 ∀(rb aH:Nat)(vr vn vp:tV)(w:tW),st.at_<=t.size->zQ st->Rd w rb aH w.heap.size t st vr vn vp->
  QX LF o #[.pointer (some ⟨rb,0,none⟩)] w λ e w'=>e=.returned (.tuple #[.int .i64 (F st).1,.bool (F st).2.1])/\Gq w rb aH t vr vn vp (F st).2.2 w'
theorem Mg(t:tB)(st:gS)(rb aH:Nat)(vr vn vp:tV)(w:tW)(h:Rd w rb aH w.heap.size t st vr vn vp):
  QX LF 122 #[.pointer (some ⟨rb,0,none⟩)] w λ e w'=>e=.returned (.bool (mW t st))/\∃q,w'=w.drewN q:=by
 have Q:QP (mW t st=(decide (gF t st.at_=40\/gF t st.at_=91\/gF t st.at_=46\/gF t st.at_=92)||kV (gF t st.at_) kI)):=rfl;go_enter func122,ntmps122;go_wp2_with fail;refine(wF t st rb aH w.heap.size vr vn vp _ h).mono ?_;rintro e w1 ⟨rfl,q,rfl⟩;clear h;generalize gF t st.at_=p at*;by_cases D:p=40
 ·have C:QP (mW t st=true):=by unfold QP;rw[Q.o];simp[D]
  have X:(p==40)=true:=beq_iff_eq.2 D;clear D;go_wp2_with fail;go_ret;exact⟨by rw[C.o];rfl,q,rfl⟩
 have X:(p==40)=false:=aC.2 D;by_cases F:p=91
 ·have C:QP (mW t st=true):=by unfold QP;rw[Q.o];simp[F]
  have b2:(p==91)=true:=beq_iff_eq.2 F;clear D F;go_wp2_with fail;go_ret;exact⟨by rw[C.o];rfl,q,rfl⟩
 have b2:(p==91)=false:=aC.2 F;by_cases I:p=46
 ·have C:QP (mW t st=true):=by unfold QP;rw[Q.o];simp[I]
  have U:(p==46)=true:=beq_iff_eq.2 I;clear D F I;go_wp2_with fail;go_ret;exact⟨by rw[C.o];rfl,q,rfl⟩
 have U:(p==46)=false:=aC.2 I;by_cases J:p=92
 ·have C:QP (mW t st=true):=by unfold QP;rw[Q.o];simp[J]
  have V:(p==92)=true:=beq_iff_eq.2 J;clear D F I J;go_wp2_with fail;go_ret;exact⟨by rw[C.o];rfl,q,rfl⟩
 have V:(p==92)=false:=aC.2 J;have C:QP (mW t st=kV p kI):=by unfold QP;rw[Q.o];simp[D,F,I,J]
 clear D F I J;go_wp2_with fail;refine(U3 p kI _ Cd).mono ?_;rintro e w2 ⟨rfl,rfl⟩;go_wp2;go_ret;exact⟨by rw[C.o];rfl,q,rfl⟩
theorem Zm(t:tB)(ex:gS->Int×Bool×gS)(st:gS)(ht:t.size<=120)(hx:Dw t ex)(bS:gG t 40 st=true->vK 95 t ex (iO st)):
  vK 127 t (jS t ex) st:=by
 intro rb aH vr vn vp w Y U h
 cases h1:gG t 40 st with
 | false=>
  have HE:QP (jS t ex st=qZ t st):=by unfold QP jS;rw[aA (by rw[h1];decide)]
  have hf:=U;obtain⟨cN,V⟩:=hf;go_enter func127,ntmps127;go_wp2_with fail;refine(kN t st 40 rb aH vr vn vp _ ht Y h).mono ?_;rintro e w1 ⟨rfl,I,C⟩;rw[mH h1]at C;rw[h1];have aR:=fZ I;go_wp2_with fail;refine(Xe t st rb aH vr vn vp _ ht Y C (by omega) (by omega)).mono ?_;rintro e w2 ⟨rfl,bT,bO,bK,D,Q⟩;have aL:=fZ D;have J:=fZ ((Fr.of_grown aR.o).trans Q);clear D Q C I;go_wp2;go_ret2;rw[HE.o];exact⟨rfl,_,_,_,aL.o,J.o⟩
 | true=>
  have bN:=iV (by omega) h1;have hq:=bS h1;have Z:=hx (iO st) (uT bN);have HY:QP ((ex (iO st)).2.1=true/\gG t 41 (ex (iO st)).2.2=true->jS t ex st=((ex (iO st)).1,true,iO (ex (iO st)).2.2)):=by
   intro hc;unfold jS;rw[aB h1,aB hc]
  have HN:QP (¬((ex (iO st)).2.1=true/\gG t 41 (ex (iO st)).2.2=true)->jS t ex st=(0,false,(ex (iO st)).2.2)):=by
   intro hc;unfold jS;rw[aB h1,aA hc]
  go_enter func127,ntmps127;go_wp2_with fail;refine(kN t st 40 rb aH vr vn vp _ ht Y h).mono ?_;rintro e w1 ⟨rfl,I,C⟩;rw[kP h1]at C;rw[h1];have aO:=hq rb aH vr vn vp w1 (uT bN) U.adv C;have aR:=fZ I;clear I hq bS;generalize ex (iO st)=M at*;obtain⟨n2,cF,X⟩:=M;simp only at aO Z HY HN;have bC:X.at_<=t.size:=Z.2.1;go_wp2_with fail;refine aO.mono ?_;rintro e w2 ⟨rfl,bT,bO,bK,D,V⟩;have J:=fZ ((Fr.of_grown aR.o).trans V);clear V aO C Z
  cases cF with
  | false=>
   have HE:=fZ (HN.o (by simp));have aL:=fZ D;clear D;go_wp2_with fail;go_ret2;rw[HE.o];exact⟨rfl,_,_,_,aL.o,J.o⟩
  | true=>
   go_wp2_with fail;refine(kN t X 41 rb aH bT bO bK _ ht bC D).mono ?_;rintro e w3 ⟨rfl,aW,F⟩;have bM:=fZ (J.o.trans (Fr.of_grown aW));clear aW D
   cases h3:gG t 41 X with
   | true=>
    rw[kP h3]at F;have aT:=fZ F;have HE:=fZ (HY.o (by simp[h3]));clear F;go_wp2;go_ret2;rw[HE.o];exact⟨rfl,_,_,_,aT.o,bM.o⟩
   | false=>
    rw[mH h3]at F;have aT:=fZ F;have HE:=fZ (HN.o (by rw[h3];simp));clear F;go_wp2;go_ret2;rw[HE.o];exact⟨rfl,_,_,_,aT.o,bM.o⟩
theorem j6{p:Int}(o:p≠63)(C:p≠43)(D:p≠42):mE p=0:=by unfold mE;rw[aA o,aA C,aA D]
theorem Gn(t:tB)(ex:gS->Int×Bool×gS)(st:gS)(ht:t.size<=120)(hx:Dw t ex)(bT:gG t 40 st=true->vK 95 t ex (iO st)):
  vK 121 t (jE t ex) st:=by
 intro rb aH vr vn vp w bM aL h;have aT:=Zm t ex st ht hx bT rb aH vr vn vp w bM aL h;have Y:=(Ml hx bM).gr;have HN:QP ((jS t ex st).2.1=false->jE t ex st=(0,false,(jS t ex st).2.2)):=by
  intro hc;unfold jE;rw[aA (by rw[hc];decide)]
 have HP:QP ((jS t ex st).2.1=true->mE (gF t (jS t ex st).2.2.at_)=0->jE t ex st=((jS t ex st).1,true,(jS t ex st).2.2)):=by
  intro hc hm;unfold jE;rw[aB hc,aB hm]
 have HM:QP ((jS t ex st).2.1=true->mE (gF t (jS t ex st).2.2.at_)≠0->jE t ex st=(((jS t ex st).2.2.aV.length:Int),true,rV (mE (gF t (jS t ex st).2.2.at_),(jS t ex st).1,0) (iO (jS t ex st).2.2))):=by
  intro hc hm;unfold jE;rw[aB hc,aA hm]
 have cP:=fZ (aL.gr Y);clear bT;generalize jS t ex st=M at*;obtain⟨n1,eL,D⟩:=M;simp only at aT Y HN HP HM cP;have eO:D.at_<=t.size:=Y.2.1;clear Y;go_enter func121,ntmps121;go_wp2_with fail;refine aT.mono ?_;rintro e w1 ⟨rfl,Q,I,J,V,cF⟩;have bC:=fZ cF;clear cF aT
 cases eL with
 | false=>
  have HE:=fZ (HN.o rfl);have eN:=fZ V;clear V;go_wp2;go_ret2;rw[HE.o];exact⟨rfl,_,_,_,eN.o,bC.o⟩
 | true=>
  go_wp2_with fail;refine(wF t D rb aH _ Q I J _ V).mono ?_;rintro e w2 ⟨rfl,q,rfl⟩;have Z:=fZ (V.drewN q).raise;have cN:QP (Fr w (w1.drewN q) rb vr vn vp Q I J):=bC.o.trans (Fr.of_grown (jZ (World.grownBy.refl _ _) q));clear V bC;generalize w1.drewN q=w2 at*;have eM:=fZ (HP.o (by simp));have aR:=fZ (HM.o (by simp));clear HP HM HN;generalize hp:gF t D.at_=p at*;clear hp;have c1:=Z.o.c1;have f1:=Z.o.fz 1;have aO:D.aV.length<=100000:=by have:=cP.o.1;omega
  by_cases hm:p=63\/p=43\/p=42
  ·have aW:=fZ Z.o.adv.raise;have bK:QP (Fr w (w2.setCell ⟨rb,1,none⟩ (.int .i64 ((D.at_:Int)+1))) rb vr vn vp Q I J):=cN.o.trans (Fr.of_grown (lO (World.grownBy.refl _ _) _ _));rcases hm with rfl|rfl|rfl
   ·have HE:=fZ (aR.o (by decide));go_wp2_with fail;refine(F2 t (iO D) 3 n1 0 rb aH Q I J _ aW.o aO).mono ?_;rintro e w3 ⟨rfl,bO,bN,bS,C,F⟩;have X:=fZ C;have U:=fZ (bK.o.trans F);clear C F;go_wp2;go_ret2;rw[HE.o];exact⟨rfl,_,_,_,X.o,U.o⟩
   ·have HE:=fZ (aR.o (by decide));go_wp2_with fail;refine(F2 t (iO D) 4 n1 0 rb aH Q I J _ aW.o aO).mono ?_;rintro e w3 ⟨rfl,bO,bN,bS,C,F⟩;have X:=fZ C;have U:=fZ (bK.o.trans F);clear C F;go_wp2;go_ret2;rw[HE.o];exact⟨rfl,_,_,_,X.o,U.o⟩
   ·have HE:=fZ (aR.o (by decide));go_wp2_with fail;refine(F2 t (iO D) 5 n1 0 rb aH Q I J _ aW.o aO).mono ?_;rintro e w3 ⟨rfl,bO,bN,bS,C,F⟩;have X:=fZ C;have U:=fZ (bK.o.trans F);clear C F;go_wp2;go_ret2;rw[HE.o];exact⟨rfl,_,_,_,X.o,U.o⟩
  ·have h1:p≠63:=λ e=>hm (.inl e)
   have h2:p≠43:=λ e=>hm (.inr (.inl e))
   have h3:p≠42:=λ e=>hm (.inr (.inr e))
   have HE:=fZ (eM.o (j6 h1 h2 h3));have b1:(p==63)=false:=aC.2 h1;have b2:(p==43)=false:=aC.2 h2;have b3:(p==42)=false:=aC.2 h3;clear hm h1 h2 h3;go_wp2;go_ret2;rw[HE.o];exact⟨rfl,_,_,_,Z.o,cN.o⟩
theorem Uh(t:tB)(ex:gS->Int×Bool×gS)(st:gS)(ht:t.size<=120)(hx:Dw t ex)(aO:∀s,st.at_<=s.at_->gG t 40 s=true->vK 95 t ex (iO s)):
  vK 114 t (mI t ex) st:=by
 intro rb aH vr vn vp w eT Z h;have aL:=Gn t ex st ht hx (aO st lR) rb aH vr vn vp w eT Z h;have U:=(E1 hx eT).gr;have bK:=fZ (Z.gr U);have HA:QP (mI t ex st=nO t ex (t.size+1) (jE t ex st).1 (jE t ex st).2.1 (jE t ex st).2.2):=rfl;have hD:=fZ aO;clear aO;generalize jE t ex st=M at*;obtain⟨n1,hT,bC⟩:=M;simp only at aL U bK HA;have eM:bC.at_<=t.size:=U.2.1;have hB:st.at_<=bC.at_:=U.1;clear U;go_enter func114,ntmps114;go_wp2_with fail;refine aL.mono ?_;rintro e w1 ⟨rfl,hF,hI,hV,eN,bT⟩;have gL:=fZ eN;have eX:=fZ bT;clear bT aL eN;go_wp2_with fail
 go_loopg [4,5] (t.size+1) (λ gk x y wr=>∃(aY:Int)(ok:Bool)(s:gS)(J F I:tV),x=.int .i64 aY/\y=.bool ok/\st.at_<=s.at_/\s.at_<=t.size/\zQ s/\(ok=true->t.size-s.at_<gk)/\mI t ex st=nO t ex gk aY ok s/\
  Rd wr rb aH wr.heap.size t s J F I/\Fr w wr rb vr vn vp J F I)
 case atStart=>exact⟨n1,hT,bC,hF,hI,hV,rfl,rfl,hB,eM,bK.o,λ _=>by omega,HA.o,gL.o,eX.o⟩
 case round=>
  obtain⟨aY,ok,s,J,F,I,rfl,rfl,hJ,bO,cN,cP,eR,hr,hf⟩:=hrel;have HL:=fZ eR;have HF:=fZ hf;have bN:=fZ cN;have aT:=fZ cP;clear eR hf cN cP gL eX bK HA
  cases ok with
  | false=>
   have HE:QP (mI t ex st=(aY,false,s)):=HL.o.trans (Ey t ex gk aY s);have HR:=fZ hr;clear hr;go_wp2;go_ret2;rw[HE.o];exact⟨rfl,_,_,_,HR.o,HF.o⟩
  | true=>
   obtain⟨g',eO⟩:∃g',gk=g'+1:=⟨gk-1,by have:=aT.o rfl;omega⟩
   have V:=fZ eO;clear eO;have hR:QP (t.size-s.at_<gk):=aT.o rfl;clear aT;go_wp2_with fail;refine(Mg t s rb aH J F I _ hr).mono ?_;rintro e w3 ⟨rfl,q,rfl⟩;have X:=(hr.drewN q).raise;have bM:QP (Fr w (wr.drewN q) rb vr vn vp J F I):=HF.o.trans (Fr.of_grown (jZ (World.grownBy.refl _ _) q));clear hr HF;generalize wr.drewN q=w3 at*
   cases hp:mW t s with
   | false=>
    have HE:QP (mI t ex st=(aY,true,s)):=by unfold QP;rw[HL.o,V.o];exact Js hp
    have hX:=fZ X;clear X;go_wp2;go_ret2;rw[HE.o];exact⟨rfl,_,_,_,hX.o,bM.o⟩
   | true=>
    have Q:mI t ex st=nO t ex g' ((jE t ex s).2.2.aV.length:Int) (jE t ex s).2.1 (rV (1,aY,(jE t ex s).1) (jE t ex s).2.2):=by rw[HL.o,V.o];exact Jh hp
    have aW:=Gn t ex s ht hx (hD.o s hJ) rb aH J F I w3 bO bN.o X;have Y:=E1 hx bO;have hQ:=Dh hx hp;have HS:=fZ Q;clear Q;generalize jE t ex s=M at*;obtain⟨n4,hG,C⟩:=M;simp only at aW Y hQ HS;have aR:=Y.gr;have hA:C.at_<=t.size:=aR.2.1;have D:zQ C:=bN.o.gr aR;have hH:C.aV.length<=100000:=by have:=D.1;omega
    have hL:QP (zQ (rV (1,aY,n4) C)):=by
     have h2:=D.2;have h1:=bN.o.1;refine⟨?_,h2⟩;show(C.aV++[(1,aY,n4)]).length<=3*C.at_;rw[LO,LQ];rcases Y with⟨g1,g2,g3,g4⟩|⟨g1,g2,g3,g4⟩
     ·omega
     ·omega
    clear Y aR D;go_wp2_with fail;refine aW.mono ?_;rintro e w4 ⟨rfl,hN,hU,hW,bS,hC⟩;have eS:=fZ (bM.o.trans hC);clear hC aW X bM;go_wp2_with fail;refine(F2 t C 1 aY n4 rb aH hN hU hW _ bS hH).mono ?_;rintro e w5 ⟨rfl,hP,hK,hS,eL,cF⟩;have hE:=fZ eL;have hM:=fZ (eS.o.trans cF);clear eL cF bS eS;go_wp2_with fail;go_roundg g'
    case measure=>have:=V.o;omega
    case rel=>
     refine⟨_,hG,rV (1,aY,n4) C,hP,hK,hS,rfl,rfl,?_,hA,hL.o,λ _=>?_,HS.o,hE.o,hM.o⟩
     ·show st.at_<=C.at_;omega
     ·show t.size-C.at_<g';have a1:=hR.o;have a2:=V.o;omega
theorem JW(t:tB)(ex:gS->Int×Bool×gS)(st:gS)(ht:t.size<=120)(hx:Dw t ex)(aO:∀s,st.at_<=s.at_->gG t 40 s=true->vK 95 t ex (iO s)):
  vK 95 t (λ st=>kE t ex (t.size+1) (mI t ex st).1 (mI t ex st).2.1 (mI t ex st).2.2) st:=by
 intro rb aH vr vn vp w eX Z h;show QX _ _ _ _ λ e w'=>e=.returned (.tuple #[.int .i64 (kE t ex (t.size+1) (mI t ex st).1 (mI t ex st).2.1 (mI t ex st).2.2).1,.bool (kE t ex (t.size+1) (mI t ex st).1 (mI t ex st).2.1 (mI t ex st).2.2).2.1])/\Gq w rb aH t vr vn vp (kE t ex (t.size+1) (mI t ex st).1 (mI t ex st).2.1 (mI t ex st).2.2).2.2 w'
 have aL:=Uh t ex st ht hx aO rb aH vr vn vp w eX Z h;have X:=N7 hx eX;have bK:=fZ (Z.gr X);generalize hA:kE t ex (t.size+1) (mI t ex st).1 (mI t ex st).2.1 (mI t ex st).2.2=A;have HA:=fZ hA.symm;clear hA;have hF:=fZ aO;clear aO;generalize mI t ex st=M at*;obtain⟨n1,hW,aW⟩:=M;simp only at aL X bK HA;have eN:aW.at_<=t.size:=X.2.1;have hD:st.at_<=aW.at_:=X.1;clear X;go_enter func95,ntmps95;go_wp2_with fail;refine aL.mono ?_;rintro e w1 ⟨rfl,hI,hL,hY,eO,bT⟩;have hB:=fZ eO;have gL:=fZ bT;clear bT aL eO;go_wp2_with fail
 go_loopg [4,5] (t.size+1) (λ gk x y wr=>∃(aY:Int)(ok:Bool)(s:gS)(U F J:tV),x=.int .i64 aY/\y=.bool ok/\st.at_<=s.at_/\s.at_<=t.size/\zQ s/\(ok=true->t.size-s.at_<gk)/\A=kE t ex gk aY ok s/\
  Rd wr rb aH wr.heap.size t s U F J/\Fr w wr rb vr vn vp U F J)
 case atStart=>exact⟨n1,hW,aW,hI,hL,hY,rfl,rfl,hD,eN,bK.o,λ _=>by omega,HA.o,hB.o,gL.o⟩
 case round=>
  obtain⟨aY,ok,s,U,F,J,rfl,rfl,nL,hH,cN,eL,eS,hr,hf⟩:=hrel;have HL:=fZ eS;have HF:=fZ hf;have bN:=fZ cN;have aR:=fZ eL;clear eS hf cN eL hB gL bK HA
  cases ok with
  | false=>
   have HE:QP (A=(aY,false,s)):=HL.o.trans (Db t ex gk aY s);have HR:=fZ hr;clear hr;go_wp2;go_ret2;rw[HE.o];exact⟨rfl,_,_,_,HR.o,HF.o⟩
  | true=>
   obtain⟨g',eR⟩:∃g',gk=g'+1:=⟨gk-1,by have:=aR.o rfl;omega⟩
   have Y:=fZ eR;clear eR;have hU:QP (t.size-s.at_<gk):=aR.o rfl;clear aR;go_wp2_with fail;refine(kN t s 124 rb aH U F J _ ht hH hr).mono ?_;rintro e w3 ⟨rfl,bO,Q⟩;have bM:QP (Fr w w3 rb vr vn vp U F J):=HF.o.trans (Fr.of_grown bO);clear hr HF bO
   cases hp:gG t 124 s with
   | false=>
    have HE:QP (A=(aY,true,s)):=by unfold QP;rw[HL.o,Y.o];exact Eu hp
    rw[mH hp]at Q;have lH:=fZ Q;clear Q;go_wp2;go_ret2;rw[HE.o];exact⟨rfl,_,_,_,lH.o,bM.o⟩
   | true=>
    have cP:=iV (by omega) hp;rw[kP hp]at Q;have V:A=kE t ex g' ((mI t ex (iO s)).2.2.aV.length:Int) (mI t ex (iO s)).2.1 (rV (2,aY,(mI t ex (iO s)).1) (mI t ex (iO s)).2.2):=by rw[HL.o,Y.o];exact Fi hp
    have aT:=Uh t ex (iO s) ht hx (λ x hS=>hF.o x (by rw[iG]at hS;omega)) rb aH U F J w3 (uT cP) bN.o.adv Q;have I:=N7 hx (uT cP);have bC:=Jk I;have HS:=fZ V;clear V;have hT:s.at_+1<=(mI t ex (iO s)).2.2.at_:=by have:=I.1;rw[iG]at this;exact this
    generalize mI t ex (iO s)=M at*;obtain⟨n4,hJ,C⟩:=M;simp only at aT bC hT HS I;have hC:C.at_<=t.size:=I.2.1;have D:zQ C:=bN.o.adv.gr I;have hK:C.aV.length<=100000:=by have:=D.1;omega
    have hN:QP (zQ (rV (2,aY,n4) C)):=by
     have h2:=D.2;have h1:=bN.o.1;refine⟨?_,h2⟩;show(C.aV++[(2,aY,n4)]).length<=3*C.at_;rw[LO,LQ];rcases bC with⟨g1,g2,g3,g4⟩|⟨g1,g2,g3,g4⟩
     ·omega
     ·omega
    clear bC I D;go_wp2_with fail;refine aT.mono ?_;rintro e w4 ⟨rfl,hQ,hX,iN,bS,hE⟩;have eT:=fZ (bM.o.trans hE);clear hE aT Q bM;go_wp2_with fail;refine(F2 t C 2 aY n4 rb aH hQ hX iN _ bS hK).mono ?_;rintro e w5 ⟨rfl,hR,hM,hV,eM,cF⟩;have hG:=fZ eM;have hP:=fZ (eT.o.trans cF);clear eM cF bS eT;go_wp2_with fail;go_roundg g'
    case measure=>have:=Y.o;omega
    case rel=>
     refine⟨_,hJ,rV (2,aY,n4) C,hR,hM,hV,rfl,rfl,?_,hC,hN.o,λ _=>?_,HS.o,hG.o,hP.o⟩
     ·show st.at_<=C.at_;omega
     ·show t.size-C.at_<g';have a1:=hU.o;have a2:=Y.o;omega
theorem BO(t:tB)(C:t.size<=120):∀(f:Nat)(st:gS),t.size-st.at_<f->vK 95 t (lI t f) st:=by
 intro f
 induction f with
 | zero=>intro st h;omega
 | succ e ih=>
  intro st h;exact JW t (lI t e) st C (Bp t e) (λ s D o=>ih (iO s) (by have:=iV (by omega) o;rw[iG];omega))
structure rC(w:tW)(b:Nat)(f:Nat->Bool):Prop where
 c0:w.cell? ⟨b,0,none⟩=some (.bool (f 0))
 c1:w.cell? ⟨b,1,none⟩=some (.bool (f 1))
 c2:w.cell? ⟨b,2,none⟩=some (.bool (f 2))
 c3:w.cell? ⟨b,3,none⟩=some (.bool (f 3))
 z:∀i,w.frozen? ⟨b,i,none⟩=false
theorem rC.block{w w':tW}{f:Nat->Bool}(h:rC w b f)(o:w'.heap[b]?=w.heap[b]?):rC w' b f:=
 ⟨(LJ (w:=w) (a:=⟨b,0,none⟩) o).trans h.c0,(LJ (w:=w) (a:=⟨b,1,none⟩) o).trans h.c1,(LJ (w:=w) (a:=⟨b,2,none⟩) o).trans h.c2,(LJ (w:=w) (a:=⟨b,3,none⟩) o).trans h.c3,λ i=>(NB (w:=w) (a:=⟨b,i,none⟩) o).trans (h.z i)⟩
theorem rC.new(w:tW)(b:Nat)(o:b=w.heap.size):rC (w.alloc (.cells #[.bool false,.bool false,.bool false,.bool false] 117)) b gJ:=
 ⟨(LK _ _ b 0 o).trans rfl,(LK _ _ b 1 o).trans rfl,(LK _ _ b 2 o).trans rfl,(LK _ _ b 3 o).trans rfl,λ i=>NF _ _ b i o⟩
theorem rC.alloc{w:tW}{f:Nat->Bool}(h:rC w b f)(C:b<w.heap.size)(o:Obj):rC (w.alloc o) b f:=
 ⟨(MH o b 0 C).trans h.c0,(MH o b 1 C).trans h.c1,(MH o b 2 C).trans h.c2,(MH o b 3 C).trans h.c3,λ i=>(OE o b i C).trans (h.z i)⟩
theorem rC.there{w:tW}{f:Nat->Bool}(h:rC w b f):w.there b 0 4:=by
 intro j o;rw[MI];refine⟨?_,h.z j⟩
 match j,o with
 | 0,_=>rw[h.c0];rfl
 | 1,_=>rw[h.c1];rfl
 | 2,_=>rw[h.c2];rfl
 | 3,_=>rw[h.c3];rfl
def xB(f:Nat->Bool):List tV:= [.bool (f 0),.bool (f 1),.bool (f 2),.bool (f 3)]
theorem cB:(Tryz.prog.info? 117).map (·.size)=some 4:=by kernel_rfl
theorem oB{P:Program}{ops:Array Oper}{rest:List Oper}{op:Oper}{w:tW}{Q:Exit->Act->tW->Prop}(o:op.guard=none)(ty:TypeId)(x y:Operand)(D:op.op=.store ty x y)
  (b:Nat) (f g:Nat->Bool) (F:a.eval x=.pointer (some ⟨b,0,none⟩)) (I:a.eval y=IG f) (C:rC w b g) (hi:(P.info? ty).map (·.size)=some 4)
  (h:wpList P ops Q rest (a.put op.dst undef) (w.setCells b 0 (xB f))):wpList P ops Q (op::rest) a w:=
 QR o ty x y D b 0 (xB f).toArray F I C.there hi (by simp[xB,LZ]) h
theorem EU(f:Nat->Bool)(k:Nat):sT f (k:Int) k=true:=by unfold sT;rw[aB rfl]
theorem FM(f:Nat->Bool)(k i:Nat)(h:i≠k):sT f (k:Int) i=f i:=by unfold sT;rw[aA (by omega)]
theorem rC.set{w:tW}{f:Nat->Bool}(h:rC w b f){n:Int}(J:0<=n)(I:n<=3):rC (w.setCell ⟨b,n.toNat,none⟩ (.bool true)) b (sT f n):=by
 obtain⟨k,rfl⟩:∃k:Nat,n=(k:Int):=⟨n.toNat,by omega⟩
 rw[NC];have C:(w.cell? ⟨b,k,none⟩).isSome=true:=by have:=(h.there k (by omega)).1;rw[MI]at this;exact this
 have e:∀i,i<4->w.cell? ⟨b,i,none⟩=some (.bool (f i))->(w.setCell ⟨b,k,none⟩ (.bool true)).cell? ⟨b,i,none⟩=some (.bool (sT f k i)):=by
  intro i hi F;by_cases o:i=k
  ·subst o;rw[EU,NW _ _ _ C]
  ·rw[FM f k i o,LP (w:=w) (a:=⟨b,k,none⟩) (b:=⟨b,i,none⟩) (v:= .bool true) (h:=by intro e;exact o (by injection e with _ D _;exact D.symm)),F]
 exact⟨e 0 (by omega) h.c0,e 1 (by omega) h.c1,e 2 (by omega) h.c2,e 3 (by omega) h.c3,λ i=>by rw[LU];exact h.z i⟩
theorem rC.other{w:tW}{f:Nat->Bool}(h:rC w b f)(c i:Nat)(v:tV)(o:b≠c):rC (w.setCell ⟨c,i,none⟩ v) b f:=
 h.block (MO w ⟨c,i,none⟩ v b o)
theorem pI{a w:tW}{r:Option Nat}(h:a.grownBy w r){b:Nat}(D:a.heap.size<=b)(i:Nat)(v:tV):a.grownBy (w.setCell ⟨b,i,none⟩ v) r:=
 ⟨h.os,h.tape,h.output,by have:=h.size;simp[MD];omega,λ k o C=>(MO w ⟨b,i,none⟩ v k (by show k≠b;omega)).trans (h.block k o C)⟩
theorem Ye(t:tB)(st:gS)(rb aH:Nat)(vr vn vp:tV)(w:tW)(ht:t.size<=120)(eT:st.at_<=t.size)(h:Rd w rb aH w.heap.size t st vr vn vp):
  QX LF 94 #[.pointer (some ⟨rb,0,none⟩)] w λ e w'=>
   e=.returned (.tuple #[IG (iU t st).1,.bool (iU t st).2.1])/\Fa w rb aH t vr vn vp (iU t st).2.2 w':=by
 have hb:=xW t st;have hl:=wN (t:=t) eT;have hT:rb<w.heap.size:=by have:=h.hb;have:=h.hbt;omega
 have Y:QP (iU t st=if(gE t st).2.1=false then(gJ,false,(gE t st).2.2)else nD t 5 (sT gJ (gE t st).1) (gE t st).1 (gE t st).2.2):=rfl;have bM:QP (Bl w ((w.alloc (.cells #[.bool false,.bool false,.bool false,.bool false] 117)).alloc (.cells #[.bool false,.bool false,.bool false,.bool false] 117))):=(bR.alloc lR _).alloc (by simp) _;have hB:QP (rC ((w.alloc (.cells #[.bool false,.bool false,.bool false,.bool false] 117)).alloc (.cells #[.bool false,.bool false,.bool false,.bool false] 117)) w.heap.size gJ):=by
  exact(rC.new w _ rfl).alloc (by simp) _
 have cN:QP (rC ((w.alloc (.cells #[.bool false,.bool false,.bool false,.bool false] 117)).alloc (.cells #[.bool false,.bool false,.bool false,.bool false] 117)) (w.heap.size+1) gJ):=by
  exact rC.new _ _ (by simp)
 have eM:((w.alloc (.cells #[.bool false,.bool false,.bool false,.bool false] 117)).alloc (.cells #[.bool false,.bool false,.bool false,.bool false] 117)).heap.size=w.heap.size+2:=by simp
 go_enter func94,ntmps94;go_wp2_with fail;generalize (w.alloc (.cells #[.bool false,.bool false,.bool false,.bool false] 117)).alloc (.cells #[.bool false,.bool false,.bool false,.bool false] 117)=W0 at*;refine(J4 t st rb aH vr vn vp _ ht eT (h.below bM.o).raise).mono ?_;rintro e w1 ⟨rfl,U,eL⟩;have C:=fZ (hB.o.block (U.block w.heap.size (by omega) (by intro e;injection e;omega)));have D:=fZ (cN.o.block (U.block (w.heap.size+1) (by omega) (by intro e;injection e;omega)));have bN:=fZ (gD (iQ bM.o lR (some rb)) U);have aT:w.heap.size+2<=w1.heap.size:=by have:=U.size;omega
 have aR:=fZ eL;clear eL bM hB cN eM U;generalize gE t st=M at*;obtain⟨n1,hP,bK⟩:=M;simp only at Y aR hb hl;obtain⟨Q,X⟩:=hb;obtain⟨hL,aW⟩:=hl
 cases hP with
 | false=>
  have Z:QP (iU t st=(gJ,false,bK)):=Y.o;have c0:=D.o.c0;have c1:=D.o.c1;have c2:=D.o.c2;have c3:=D.o.c3;have z0:=C.o.z 0;have z1:=C.o.z 1;have z2:=C.o.z 2;have z3:=C.o.z 3;go_wp2_with (first|(refine oB rfl 117 (.tmp 2) (.tmp 16) rfl w.heap.size gJ gJ rfl rfl C.o cB ?_));refine jH OR w.heap.size 0 (xB gJ) _ (.bool false) rfl rfl ?_ NR rfl cB rfl ?_
  ·exact LD _ _ _ _ C.o.there
  ·rw[Z.o];exact⟨rfl,lQ h aR.o.raise bN.o _ _ _ lR⟩
 | true=>
  have Z:QP (iU t st=nD t 5 (sT gJ n1) n1 bK):=Y.o;clear Y;have eN:QP (rC (w1.setCell ⟨w.heap.size+1,n1.toNat,none⟩ (.bool true)) (w.heap.size+1) (sT gJ n1)):=D.o.set Q X;have gL:QP (rC (w1.setCell ⟨w.heap.size+1,n1.toNat,none⟩ (.bool true)) w.heap.size gJ):=C.o.other _ _ _ (by omega);have eR:=fZ (pI bN.o (b:=w.heap.size+1) (by omega) n1.toNat (.bool true));have bS:=fZ ((h.retop aR.o (by omega)).below ((MN w.heap.size w1).setCell (p:=⟨w.heap.size+1,n1.toNat,none⟩) (by show w.heap.size<=w.heap.size+1;omega) (.bool true)));have eX:w.heap.size+2<=(w1.setCell ⟨w.heap.size+1,n1.toNat,none⟩ (.bool true)).heap.size:=by rw[MA];exact aT
  have hc:(w1.cell? ⟨w.heap.size+1,n1.toNat,none⟩).isSome=true:=by have:=(D.o.there n1.toNat (by omega)).1;rw[MI]at this;exact this
  obtain⟨v1,hG⟩:=OF.1 hc;clear hc;have hz:=D.o.z n1.toNat;obtain⟨k1,hF⟩:∃k:Nat,n1=(k:Int):=⟨n1.toNat,by omega⟩
  subst hF;rw[NC]at*;go_wp2_with fail;clear hG hz;generalize w1.setCell ⟨w.heap.size+1,k1,none⟩ (.bool true)=X0 at*;clear C D bN aR aT
  go_loopg [5] 5 (λ gk x wr=>∃(f:Nat->Bool)(aZ:Int)(s:gS),x=.int .i64 aZ/\0<=aZ/\aZ<=3/\s.at_<=t.size/\3-aZ<gk/\iU t st=nD t gk f aZ s/\
   Rd wr rb aH w.heap.size t s vr vn vp/\rC wr (w.heap.size+1) f/\rC wr w.heap.size gJ/\w.grownBy wr (some rb)/\w.heap.size+2<=wr.heap.size)
  case atStart=>exact⟨sT gJ k1,k1,bK,rfl,Q,X,aW,by omega,Z.o,bS.o,eN.o,gL.o,eR.o,eX⟩
  case round=>
   obtain⟨f,aZ,s,rfl,hS,hQ,bT,hR,eS,hr,hf,hz,hg,hU⟩:=hrel;have HL:=fZ eS;have HF:=fZ hf;have HZ:=fZ hz;have HG:=fZ hg;have hb:=xW t s;have hl:=wN (t:=t) bT;obtain⟨g',bO⟩:∃g',gk=g'+1:=⟨gk-1,by omega⟩
   have Y:QP (iU t st=if(gE t s).2.1=false then(f,true,(gE t s).2.2)
    else if(gE t s).1<=aZ then(f,false,(gE t s).2.2)
    else nD t g' (sT f (gE t s).1) (gE t s).1 (gE t s).2.2):=by
    unfold QP;rw[HL.o,bO];rfl
   have cF:=fZ bO;clear bO eS hf hz hg bS eN gL eR eX Z;go_wp2_with fail;refine(J4 t s rb aH vr vn vp _ ht bT hr.raise).mono ?_;rintro e w3 ⟨rfl,J,cP⟩;have F:=fZ (HF.o.block (J.block (w.heap.size+1) (by omega) (by intro e;injection e;omega)));have V:=fZ (HZ.o.block (J.block w.heap.size (by omega) (by intro e;injection e;omega)));have bC:=fZ (gD HG.o J);have hA:w.heap.size+2<=w3.heap.size:=by have:=J.size;omega
   have aO:=fZ cP;clear cP hr J HF HZ HG;generalize gE t s=M at*;obtain⟨I,hN,aL⟩:=M;simp only at Y aO hb hl;obtain⟨Q,X⟩:=hb;obtain⟨hL,aW⟩:=hl;have c0:=F.o.c0;have c1:=F.o.c1;have c2:=F.o.c2;have c3:=F.o.c3
   cases hN with
   | false=>
    have Z:QP (iU t st=(f,true,aL)):=Y.o;go_wp2_with (first|(refine oB rfl 117 (.tmp 2) (.tmp 26) rfl w.heap.size f gJ rfl rfl V.o cB ?_));refine jH OR w.heap.size 0 (xB f) _ (.bool true) rfl rfl ?_ NR rfl cB rfl ?_
    ·exact LD _ _ _ _ V.o.there
    ·rw[Z.o];exact⟨rfl,lQ h aO.o.raise bC.o _ _ _ lR⟩
   | true=>
    by_cases eO:I<=aZ
    ·have Z:QP (iU t st=(f,false,aL)):=Y.o.trans (aB eO);go_wp2_with (first|(refine oB rfl 117 (.tmp 2) (.tmp 30) rfl w.heap.size f gJ rfl rfl V.o cB ?_));refine jH OR w.heap.size 0 (xB f) _ (.bool false) rfl rfl ?_ NR rfl cB rfl ?_
     ·exact LD _ _ _ _ V.o.there
     ·rw[Z.o];exact⟨rfl,lQ h aO.o.raise bC.o _ _ _ lR⟩
    ·have Z:QP (iU t st=nD t g' (sT f I) I aL):=Y.o.trans (aA eO);clear Y c0 c1 c2 c3;have hK:QP (rC (w3.setCell ⟨w.heap.size+1,I.toNat,none⟩ (.bool true)) (w.heap.size+1) (sT f I)):=F.o.set Q X;have hE:QP (rC (w3.setCell ⟨w.heap.size+1,I.toNat,none⟩ (.bool true)) w.heap.size gJ):=V.o.other _ _ _ (by omega);have hI:=fZ (pI bC.o (b:=w.heap.size+1) (by omega) I.toNat (.bool true));have hH:=fZ ((h.retop aO.o (by omega)).below ((MN w.heap.size w3).setCell (p:=⟨w.heap.size+1,I.toNat,none⟩) (by show w.heap.size<=w.heap.size+1;omega) (.bool true)));have hJ:w.heap.size+2<=(w3.setCell ⟨w.heap.size+1,I.toNat,none⟩ (.bool true)).heap.size:=by rw[MA];exact hA
     have hc:(w3.cell? ⟨w.heap.size+1,I.toNat,none⟩).isSome=true:=by have:=(F.o.there I.toNat (by omega)).1;rw[MI]at this;exact this
     obtain⟨v3,hD⟩:=OF.1 hc;clear hc;have hC:=F.o.z I.toNat;obtain⟨k3,hM⟩:∃k:Nat,I=(k:Int):=⟨I.toNat,by omega⟩
     subst hM;rw[NC]at*;go_wp2_with fail;clear hD hC;generalize w3.setCell ⟨w.heap.size+1,k3,none⟩ (.bool true)=X4 at*;go_roundg g'
     case measure=>have:=cF.o;omega
     case rel=>
      exact⟨sT f k3,k3,aL,rfl,Q,X,aW,by have:=cF.o;omega,Z.o,hH.o,hK.o,hE.o,hI.o,hJ⟩
theorem zQ.same{a b:gS}(h:zQ a)(k:kL a b)(D:a.at_<=b.at_):zQ b:=by
 obtain⟨o,C⟩:=h;refine⟨?_,?_⟩
 ·rw[k.2.1];omega
 ·rw[k.2.2];omega
theorem rC.stored{w:tW}{g:Nat->Bool}(h:rC w b g)(f:Nat->Bool):rC (w.setCells b 0 (xB f)) b f:=by
 have o:=LD w b 0 (xB f) h.there;exact⟨o 0 _ rfl,o 1 _ rfl,o 2 _ rfl,o 3 _ rfl,λ i=>by rw[World.frozen?_setCells];exact h.z i⟩
theorem Fc{t:tB}{ex:gS->Int×Bool×gS}(C:∀s,(jE t ex s).2.2.aX=s.aX):∀(n:Nat)(aY:Int)(o:Bool)(st:gS),(nO t ex n aY o st).2.2.aX=st.aX:=by
 intro n
 induction n with
 | zero=>intro aY o st;rfl
 | succ e ih=>
  intro aY o st;rw[nO];split
  ·rfl
  ·split
   ·rfl
   ·rw[ih];exact C st
theorem Ef{t:tB}{ex:gS->Int×Bool×gS}(C:∀s,(mI t ex s).2.2.aX=s.aX):∀(n:Nat)(aY:Int)(o:Bool)(st:gS),(kE t ex n aY o st).2.2.aX=st.aX:=by
 intro n
 induction n with
 | zero=>intro aY o st;rfl
 | succ e ih=>
  intro aY o st;rw[kE];split
  ·rfl
  ·split
   ·rfl
   ·rw[ih];exact C (iO st)
theorem Ae(t:tB):∀(f:Nat)(st:gS),(lI t f st).2.2.aX=st.aX:=by
 intro f
 induction f with
 | zero=>intro st;rfl
 | succ e ih=>
  have F:∀s,(qZ t s).2.2.aX=s.aX:=by
   intro s;have:=(xV t s).1;unfold qZ;split<;>exact this
  have o:∀s,(jS t (lI t e) s).2.2.aX=s.aX:=by
   intro s;unfold jS;split
   ·split
    ·exact ih (iO s)
    ·exact ih (iO s)
   ·exact F s
  have D:∀s,(jE t (lI t e) s).2.2.aX=s.aX:=by
   intro s;unfold jE;split
   ·split
    ·exact o s
    ·exact o s
   ·exact o s
  have C:∀s,(mI t (lI t e) s).2.2.aX=s.aX:=by
   intro s;unfold mI;rw[Fc D];exact D s
  intro st;rw[lI,Ef C];exact C st
theorem fD:(Tryz.prog.info? 119).map (λ i=>(i.zero,i.size,i.bytes))=some (some (.agg #[.bool false,.bool false,.bool false,.bool false,.int .i64 0,.int .i64 0]),6,24):=by kernel_rfl
theorem Q6(t:tB)(st:gS):kL st (jQ t st).2.2:=by
 unfold jQ;split
 ·exact kL.adv st
 ·split
  ·exact kL.adv st
  ·split
   ·exact vU t st
   ·exact vU t st
theorem Kw(t:tB)(st:gS)(rb aH:Nat)(vr vn vp:tV)(w:tW)(ht:t.size<=120)(hR:st.at_<=t.size)(bM:zQ st)(hC:st.aX.length<=100000)(h:Rd w rb aH w.heap.size t st vr vn vp):
  QX LF 65 #[.pointer (some ⟨rb,0,none⟩)] w λ e w'=>e=.returned (.bool (nE t st).1)/\Gq w rb aH t vr vn vp (nE t st).2 w':=by
 have tL:rb<w.heap.size:=by have:=h.hb;have:=h.hbt;omega
 have HC:QP (nE t st=if(iU t st).2.1=false then(false,(iU t st).2.2)
  else if gG t 32 (iU t st).2.2=false then(false,(iU t st).2.2)
  else F1 t (iU t st).1 (iO (iU t st).2.2)):=rfl
 have hl:=Bf (t:=t) hR;go_enter func65,ntmps65;go_wp2_with fail;refine(Ye t st rb aH vr vn vp _ ht hR h).mono ?_;rintro e w1 ⟨rfl,cF,eN⟩;generalize iU t st=M at*;obtain⟨f,rL,C⟩:=M;simp only at HC hl eN;obtain⟨eS,qL,hX⟩:=hl;have tO:=cF.size;have hL:=fZ (bM.same eS qL);have hK:QP (C.aX.length<=100000):=by unfold QP;rw[eS.1];exact hC
 have hG:=fZ ((rC.new w1 _ rfl).stored f);have bT:QP (Bl w1 ((w1.alloc (.cells #[.bool false,.bool false,.bool false,.bool false] 117)).setCells w1.heap.size 0 (xB f))):=fX (xB f) 0 _ w1.heap.size (bR.alloc lR _) lR;have eX:=fZ (eN.below bT.o).raise;have eT:QP (Fr w ((w1.alloc (.cells #[.bool false,.bool false,.bool false,.bool false] 117)).setCells w1.heap.size 0 (xB f)) rb vr vn vp vr vn vp):=Fr.of_grown (gD cF (iQ bT.o lR (some rb)));have hV:w1.heap.size<((w1.alloc (.cells #[.bool false,.bool false,.bool false,.bool false] 117)).setCells w1.heap.size 0 (xB f)).heap.size:=by
  have:=(fX (xB f) 0 (w1.alloc (.cells #[.bool false,.bool false,.bool false,.bool false] 117)) w1.heap.size (MN 0 _) zL).size;simp at this;omega
 have hM:QP (¬(w1.heap.size=rb\/vr.ownBlock=some w1.heap.size\/vn.ownBlock=some w1.heap.size\/vp.ownBlock=some w1.heap.size)):=by
  rintro(e|e|e|e)
  ·omega
  ·have:=h.lr _ e;omega
  ·have:=h.ln _ e;omega
  ·have:=h.lp _ e;omega
 clear cF eN bT eS bM hC h
 cases rL with
 | false=>
  have V:QP (nE t st=(false,C)):=HC.o;go_wp2_with (first|(refine oB rfl 117 (.tmp 3) (.tmp 10) rfl w1.heap.size f gJ rfl rfl (rC.new w1 _ rfl) cB ?_));go_ret;rw[V.o];exact⟨rfl,_,_,_,eX.o,eT.o⟩
 | true=>
 go_wp2_with (first|(refine oB rfl 117 (.tmp 3) (.tmp 10) rfl w1.heap.size f gJ rfl rfl (rC.new w1 _ rfl) cB ?_));generalize (w1.alloc (.cells #[.bool false,.bool false,.bool false,.bool false] 117)).setCells w1.heap.size 0 (xB f)=X1 at*;generalize w1.heap.size=B at*;refine(kN t C 32 rb aH vr vn vp _ ht hX eX.o).mono ?_;rintro e w2 ⟨rfl,aL,Q⟩;have cP:=fZ (eT.o.trans (Fr.of_grown aL));have hS:=fZ (hG.o.block (aL.block B (by omega) (by intro e;injection e;omega)));have bS:B<w2.heap.size:=by have:=aL.size;omega
 clear aL eX eT hG hV
 cases hn1:gG t 32 C with
 | false=>
  have V:QP (nE t st=(false,C)):=HC.o.trans (aB hn1);rw[mH hn1]at Q;have hW:=fZ Q;clear Q;go_wp2;go_ret;rw[V.o];exact⟨rfl,_,_,_,hW.o,cP.o⟩
 | true=>
 have HM:QP (nE t st=if(lI t (t.size+1) (iO C)).2.1=false then(false,(lI t (t.size+1) (iO C)).2.2)
  else if gG t 32 (lI t (t.size+1) (iO C)).2.2=false then(false,(lI t (t.size+1) (iO C)).2.2)
  else F8 t f (lI t (t.size+1) (iO C)).1 (iO (lI t (t.size+1) (iO C)).2.2)):=by
  have bO:¬gG t 32 C=false:=by rw[hn1];decide
  exact HC.o.trans (aA bO)
 have hD:=iV (by omega) hn1;rw[kP hn1]at Q;have eL:=BO t ht (t.size+1) (iO C) (by omega) rb aH vr vn vp w2 (uT hD) hL.o.adv Q;have aT:=Bp t (t.size+1) (iO C) (uT hD);have cN:QP ((lI t (t.size+1) (iO C)).2.2.aX=C.aX):=Ae t (t.size+1) (iO C);clear HC hn1;generalize lI t (t.size+1) (iO C)=M at*;obtain⟨n3,qR,D⟩:=M;simp only at HM aT cN eL;have hB:D.at_<=t.size:=aT.2.1;have tT:=fZ (hL.o.adv.gr aT);go_wp2_with fail;refine eL.mono ?_;rintro e w3 ⟨rfl,Y,gL,hE,aR,U⟩;have eR:=fZ (cP.o.trans U);have hJ:=fZ (hS.o.block (U.block B bS hM.o));have rT:=fZ (U.stay B bS hM.o);have hU:B<w3.heap.size:=by have:=U.size;omega
 have nN:QP (D.aX.length<=100000):=by unfold QP;rw[cN.o];exact hK.o
 clear U eL Q cP hS bS hK cN aT
 cases qR with
 | false=>
  have V:QP (nE t st=(false,D)):=HM.o;have rO:=fZ aR;clear aR;go_wp2;go_ret;rw[V.o];exact⟨rfl,_,_,_,rO.o,eR.o⟩
 | true=>
 go_wp2_with fail;refine(kN t D 32 rb aH Y gL hE _ ht hB aR).mono ?_;rintro e w4 ⟨rfl,aW,J⟩;have eO:=fZ (eR.o.trans (Fr.of_grown aW));have hA:=fZ (hJ.o.block (aW.block B (by omega) (by intro e;injection e;omega)));have nL:B<w4.heap.size:=by have:=aW.size;omega
 clear aW aR eR hJ hU
 cases hn3:gG t 32 D with
 | false=>
  have V:QP (nE t st=(false,D)):=HM.o.trans (aB hn3);rw[mH hn3]at J;have hY:=fZ J;clear J;go_wp2;go_ret;rw[V.o];exact⟨rfl,_,_,_,hY.o,eO.o⟩
 | true=>
 have aO:QP (nE t st=if(jQ t (iO D)).2.1=false then(false,(jQ t (iO D)).2.2)else(true,FU (f,(jQ t (iO D)).1,n3) (jQ t (iO D)).2.2)):=by
  have bO:¬gG t 32 D=false:=by rw[hn3];decide
  exact HM.o.trans (aA bO)
 have hQ:=iV (by omega) hn3;rw[kP hn3]at J;have hN:QP ((jQ t (iO D)).2.2.aX=D.aX):=(Q6 t (iO D)).1;have bN:=Pg t (iO D) rb aH Y gL hE w4 ht (uT hQ) J;clear HM hn3;generalize jQ t (iO D)=M at*;obtain⟨n5,lH,X⟩:=M;simp only at aO hN bN;go_wp2_with fail;refine bN.mono ?_;rintro e w5 ⟨rfl,Z,hH⟩;have hI:=fZ (eO.o.trans (Fr.of_grown Z));have bC:=fZ (hA.o.block (Z.block B (by omega) (by intro e;injection e;omega)));have A0:B<w5.heap.size:=by have:=Z.size;omega
 have I:=fZ hH;clear Z J eO hA nL hH bN
 cases lH with
 | false=>
  have V:QP (nE t st=(false,X)):=aO.o;go_wp2;go_ret;rw[V.o];exact⟨rfl,_,_,_,I.o,hI.o⟩
 | true=>
 have V:QP (nE t st=(true,FU (f,n5,n3) X)):=aO.o;have sW:X.aX.length<=100000:=by rw[hN.o];exact nN.o
 clear aO;have c2:=I.o.c2;have f2:=I.o.fz 2;have d0:=bC.o.c0;have d1:=bC.o.c1;have d2:=bC.o.c2;have d3:=bC.o.c3;go_wp2_with fail;have sR:rb<w5.heap.size:=by omega
 have iN:aH<=w5.heap.size:=I.o.hbt;have bK:some rb≠Y.ownBlock:=λ e=>by have:=(I.o.rr.lt rb e.symm).1;have:=I.o.hb;omega
 go_region_law ((refine qJ w5.drew rfl (.tmp 43) (.tmp 48) 40 rfl aH 119 (.agg #[.bool false,.bool false,.bool false,.bool false,.int .i64 0,.int .i64 0]) 6 24 underlying40 fD rfl (by decide) (by decide) Y X.aX.length (B7 X.aX) [.bool (f 0),.bool (f 1),.bool (f 2),.bool (f 3),.int .i64 n5,.int .i64 n3] _ (by simp[Act.eval]) I.o.rr _ rfl (by simp[Act.eval]) rfl (by simp[LZ]) (by omega) iN ?_;intro g4 cap4 w6 eM F hT hF;have m3:=((gH F (k:=rb) (by show rb<w5.heap.size;omega) bK).1 2).trans c2;have A1:=((gH F (k:=rb) (by show rb<w5.heap.size;omega) bK).2 2).trans f2;have hP:=fZ (I.o.drew.moreR (x:=(f,n5,n3)) eM F hT hF)))
 all_goals
  go_wp2;go_ret;rw[V.o];exact⟨rfl,_,_,_,hP.o.1.raise,hI.o.trans hP.o.2.of_drew⟩
end Go.Proofs.YtgjgjgihceijnaaGreat
namespace Go.Stn
variable {n k:Nat}{l:List Int}{x a fr dst:Int}
theorem Gr.same{t:tB}{a b:gS}(h:kL a b)(o:a.at_<=b.at_)(C:b.at_<=t.size):Gr t a b:=(Lz h o C).gr
theorem Gr.step{t:tB}{a:gS}(h:a.at_<t.size):Gr t a (iO a):=Gr.same (kL.adv a) (by rw[iG];omega) (by rw[iG];omega)
def LB(t:tB)(a b:gS):Prop:=Gr t a b/\b.aX.length+a.at_<=a.aX.length+b.at_
theorem Qz{t:tB}{f:Nat->Bool}{root:Int}{st:gS}(h:st.at_<=t.size):Gr t st (F8 t f root st).2/\(F8 t f root st).2.aX.length<=st.aX.length+1:=by
 have o:=Pd h;have C:=Go.Proofs.YtgjgjgihceijnaaGreat.Q6 t st;have D:=Gr.same C o.1 o.2;have e:(jQ t st).2.2.aX.length=st.aX.length:=by rw[C.1]
 unfold F8;split
 ·exact⟨D,by simp only;omega⟩
 ·refine⟨D,?_⟩;simp only[FU,LO,LQ];omega
theorem Rq{t:tB}{f:Nat->Bool}{st:gS}(h:st.at_<=t.size):Gr t st (F1 t f st).2/\((F1 t f st).2.aX.length<=st.aX.length+1):=by
 have C:=Bp t (t.size+1) st h;have J:=Go.Proofs.YtgjgjgihceijnaaGreat.Ae t (t.size+1) st;have e:(lI t (t.size+1) st).2.2.aX.length=st.aX.length:=by rw[J]
 unfold F1;split
 ·exact⟨C,by simp only;omega⟩
 ·split
  ·exact⟨C,by simp only;omega⟩
  ·rename_i F;have o:=iV (by omega) (show gG t 32 (lI t (t.size+1) st).2.2=true by simpa using F);have D:=Qz (t:=t) (f:=f) (root:=(lI t (t.size+1) st).1) (st:=iO (lI t (t.size+1) st).2.2) (by rw[iG];omega);refine⟨(C.trans (Gr.step o)).trans D.1,?_⟩;have I:=D.2;have Q:(iO (lI t (t.size+1) st).2.2).aX=(lI t (t.size+1) st).2.2.aX:=rfl;rw[Q]at I;omega
theorem S0{t:tB}{st:gS}(h:st.at_<=t.size):LB t st (nE t st).2:=by
 have o:=Bf h;have D:=Gr.same o.1 o.2.1 o.2.2;have e:(iU t st).2.2.aX.length=st.aX.length:=by rw[o.1.1]
 unfold nE;split
 ·exact⟨D,by simp only;omega⟩
 ·split
  ·exact⟨D,by simp only;omega⟩
  ·rename_i J;have C:=iV (by omega) (show gG t 32 (iU t st).2.2=true by simpa using J);have F:=Rq (t:=t) (f:=(iU t st).1) (st:=iO (iU t st).2.2) (by rw[iG];omega);refine⟨(D.trans (Gr.step C)).trans F.1,?_⟩;have Q:=F.2;have U:=F.1.1;have I:(iO (iU t st).2.2).aX=(iU t st).2.2.aX:=rfl;rw[I]at Q;rw[iG]at U;omega
def lP(t:tB):Nat->Bool->gS->Bool×gS
 | 0,_,st=>(false,st)
 | n+1,ok,st=>if ok=false then(false,st)else if gG t 10 st=false then(true,st)else lP t n (nE t (iO st)).1 (nE t (iO st)).2
theorem uW(t:tB)(n:Nat)(st:gS):lP t n false st=(false,st):=by cases n<;>rfl
theorem B0{t:tB}{st:gS}(h:gG t 10 st=false):lP t (n+1) true st=(true,st):=by rw[lP,aA (by decide),aB h]
theorem zW{t:tB}{st:gS}(h:gG t 10 st=true):lP t (n+1) true st=lP t n (nE t (iO st)).1 (nE t (iO st)).2:=by rw[lP,aA (by decide),aA (by rw[h];decide)]
def mX(t:tB)(st:gS):Bool×gS:=lP t (t.size+1) (nE t st).1 (nE t st).2
def sQ(t:tB)(x:Bool×gS):Bool:=x.1&&(decide (x.2.at_=t.size)&&decide (x.2.aX.length<=8))
def jX:gS:= {at_:=0,aX:= [],aV:= [],aW:= []}
def iB(t:tB):gS:=(mX t jX).2
def kC(t:tB):Int:=
 if 120<t.size then 1 else if sQ t (mX t jX)=false then 2 else if 10<(mX t jX).2.aW.length then 3 else 0
def sK(k:Nat):Int:=((2 ^ k:Nat):Int)
def An(a b:Int):Int:=bits .or .i64 a b
def nS(a b:Int):Int:=bits .and .i64 a b
def sG(p:Int×Int×Bool):tV:= .agg #[.int .i64 p.1,.int .i64 p.2.1,.bool p.2.2]
def zE(l r:Int×Int×Bool):Int×Int×Bool:=
 (if l.2.2=true then An l.1 r.1 else l.1,if r.2.2=true then An r.2.1 l.2.1 else r.2.1,l.2.2&&r.2.2)
def jT:List Int->Int->Nat
 | [],_=>0
 | a::r,x=>if a=x then 0 else jT r x+1
theorem x7(h:l[k]?=some x):jT (l.drop k) x=0:=by
 have e:l.drop k=x::l.drop (k+1):=by
  obtain⟨C,o⟩:=ML.1 h;rw[MY C,o]
 rw[e,jT,aB rfl]
theorem AP(h:l[k]?=some a)(o:a≠x):jT (l.drop k) x=jT (l.drop (k+1)) x+1:=by
 have e:l.drop k=a::l.drop (k+1):=by
  obtain⟨C,D⟩:=ML.1 h;rw[MY C,D]
 rw[e,jT,aA o]
structure Df(w:tW)(v:tV)(l:List Int):Prop where
 sh:(v=.slice none 0 0/\l=[])\/∃g aJ,v=.slice (some ⟨g,0,none⟩) l.length aJ/\l.length<=aJ/\aJ<=QW/\∀k x,l[k]?=some x->w.cell? ⟨g,k,none⟩=some (.int .i64 x)
def J0(aG:Nat->Int)(pl:Int):Nat->Int
 | 0=>0
 | k+1=>if nS pl (sK k)=0 then J0 aG pl k else An (J0 aG pl k) (aG k)
def Ee(aG:Nat->Int)(pl:Int):Int:=J0 aG pl 10
def xN(aG:Nat->Int)(fr dst:Int)(k:Nat):Nat->Int:=λ i=>if i<k/\nS fr (sK i)≠0 then An (aG i) dst else aG i
def rP(aG:Nat->Int)(fr dst:Int):Nat->Int:=xN aG fr dst 10
theorem Qs(aG:Nat->Int)(fr dst:Int)(k:Nat):xN aG fr dst k k=aG k:=by unfold xN;rw[aA (by omega)]
theorem AY{aG:Nat->Int}(h:nS fr (sK k)=0):xN aG fr dst (k+1)=xN aG fr dst k:=by
 funext i
 unfold xN;by_cases e:i=k
 ·subst e;rw[aA (by simp[h]),aA (by omega)]
 ·by_cases hi:i<k
  ·simp[hi,show i<k+1 by omega]
  ·simp[hi,show¬i<k+1 by omega]
theorem Yf{aG:Nat->Int}(h:nS fr (sK k)≠0)(i:Nat):xN aG fr dst (k+1) i=if i=k then An (aG k) dst else xN aG fr dst k i:=by
 unfold xN;by_cases e:i=k
 ·subst e;rw[aB ⟨by omega,h⟩,aB rfl]
 ·rw[aA e];by_cases hi:i<k
  ·simp[hi,show i<k+1 by omega]
  ·simp[hi,show¬i<k+1 by omega]
def oL(o left:Int)(l r:Int×Int×Bool)(aG:Nat->Int):(Int×Int×Bool)×(Nat->Int):=
 if o=0 then((sK left.toNat,sK left.toNat,false),aG)
 else if o=1 then(zE l r,rP aG l.2.1 r.1)
 else if o=2 then((An l.1 r.1,An l.2.1 r.2.1,l.2.2||r.2.2),aG)
 else if o=3 then((l.1,l.2.1,true),aG)
 else if o=4 then(l,rP aG l.2.1 l.1)
 else((l.1,l.2.1,true),rP aG l.2.1 l.1)
def L5:List Int->Int->Nat->Nat
 | [],_,_=>0
 | a::r,pl,k=>if nS pl a=0 then L5 r pl (k+1)else k+1
def yK(l:List Int)(pl:Int):Nat:=L5 l pl 0
theorem Xm(h:l[k]?=some a)(pl:Int)(m:Nat):L5 (l.drop k) pl m=if nS pl a=0 then L5 (l.drop (k+1)) pl (m+1)else m+1:=by
 have e:l.drop k=a::l.drop (k+1):=by
  obtain⟨o,C⟩:=ML.1 h;rw[MY o,C]
 rw[e,L5]
end Go.Stn
namespace Go.Proofs.YtgjgjgihceijnaaGreat
open Go.RowKit Go.Stn
variable {b B nb:Nat}{r:Option Nat}
theorem Vx(t:tB)(st:gS)(rb aH:Nat)(vr vn vp:tV)(w:tW)(ht:t.size<=120)(eR:st.at_<=t.size)(Z:zQ st)(hR:st.aX.length<=st.at_)(h:Rd w rb aH w.heap.size t st vr vn vp):
  QX LF 33 #[.pointer (some ⟨rb,0,none⟩)] w λ e w'=>e=.returned (.bool (sQ t (mX t st)))/\Gq w rb aH t vr vn vp (mX t st).2 w':=by
 have aR:=Kw t st rb aH vr vn vp w ht eR Z (by omega) h;have X:=S0 (t:=t) eR;have HA:QP (mX t st=lP t (t.size+1) (nE t st).1 (nE t st).2):=rfl;generalize nE t st=M at*;obtain⟨hL,aO⟩:=M;simp only at aR X HA;have cF:aO.at_<=t.size:=X.1.2.1;have eM:=fZ (Z.gr X.1);have cN:aO.aX.length<=aO.at_:=by have:=X.2;omega
 clear X Z;go_enter func33,ntmps33;go_wp2_with fail;refine aR.mono ?_;rintro e w1 ⟨rfl,hC,hG,hN,cP,bM⟩;have eT:=fZ cP;have eS:=fZ bM;clear bM aR cP;go_wp2_with fail
 go_loopg [3] (t.size+1) (λ gk y wr=>∃(ok:Bool)(s:gS)(Q D I:tV),y=.bool ok/\s.at_<=t.size/\s.aX.length<=s.at_/\zQ s/\(ok=true->t.size-s.at_<gk)/\mX t st=lP t gk ok s/\
  Rd wr rb aH wr.heap.size t s Q D I/\Fr w wr rb vr vn vp Q D I)
 case atStart=>exact⟨hL,aO,hC,hG,hN,rfl,cF,cN,eM.o,λ _=>by omega,HA.o,eT.o,eS.o⟩
 case round=>
  obtain⟨ok,s,Q,D,I,rfl,hB,hS,bN,bS,eN,hr,hf⟩:=hrel;have HL:=fZ eN;have HF:=fZ hf;have eX:=fZ bN;have aT:=fZ bS;clear eN hf bN bS eT eS eM HA
  cases ok with
  | false=>
   have HE:QP (mX t st=(false,s)):=HL.o.trans (uW t gk s);have HR:=fZ hr.drewN;clear hr;go_wp2_with fail;go_quiet (fail);go_wp2;go_ret;rw[HE.o];exact⟨rfl,_,_,_,(HR.o _).raise,HF.o.trans (Fr.of_grown (jZ (World.grownBy.refl _ _) _))⟩
  | true=>
   obtain⟨g',eL⟩:∃g',gk=g'+1:=⟨gk-1,by have:=aT.o rfl;omega⟩
   have aL:=fZ eL;clear eL;have hJ:QP (t.size-s.at_<gk):=aT.o rfl;clear aT;go_wp2_with fail;refine(kN t s 10 rb aH Q D I _ ht hB hr).mono ?_;rintro e w3 ⟨rfl,bC,J⟩;have Y:QP (Fr w w3 rb vr vn vp Q D I):=HF.o.trans (Fr.of_grown bC);clear hr HF bC
   cases hp:gG t 10 s with
   | false=>
    have HE:QP (mX t st=(true,s)):=by unfold QP;rw[HL.o,aL.o];exact B0 hp
    rw[mH hp]at J;have C:=fZ J;clear J;have c0:=C.o.c0;have c1:=C.o.c1;have c2:=C.o.c2;obtain⟨a2,hQ,bT⟩:=gA C.o.rr;rw[bT]at c2;clear bT;by_cases he:s.at_=t.size
    ·have hb:(((s.at_:Nat):Int)==((t.size:Nat):Int))=true:=by rw[he];exact beq_self_eq_true _
     by_cases hm:s.aX.length<=8
     ·have HB:QP (sQ t (true,s)=true):=by unfold QP sQ;simp[he,hm]
      have hF:((s.aX.length:Nat):Int)<=8:=by omega
      clear he hm;go_wp2_with fail;go_quiet (fail);go_wp2;go_ret;rw[HE.o,HB.o];exact⟨rfl,_,_,_,(C.o.drewN _).raise,Y.o.trans (Fr.of_grown (jZ (World.grownBy.refl _ _) _))⟩
     ·have HB:QP (sQ t (true,s)=false):=by unfold QP sQ;simp;intro _;omega
      have hF:decide (((s.aX.length:Nat):Int)<=8)=false:=by rw[aF];omega
      clear he hm;go_wp2_with fail;go_quiet (fail);go_wp2;go_ret;rw[HE.o,HB.o];exact⟨rfl,_,_,_,(C.o.drewN _).raise,Y.o.trans (Fr.of_grown (jZ (World.grownBy.refl _ _) _))⟩
    ·have hb:(((s.at_:Nat):Int)==((t.size:Nat):Int))=false:=aC.2 (by omega);have HB:QP (sQ t (true,s)=false):=by unfold QP sQ;simp[he]
     clear he;go_wp2_with fail;go_quiet (fail);go_wp2;go_ret;rw[HE.o,HB.o];exact⟨rfl,_,_,_,(C.o.drewN _).raise,Y.o.trans (Fr.of_grown (jZ (World.grownBy.refl _ _) _))⟩
   | true=>
    have bO:=iV (by omega) hp;rw[kP hp]at J;have V:mX t st=lP t g' (nE t (iO s)).1 (nE t (iO s)).2:=by rw[HL.o,aL.o];exact zW hp
    have aW:=Kw t (iO s) rb aH Q D I w3 ht (uT bO) eX.o.adv (by show s.aX.length<=100000;omega) J;have F:=S0 (t:=t) (uT bO);have HS:=fZ V;clear V;generalize nE t (iO s)=M at*;obtain⟨hD,U⟩:=M;simp only at aW HS F;have hT:s.at_+1<=U.at_:=by have:=F.1.1;rw[iG]at this;exact this
    have gL:U.at_<=t.size:=F.1.2.1;have eO:U.aX.length<=U.at_:=by have:=F.2;rw[iG]at this;have e:(iO s).aX=s.aX:=rfl;rw[e]at this;omega
    have hH:=fZ (eX.o.adv.gr F.1);clear F;go_wp2_with fail;refine aW.mono ?_;rintro e w4 ⟨rfl,hI,hM,hP,bK,hA⟩;have hK:=fZ (Y.o.trans hA);have hE:=fZ bK;clear hA aW J Y bK;go_wp2_with fail;go_roundg g'
    case measure=>have:=aL.o;omega
    case rel=>
     refine⟨hD,U,hI,hM,hP,rfl,gL,eO,hH.o,λ _=>?_,HS.o,hE.o,hK.o⟩;have a1:=hJ.o;have a2:=aL.o;omega
structure jV(w:tW)(b:Nat)(x y z:tV):Prop where
 c0:w.cell? ⟨b,0,none⟩=some x
 c1:w.cell? ⟨b,1,none⟩=some y
 c2:w.cell? ⟨b,2,none⟩=some z
 z:∀i,w.frozen? ⟨b,i,none⟩=false
theorem jV.block{w w':tW}{x y z:tV}(h:jV w b x y z)(o:w'.heap[b]?=w.heap[b]?):jV w' b x y z:=
 ⟨(LJ (w:=w) (a:=⟨b,0,none⟩) o).trans h.c0,(LJ (w:=w) (a:=⟨b,1,none⟩) o).trans h.c1,(LJ (w:=w) (a:=⟨b,2,none⟩) o).trans h.c2,λ i=>(NB (w:=w) (a:=⟨b,i,none⟩) o).trans (h.z i)⟩
theorem jV.new(w:tW)(b:Nat)(ty:TypeId)(x y z:tV)(o:b=w.heap.size):jV (w.alloc (.cells #[x,y,z] ty)) b x y z:=
 ⟨(LK _ _ b 0 o).trans rfl,(LK _ _ b 1 o).trans rfl,(LK _ _ b 2 o).trans rfl,λ i=>NF _ _ b i o⟩
theorem jV.alloc{w:tW}{x y z:tV}(h:jV w b x y z)(C:b<w.heap.size)(o:Obj):jV (w.alloc o) b x y z:=
 ⟨(MH o b 0 C).trans h.c0,(MH o b 1 C).trans h.c1,(MH o b 2 C).trans h.c2,λ i=>(OE o b i C).trans (h.z i)⟩
theorem jV.range{w:tW}{x y z:tV}(h:jV w b x y z):w.rangeAt b 0 [x,y,z]:=by
 intro j v o
 match j,o with
 | 0,o=>cases o;exact h.c0
 | 1,o=>cases o;exact h.c1
 | 2,o=>cases o;exact h.c2
theorem jV.there{w:tW}{x y z:tV}(h:jV w b x y z):w.there b 0 3:=by
 intro j o;rw[MI];refine⟨?_,h.z j⟩
 match j,o with
 | 0,_=>rw[h.c0];rfl
 | 1,_=>rw[h.c1];rfl
 | 2,_=>rw[h.c2];rfl
theorem jV.stored{w:tW}{x y z:tV}(h:jV w b x y z)(D o C:tV):jV (((w.setCell ⟨b,0,none⟩ D).setCell ⟨b,1,none⟩ o).setCell ⟨b,2,none⟩ C) b D o C:=by
 have F:(w.setCells b 0 [D,o,C]).rangeAt b 0 [D,o,C]:=LD w b 0 [D,o,C] h.there;exact⟨F 0 _ rfl,F 1 _ rfl,F 2 _ rfl,λ i=>by rw[LU,LU,LU];exact h.z i⟩
theorem xA{a w:tW}(h:Below B a w)(o:B<=b)(x y z:tV):Below B a (((w.setCell ⟨b,0,none⟩ x).setCell ⟨b,1,none⟩ y).setCell ⟨b,2,none⟩ z):=
 ((h.setCell (p:=⟨b,0,none⟩) o x).setCell (p:=⟨b,1,none⟩) o y).setCell (p:=⟨b,2,none⟩) o z
theorem T4{w:tW}{aH:Nat}{e:TypeId}{size:Nat}{v:tV}{m:Nat}{xs:List tV}(C:w.ownsRow aH e size v m xs)(o:b<aH)(x y z:tV):
  (((w.setCell ⟨b,0,none⟩ x).setCell ⟨b,1,none⟩ y).setCell ⟨b,2,none⟩ z).ownsRow aH e size v m xs:=
 QN (QN (QN C o _) o _) o _
structure JN(w:tW)(aH:Nat)(st:gS)(vr vn vp:tV):Prop where
 rr:w.ownsRow aH 119 6 vr st.aX.length (B7 st.aX)
 rn:w.ownsRow aH 162 3 vn st.aV.length (xF st.aV)
 rp:w.ownsRow aH 158 256 vp st.aW.length (Z3 st.aW)
 lr:∀k,vr.ownBlock=some k->k<w.heap.size
 ln:∀k,vn.ownBlock=some k->k<w.heap.size
 lp:∀k,vp.ownBlock=some k->k<w.heap.size
theorem bY:(Tryz.prog.info? 44).map (·.size)=some 3:=by kernel_rfl
theorem x9(t:tB)(w:tW)(x y z:tV)(o C:TypeId):Rd ((w.alloc (.cells #[x,y,z] o)).alloc (.cells #[.string t,.int .i64 0,.slice none 0 0,.slice none 0 0,.slice none 0 0] C)) (w.heap.size+1) (w.heap.size+2) ((w.alloc (.cells #[x,y,z] o)).alloc (.cells #[.string t,.int .i64 0,.slice none 0 0,.slice none 0 0,.slice none 0 0] C)).heap.size t jX (.slice none 0 0) (.slice none 0 0) (.slice none 0 0):=by
 have D:w.heap.size+1=(w.alloc (.cells #[x,y,z] o)).heap.size:=by simp
 have F:qX (.slice none 0 0) (.slice none 0 0):=λ k h _=>by simp[LN]at h
 have no:∀k,(LG none 0 0).ownBlock=some k->k<((w.alloc (.cells #[x,y,z] o)).alloc (.cells #[.string t,.int .i64 0,.slice none 0 0,.slice none 0 0,.slice none 0 0] C)).heap.size:=λ k h=>by simp[LN]at h
 refine⟨(LK _ _ _ 0 D).trans rfl,(LK _ _ _ 1 D).trans rfl,(LK _ _ _ 2 D).trans rfl,(LK _ _ _ 3 D).trans rfl,(LK _ _ _ 4 D).trans rfl,λ i=>NF _ _ _ i D,⟨rfl,.inl ⟨rfl,rfl⟩⟩,⟨rfl,.inl ⟨rfl,rfl⟩⟩,⟨rfl,.inl ⟨rfl,rfl⟩⟩,by omega,?_,lR,no,no,no,F,F,F⟩;simp
theorem Om(t:tB)(w:tW):
  QX LF 16 #[.string t] w λ e w'=>Bl w w'/\∃vr vn vp,e=.returned (.tuple #[.agg #[vr,vn,vp],.int .i64 (kC t)])/\
   (kC t=0->JN w' (w.heap.size+2) (iB t) vr vn vp)/\(kC t≠0->vr=.slice none 0 0/\vn=.slice none 0 0/\vp=.slice none 0 0):=by
 by_cases h1:t.size<=120
 ·have X:=fZ (x9 t w (.slice none 0 0) (.slice none 0 0) (.slice none 0 0) 44 102);have I:=fZ ((jV.new w w.heap.size 44 (.slice none 0 0) (.slice none 0 0) (.slice none 0 0) rfl).alloc (by simp) (.cells #[.string t,.int .i64 0,.slice none 0 0,.slice none 0 0,.slice none 0 0] 102));have D:=fZ (((MN w.heap.size w).alloc lR (.cells #[.slice none 0 0,.slice none 0 0,.slice none 0 0] 44)).alloc (by simp) (.cells #[.string t,.int .i64 0,.slice none 0 0,.slice none 0 0,.slice none 0 0] 102));have V:((w.alloc (.cells #[.slice none 0 0,.slice none 0 0,.slice none 0 0] 44)).alloc (.cells #[.string t,.int .i64 0,.slice none 0 0,.slice none 0 0,.slice none 0 0] 102)).heap.size=w.heap.size+2:=by simp
  have Z:QP (kC t=if sQ t (mX t jX)=false then 2 else if 10<(mX t jX).2.aW.length then 3 else 0):=by
   unfold QP kC;rw[aA (by omega)]
  go_enter func16,ntmps16;go_wp2_with fail;generalize (w.alloc (.cells #[.slice none 0 0,.slice none 0 0,.slice none 0 0] 44)).alloc (.cells #[.string t,.int .i64 0,.slice none 0 0,.slice none 0 0,.slice none 0 0] 102)=W0 at*;refine(Vx t jX (w.heap.size+1) (w.heap.size+2) _ _ _ W0 h1 zL ⟨zL,zL⟩ zL X.o).mono ?_;rintro e w1 ⟨rfl,vr,vn,vp,hr,Q⟩;have Y:¬DA (w.heap.size+1) (.slice none 0 0) (.slice none 0 0) (.slice none 0 0) w.heap.size:=by
   rintro(e|e|e|e)
   ·omega
   ·simp[LN]at e
   ·simp[LN]at e
   ·simp[LN]at e
  have C:=fZ (I.o.block (Q.block w.heap.size (by omega) Y));have J:QP (Bl w w1):=by
   refine⟨Q.os.trans D.o.os,Q.tape.trans D.o.tape,Q.output.trans D.o.output,LS D.o.size Q.size,λ k hk=>(Q.block k (by omega) ?_).trans (D.o.block k hk)⟩;rintro(e|e|e|e)
   ·omega
   ·simp[LN]at e
   ·simp[LN]at e
   ·simp[LN]at e
  have HP:QP (iB t=(mX t jX).2):=rfl;clear X I D V Q Y;generalize sQ t (mX t jX)=ok at*;generalize mX t jX=M at*;obtain⟨aL,s⟩:=M;simp only at Z hr HP;have c0:=C.o.c0;have c1:=C.o.c1;have c2:=C.o.c2;have z0:=C.o.z 0;have z1:=C.o.z 1;have z2:=C.o.z 2
  cases ok with
  | false=>
   have U:QP (kC t=2):=Z.o;go_wp2;refine jH NS w.heap.size 0 [.slice none 0 0,.slice none 0 0,.slice none 0 0] _ (.int .i64 2) rfl rfl (C.o.stored _ _ _).range NG rfl bY rfl ?_;rw[U.o];exact⟨xA J.o lR _ _ _,_,_,_,rfl,λ h=>by simp at h,λ _=>⟨rfl,rfl,rfl⟩⟩
  | true=>
   have F:=fZ hr;clear hr;have d2:=F.o.c2;have d3:=F.o.c3;have d4:=F.o.c4;obtain⟨ar,cr,er⟩:=gA F.o.rr;obtain⟨an,cn,en⟩:=gA F.o.rn;obtain⟨ap,cp,ep⟩:=gA F.o.rp;subst er en ep;by_cases hp:10<s.aW.length
   ·have U:QP (kC t=3):=Z.o.trans (aB hp);go_wp2;refine jH NS w.heap.size 0 [.slice none 0 0,.slice none 0 0,.slice none 0 0] _ (.int .i64 3) rfl rfl (C.o.stored _ _ _).range NG rfl bY rfl ?_;rw[U.o];exact⟨xA J.o lR _ _ _,_,_,_,rfl,λ h=>by simp at h,λ _=>⟨rfl,rfl,rfl⟩⟩
   ·have U:QP (kC t=0):=Z.o.trans (aA hp);go_wp2;refine jH NS w.heap.size 0 [.slice ar s.aX.length cr,.slice an s.aV.length cn,.slice ap s.aW.length cp] _ (.int .i64 0) rfl rfl (C.o.stored _ _ _).range NG rfl bY rfl ?_;rw[U.o];refine⟨xA J.o lR _ _ _,_,_,_,rfl,λ _=>?_,λ h=>absurd rfl h⟩;rw[HP.o];refine⟨T4 F.o.rr (by omega) _ _ _,T4 F.o.rn (by omega) _ _ _,T4 F.o.rp (by omega) _ _ _,?_,?_,?_⟩
    ·rw[MA,MA,MA];exact F.o.lr
    ·rw[MA,MA,MA];exact F.o.ln
    ·rw[MA,MA,MA];exact F.o.lp
 ·have U:QP (kC t=1):=by unfold QP kC;rw[aB (by omega)]
  have I:=fZ (jV.new w w.heap.size 44 (.slice none 0 0) (.slice none 0 0) (.slice none 0 0) rfl);have D:=fZ ((MN w.heap.size w).alloc lR (.cells #[.slice none 0 0,.slice none 0 0,.slice none 0 0] 44));go_enter func16,ntmps16;go_wp2;refine jH NS w.heap.size 0 [.slice none 0 0,.slice none 0 0,.slice none 0 0] _ (.int .i64 1) rfl rfl I.o.range NG rfl bY rfl ?_;rw[U.o];exact⟨D.o,_,_,_,rfl,λ h=>by simp at h,λ _=>⟨rfl,rfl,rfl⟩⟩
theorem v6(k:Nat)(o:k<=10):wrap64 (2 ^ k)=((2 ^ k:Nat):Int):=by
 have:∀j:Fin 11,wrap64 (2 ^ j.val)=((2 ^ j.val:Nat):Int):=by decide+kernel
 exact this ⟨k,by omega⟩
theorem xI(k:Nat)(o:k<=10)(w:tW):
  QX LF 67 #[.int .i64 (k:Int)] w λ e w'=>w'=w/\e=.returned (.int .i64 (sK k)):=by
 go_enter func67,ntmps67;go_wp2;go_ret;exact⟨rfl,by rw[v6 k o];rfl⟩
theorem bQ:(Tryz.prog.info? 164).map (·.size)=some 3:=by kernel_rfl
theorem jV.new3(w:tW)(D C o:Obj)(ty:TypeId)(x y z:tV):jV ((((w.alloc D).alloc C).alloc (.cells #[x,y,z] ty)).alloc o) (w.heap.size+1+1) x y z:=
 (jV.new _ _ ty x y z (by simp)).alloc (by simp) o
theorem tD(w:tW)(F o C D:Obj):Bl w ((((w.alloc F).alloc o).alloc C).alloc D):=
 (((bR.alloc lR F).alloc (by simp) o).alloc (by simp;omega) C).alloc (by simp;omega) D
theorem Nb(a b c d:Int)(x y:Bool)(w:tW):
  QX LF 99 #[sG (a,b,x),sG (c,d,y)] w λ e w'=>Bl w w'/\e=.returned (sG (zE (a,b,x) (c,d,y))):=by
 unfold sG
 cases x<;>cases y
 ·go_enter func99,OM;go_wp2_with fail;exact lE NT (w.heap.size+1+1) 0 _ _ rfl (jV.new3 _ _ _ _ _ _ _ _).range ME rfl bQ rfl ⟨tD _ _ _ _ _,rfl⟩
 ·go_enter func99,OM;go_wp2_with fail;exact lE NT (w.heap.size+1+1) 0 _ _ rfl (jV.new3 _ _ _ _ _ _ _ _).range ME rfl bQ rfl ⟨tD _ _ _ _ _,rfl⟩
 ·go_enter func99,OM;go_wp2_with fail;exact lE NT (w.heap.size+1+1) 0 _ _ rfl (jV.new3 _ _ _ _ _ _ _ _).range ME rfl bQ rfl ⟨tD _ _ _ _ _,rfl⟩
 ·go_enter func99,OM;go_wp2_with fail;exact lE NT (w.heap.size+1+1) 0 _ _ rfl (jV.new3 _ _ _ _ _ _ _ _).range ME rfl bQ rfl ⟨tD _ _ _ _ _,rfl⟩
theorem Uy(l:List Int)(v:tV)(x:Int)(w:tW)(hl:l.length<=1000000)(V:Df w v l):
  QX LF 35 #[v,.int .i64 x] w λ e w'=>w'=w/\e=.returned (.int .i64 (jT l x:Int)):=by
 rcases V.sh with⟨rfl,rfl⟩|⟨g,aJ,rfl,h1,h2,C⟩
 ·go_enter func35,ntmps35;go_wp2_with fail
  go_loop [9] (λ i=>i=.int .i64 0) (λ _=>0)
  case atStart=>rfl
  case round=>
   subst hrel;go_wp2;go_ret;exact⟨rfl,rfl⟩
 ·have Y:=fZ C;clear C V;go_enter func35,ntmps35;go_wp2_with fail
  go_loop [9] (λ i=>∃k:Nat,k<=l.length/\i=.int .i64 (k:Int)/\k+jT (l.drop k) x=jT l x) (λ i=>l.length-(QO i).toNat)
  case atStart=>exact⟨0,zL,rfl,by simp⟩
  case round=>
   obtain⟨k,hk,rfl,D⟩:=hrel;have J:=fZ D;clear D;by_cases Q:k<l.length
   ·obtain⟨a,I⟩:∃u,l[k]?=some u:=⟨_,LM Q⟩
    have k0:=Y.o k _ I;by_cases F:a=x
    ·have U:QP (jT l x=k):=by unfold QP;rw[<-J.o,x7 (by rw[I,F])];rfl
     have Z:(a==x)=true:=beq_iff_eq.2 F;clear I F;go_wp2;go_ret;exact⟨rfl,by rw[U.o];rfl⟩
    ·have X:QP (k+1+jT (l.drop (k+1)) x=jT l x):=by unfold QP;rw[<-J.o,AP I F];omega
     have Z:(a==x)=false:=aC.2 F;clear I F;go_wp2;go_round
     case rel=>exact⟨k+1,by omega,by simp,X.o⟩
     case measure=>simp[QO];omega
   ·have e:k=l.length:=by omega
    have U:QP (jT l x=l.length):=by unfold QP;rw[<-J.o,e,OY];rfl
    clear J;subst e;go_wp2;go_ret;exact⟨rfl,by rw[U.o];rfl⟩
structure kD(w:tW)(nb:Nat)(vf vl:tV)(aG:Nat->Int):Prop where
 c0:w.cell? ⟨nb,0,none⟩=some vf
 c1:w.cell? ⟨nb,1,none⟩=some vl
 nx:∀k,k<10->w.cell? ⟨nb,2+k,none⟩=some (.int .i64 (aG k))
 fz:∀i,w.frozen? ⟨nb,i,none⟩=false
theorem Mz(aG:Nat->Int)(pl:Int)(nb:Nat)(vf vl:tV)(w:tW)(h:kD w nb vf vl aG):
  QX LF 70 #[.pointer (some ⟨nb,0,none⟩),.int .i64 pl] w λ e w'=>w'=w/\e=.returned (.int .i64 (Ee aG pl)):=by
 have Q:=fZ h.nx;clear h;go_enter func70,ntmps70;go_wp2_with fail
 go_loop [5,7] (λ x i=>∃k:Nat,k<=10/\i=.int .i64 (k:Int)/\x=.int .i64 (J0 aG pl k)) (λ _ i=>10-(QO i).toNat)
 case atStart=>exact⟨0,zL,rfl,rfl⟩
 case round=>
  obtain⟨k,V,rfl,rfl⟩:=hrel;by_cases I:k<10
  ·have D:QP (J0 aG pl (k+1)=if nS pl (sK k)=0 then J0 aG pl k else An (J0 aG pl k) (aG k)):=rfl;have X:=Q.o k I;have U:(k:Int)<10:=by omega
   generalize J0 aG pl k=aS at*;go_wp2_with fail;refine(xI k (by omega) _).mono ?_;rintro e w1 ⟨rfl,rfl⟩;by_cases C:nS pl (sK k)=0
   ·have J:QP (J0 aG pl (k+1)=aS):=D.o.trans (aB C);have F:(bits .and .i64 pl (sK k) !=0)=false:=by rw[show bits .and .i64 pl (sK k)=0 from C];rfl
    clear C D;go_wp2;go_round
    case rel=>exact⟨k+1,by omega,by simp,by rw[J.o]⟩
    case measure=>simp[QO];omega
   ·have J:QP (J0 aG pl (k+1)=An aS (aG k)):=D.o.trans (aA C);have F:(bits .and .i64 pl (sK k) !=0)=true:=aD.2 C;clear C D;go_wp2;go_round
    case rel=>exact⟨k+1,by omega,by simp,by rw[J.o];rfl⟩
    case measure=>simp[QO];omega
  ·have e:k=10:=by omega
   subst e;go_wp2;go_ret;exact⟨rfl,rfl⟩
theorem kD.set{w:tW}{vf vl:tV}{aG next':Nat->Int}(h:kD w nb vf vl aG)(k:Nat)(o:k<10)(v:Int)(hn:∀i,next' i=if i=k then v else aG i):kD (w.setCell ⟨nb,2+k,none⟩ (.int .i64 v)) nb vf vl next':=by
 refine⟨?_,?_,λ i hi=>?_,λ i=>by rw[LU];exact h.fz i⟩
 ·rw[LP (h:=by intro e;injection e;omega)];exact h.c0
 ·rw[LP (h:=by intro e;injection e;omega)];exact h.c1
 ·rw[hn i];by_cases e:i=k
  ·subst e;rw[aB rfl,NW _ _ _ (by rw[h.nx i hi];rfl)]
  ·rw[aA e,LP (h:=by intro e;injection e;omega)];exact h.nx i hi
theorem kD.drew{w:tW}{vf vl:tV}{aG:Nat->Int}(h:kD w nb vf vl aG):kD w.drew nb vf vl aG:=⟨h.c0,h.c1,h.nx,h.fz⟩
theorem Lv{a w:tW}(h:a.grownBy w r):a.grownBy w.drew r:=⟨h.os,h.tape,h.output,h.size,h.block⟩
theorem V0(aG:Nat->Int)(fr dst:Int)(nb:Nat)(vf vl:tV)(w:tW)(h:kD w nb vf vl aG):
  QX LF 98 #[.pointer (some ⟨nb,0,none⟩),.int .i64 fr,.int .i64 dst] w λ e w'=>w.grownBy w' (some nb)/\kD w' nb vf vl (rP aG fr dst)/\e=.returned (.tuple #[]):=by
 have V:=fZ h;clear h;go_enter func98,ntmps98;go_wp2_with fail
 go_loopw [7] (λ i wr=>∃k:Nat,k<=10/\i=.int .i64 (k:Int)/\w.grownBy wr (some nb)/\kD wr nb vf vl (xN aG fr dst k)) (λ i _=>10-(QO i).toNat)
 case atStart=>exact⟨0,zL,rfl,World.grownBy.refl _ _,by
  have e:xN aG fr dst 0=aG:=by(funext i;unfold xN;simp)
  rw[e];exact V.o⟩
 case round=>
  obtain⟨k,hk,rfl,hg,U⟩:=hrel;have J:=fZ hg;have F:=fZ U;clear hg U V;by_cases D:k<10
  ·have Y:=F.o.nx k D;rw[Qs]at Y;have Z:=F.o.fz (2+k);have X:(k:Int)<10:=by omega
   go_wp2_with fail;refine(xI k (by omega) _).mono ?_;rintro e w1 ⟨rfl,rfl⟩;by_cases C:nS fr (sK k)=0
   ·have Q:=fZ (AY (aG:=aG) (dst:=dst) C);have I:(bits .and .i64 fr (sK k) !=0)=false:=by rw[show bits .and .i64 fr (sK k)=0 from C];rfl
    clear C;go_wp2;go_roundw
    case rel=>exact⟨k+1,by omega,by simp,J.o,by rw[Q.o];exact F.o⟩
    case measure=>simp[QO];omega
   ·have Q:=fZ (Yf (aG:=aG) (dst:=dst) C);have I:(bits .and .i64 fr (sK k) !=0)=true:=aD.2 C;clear C;go_wp2
    go_region
    all_goals
     go_wp2;go_roundw
     case rel=>exact⟨k+1,by omega,by simp,lO (Lv J.o) _ _,F.o.drew.set k D _ Q.o⟩
     case measure=>simp[QO];omega
  ·have e:k=10:=by omega
   subst e;go_wp2
   go_end0
   exact⟨J.o,F.o,rfl⟩
theorem kD.below{w w':tW}{vf vl:tV}{aG:Nat->Int}(h:kD w nb vf vl aG)(o:Below B w w')(C:nb<B):kD w' nb vf vl aG:=
 ⟨(o.cell (p:=⟨nb,0,none⟩) C).trans h.c0,(o.cell (p:=⟨nb,1,none⟩) C).trans h.c1,λ k D=>(o.cell (p:=⟨nb,2+k,none⟩) C).trans (h.nx k D),λ i=>(o.frozen (p:=⟨nb,i,none⟩) C).trans (h.fz i)⟩
theorem Fp(w:tW)(a b c d e f g h i:tV)(t1 t2:TypeId)(x y z:tV):
  jV ((((w.alloc (.cells #[a,b,c] t1)).alloc (.cells #[d,e,f] t2)).alloc (.cells #[g,h,i] t2)).alloc (.cells #[x,y,z] t2)) (w.heap.size+1) d e f/\
  jV ((((w.alloc (.cells #[a,b,c] t1)).alloc (.cells #[d,e,f] t2)).alloc (.cells #[g,h,i] t2)).alloc (.cells #[x,y,z] t2)) (w.heap.size+1+1) g h i/\
  jV ((((w.alloc (.cells #[a,b,c] t1)).alloc (.cells #[d,e,f] t2)).alloc (.cells #[g,h,i] t2)).alloc (.cells #[x,y,z] t2)) (w.heap.size+1+1+1) x y z:=
 ⟨((jV.new _ _ _ _ _ _ (by simp)).alloc (by simp) _).alloc (by simp) _,(jV.new _ _ _ _ _ _ (by simp)).alloc (by simp) _,jV.new _ _ _ _ _ _ (by simp)⟩
def tI(w:tW)(nb:Nat)(vf vl:tV)(x:(Int×Int×Bool)×(Nat->Int))(e:Ending)(w':tW):Prop:=
 w.grownBy w' (some nb)/\kD w' nb vf vl x.2/\e=.returned (sG x.1)
theorem D3{a w:tW}(h:a.grownBy w r){b:Nat}(o:a.heap.size<=b)(x y z:tV):a.grownBy (((w.setCell ⟨b,0,none⟩ x).setCell ⟨b,1,none⟩ y).setCell ⟨b,2,none⟩ z) r:=
 pI (pI (pI h o 0 x) o 1 y) o 2 z
theorem kD.three{w:tW}{vf vl:tV}{aG:Nat->Int}(h:kD w nb vf vl aG)(o:nb<b)(x y z:tV):kD (((w.setCell ⟨b,0,none⟩ x).setCell ⟨b,1,none⟩ y).setCell ⟨b,2,none⟩ z) nb vf vl aG:=
 h.below (xA (MN b w) lR x y z) o
theorem jV.other1{w:tW}{x y z:tV}(h:jV w b x y z)(c i:Nat)(v:tV)(o:b≠c):jV (w.setCell ⟨c,i,none⟩ v) b x y z:=
 h.block (MO w ⟨c,i,none⟩ v b o)
theorem EK(aG:Nat->Int)(p:Nat)(X:p<10)(z:Int)(l r:Int×Int×Bool)(nb:Nat)(vf vl:tV)(w:tW)(C:nb<w.heap.size)(h:kD w nb vf vl aG):
  QX LF 68 #[.pointer (some ⟨nb,0,none⟩),.agg #[.int .i64 0,.int .i64 (p:Int),.int .i64 z],sG l,sG r] w (tI w nb vf vl (oL 0 p l r aG)):=by
 obtain⟨I,J,U⟩:=l;obtain⟨F,D,V⟩:=r;have Q:=fZ h;clear h;show QX _ _ #[_,_,.agg #[.int .i64 I,.int .i64 J,.bool U],.agg #[.int .i64 F,.int .i64 D,.bool V]] _ _;go_enter NM,NH;go_wp2_with fail;refine(xI p (by omega) _).mono ?_;rintro e w1 ⟨rfl,rfl⟩;go_wp2_with fail;exact lE MW (w.heap.size+1+1+1) 0 _ _ rfl (Fp _ _ _ _ _ _ _ _ _ _ _ _ _ _ _).2.2.range ME rfl bQ rfl
  ⟨iQ (tD _ _ _ _ _) lR _,Q.o.below (tD _ _ _ _ _) C,rfl⟩
theorem EG(aG:Nat->Int)(y z:Int)(l r:Int×Int×Bool)(nb:Nat)(vf vl:tV)(w:tW)(C:nb<w.heap.size)(h:kD w nb vf vl aG):
  QX LF 68 #[.pointer (some ⟨nb,0,none⟩),.agg #[.int .i64 2,.int .i64 y,.int .i64 z],sG l,sG r] w (tI w nb vf vl (oL 2 y l r aG)):=by
 obtain⟨Q,F,D⟩:=l;obtain⟨I,U,V⟩:=r;have J:=fZ h;clear h;show QX _ _ #[_,_,.agg #[.int .i64 Q,.int .i64 F,.bool D],.agg #[.int .i64 I,.int .i64 U,.bool V]] _ _
 cases D
 all_goals
  go_enter NM,NH;go_wp2_with fail;exact lE MW (w.heap.size+1+1+1) 0 _ _ rfl (Fp _ _ _ _ _ _ _ _ _ _ _ _ _ _ _).2.2.range ME rfl bQ rfl
   ⟨iQ (tD _ _ _ _ _) lR _,J.o.below (tD _ _ _ _ _) C,rfl⟩
theorem FF(aG:Nat->Int)(y z:Int)(l r:Int×Int×Bool)(nb:Nat)(vf vl:tV)(w:tW)(C:nb<w.heap.size)(h:kD w nb vf vl aG):
  QX LF 68 #[.pointer (some ⟨nb,0,none⟩),.agg #[.int .i64 3,.int .i64 y,.int .i64 z],sG l,sG r] w (tI w nb vf vl (oL 3 y l r aG)):=by
 obtain⟨J,D,Q⟩:=l;obtain⟨F,U,V⟩:=r;have I:=fZ h;clear h;show QX _ _ #[_,_,.agg #[.int .i64 J,.int .i64 D,.bool Q],.agg #[.int .i64 F,.int .i64 U,.bool V]] _ _;go_enter NM,NH;go_wp2_with fail;exact lE MW (w.heap.size+1+1+1) 0 _ _ rfl (Fp _ _ _ _ _ _ _ _ _ _ _ _ _ _ _).2.2.range ME rfl bQ rfl
  ⟨iQ (tD _ _ _ _ _) lR _,I.o.below (tD _ _ _ _ _) C,rfl⟩
theorem DY(aG:Nat->Int)(y z:Int)(l r:Int×Int×Bool)(nb:Nat)(vf vl:tV)(w:tW)(aL:nb<w.heap.size)(h:kD w nb vf vl aG):
  QX LF 68 #[.pointer (some ⟨nb,0,none⟩),.agg #[.int .i64 4,.int .i64 y,.int .i64 z],sG l,sG r] w (tI w nb vf vl (oL 4 y l r aG)):=by
 obtain⟨D,F,Q⟩:=l;obtain⟨J,I,U⟩:=r;show QX _ _ #[_,_,.agg #[.int .i64 D,.int .i64 F,.bool Q],.agg #[.int .i64 J,.int .i64 I,.bool U]] _ _;have Z:=fZ (tD w (.cells #[.int .i64 4,.int .i64 y,.int .i64 z] 162) (.cells #[.int .i64 D,.int .i64 F,.bool Q] 164) (.cells #[.int .i64 J,.int .i64 I,.bool U] 164) (.cells #[.int .i64 0,.int .i64 0,.bool false] 164));have V:=fZ (Fp w (.int .i64 4) (.int .i64 y) (.int .i64 z) (.int .i64 D) (.int .i64 F) (.bool Q) (.int .i64 J) (.int .i64 I) (.bool U) 162 164 (.int .i64 0) (.int .i64 0) (.bool false));have Y:((((w.alloc (.cells #[.int .i64 4,.int .i64 y,.int .i64 z] 162)).alloc (.cells #[.int .i64 D,.int .i64 F,.bool Q] 164)).alloc (.cells #[.int .i64 J,.int .i64 I,.bool U] 164)).alloc (.cells #[.int .i64 0,.int .i64 0,.bool false] 164)).heap.size=w.heap.size+4:=by simp
 go_enter NM,NH;go_wp2_with fail;generalize (((w.alloc (.cells #[.int .i64 4,.int .i64 y,.int .i64 z] 162)).alloc (.cells #[.int .i64 D,.int .i64 F,.bool Q] 164)).alloc (.cells #[.int .i64 J,.int .i64 I,.bool U] 164)).alloc (.cells #[.int .i64 0,.int .i64 0,.bool false] 164)=W at*;refine(V0 aG F D nb vf vl W (h.below Z.o aL)).mono ?_;rintro e w1 ⟨hg,hn,rfl⟩;have X:=fZ (V.o.1.block (hg.block _ (by omega) (by intro e;injection e;omega)));have H2:=fZ (V.o.2.1.block (hg.block _ (by omega) (by intro e;injection e;omega)));have C:=fZ (V.o.2.2.block (hg.block _ (by omega) (by intro e;injection e;omega)));have HG:=fZ (gD (iQ Z.o lR (some nb)) hg);have HN:=fZ hn;have aO:w.heap.size+4<=w1.heap.size:=by have:=hg.size;omega
 clear hg hn h Z V Y;have a0:=X.o.c0;have a1:=X.o.c1;have a2:=X.o.c2;have b0:=C.o.c0;have b1:=C.o.c1;have b2:=C.o.c2;have z0:=C.o.z 0;have z1:=C.o.z 1;have z2:=C.o.z 2;go_wp2_with fail;exact lE MW (w.heap.size+1+1+1) 0 _ _ rfl (C.o.stored _ _ _).range ME rfl bQ rfl
  ⟨D3 HG.o (by omega) _ _ _,HN.o.three (by omega) _ _ _,rfl⟩
theorem DL(aG:Nat->Int)(y z:Int)(l r:Int×Int×Bool)(nb:Nat)(vf vl:tV)(w:tW)(aO:nb<w.heap.size)(h:kD w nb vf vl aG):
  QX LF 68 #[.pointer (some ⟨nb,0,none⟩),.agg #[.int .i64 5,.int .i64 y,.int .i64 z],sG l,sG r] w (tI w nb vf vl (oL 5 y l r aG)):=by
 obtain⟨D,F,Q⟩:=l;obtain⟨J,I,U⟩:=r;show QX _ _ #[_,_,.agg #[.int .i64 D,.int .i64 F,.bool Q],.agg #[.int .i64 J,.int .i64 I,.bool U]] _ _;have HB:=fZ (tD w (.cells #[.int .i64 5,.int .i64 y,.int .i64 z] 162) (.cells #[.int .i64 D,.int .i64 F,.bool Q] 164) (.cells #[.int .i64 J,.int .i64 I,.bool U] 164) (.cells #[.int .i64 0,.int .i64 0,.bool false] 164));have X:=fZ (Fp w (.int .i64 5) (.int .i64 y) (.int .i64 z) (.int .i64 D) (.int .i64 F) (.bool Q) (.int .i64 J) (.int .i64 I) (.bool U) 162 164 (.int .i64 0) (.int .i64 0) (.bool false));have aL:((((w.alloc (.cells #[.int .i64 5,.int .i64 y,.int .i64 z] 162)).alloc (.cells #[.int .i64 D,.int .i64 F,.bool Q] 164)).alloc (.cells #[.int .i64 J,.int .i64 I,.bool U] 164)).alloc (.cells #[.int .i64 0,.int .i64 0,.bool false] 164)).heap.size=w.heap.size+4:=by simp
 go_enter NM,NH;go_wp2_with fail;generalize (((w.alloc (.cells #[.int .i64 5,.int .i64 y,.int .i64 z] 162)).alloc (.cells #[.int .i64 D,.int .i64 F,.bool Q] 164)).alloc (.cells #[.int .i64 J,.int .i64 I,.bool U] 164)).alloc (.cells #[.int .i64 0,.int .i64 0,.bool false] 164)=W at*;refine(V0 aG F D nb vf vl W (h.below HB.o aO)).mono ?_;rintro e w1 ⟨hg,hn,rfl⟩;have V:=fZ (X.o.1.block (hg.block _ (by omega) (by intro e;injection e;omega)));have H2:=fZ (X.o.2.1.block (hg.block _ (by omega) (by intro e;injection e;omega)));have C:=fZ (X.o.2.2.block (hg.block _ (by omega) (by intro e;injection e;omega)));have HG:=fZ (gD (iQ HB.o lR (some nb)) hg);have HN:=fZ hn;have aR:w.heap.size+4<=w1.heap.size:=by have:=hg.size;omega
 clear hg hn h HB X aL;have a0:=V.o.c0;have a1:=V.o.c1;have a2:=V.o.c2;have b0:=C.o.c0;have b1:=C.o.c1;have b2:=C.o.c2;have z0:=C.o.z 0;have z1:=C.o.z 1;have z2:=C.o.z 2;have y2:=V.o.z 2;have H4:=fZ (C.o.other1 (w.heap.size+1) 2 (.bool true) (by omega));have Z:=fZ (pI HG.o (b:=w.heap.size+1) (by omega) 2 (.bool true));have Y:=fZ (HN.o.below ((MN (w.heap.size+1) w1).setCell (p:=⟨w.heap.size+1,2,none⟩) lR (.bool true)) (by omega));go_wp2_with fail;exact lE MW (w.heap.size+1+1+1) 0 _ _ rfl (H4.o.stored _ _ _).range ME rfl bQ rfl
  ⟨D3 Z.o (by omega) _ _ _,Y.o.three (by omega) _ _ _,rfl⟩
theorem GD(aG:Nat->Int)(y z:Int)(l r:Int×Int×Bool)(nb:Nat)(vf vl:tV)(w:tW)(aT:nb<w.heap.size)(h:kD w nb vf vl aG):
  QX LF 68 #[.pointer (some ⟨nb,0,none⟩),.agg #[.int .i64 1,.int .i64 y,.int .i64 z],sG l,sG r] w (tI w nb vf vl (oL 1 y l r aG)):=by
 obtain⟨Q,D,U⟩:=l;obtain⟨C,F,V⟩:=r;show QX _ _ #[_,_,.agg #[.int .i64 Q,.int .i64 D,.bool U],.agg #[.int .i64 C,.int .i64 F,.bool V]] _ _;have HB:=fZ (tD w (.cells #[.int .i64 1,.int .i64 y,.int .i64 z] 162) (.cells #[.int .i64 Q,.int .i64 D,.bool U] 164) (.cells #[.int .i64 C,.int .i64 F,.bool V] 164) (.cells #[.int .i64 0,.int .i64 0,.bool false] 164));have Z:=fZ (Fp w (.int .i64 1) (.int .i64 y) (.int .i64 z) (.int .i64 Q) (.int .i64 D) (.bool U) (.int .i64 C) (.int .i64 F) (.bool V) 162 164 (.int .i64 0) (.int .i64 0) (.bool false));have aR:((((w.alloc (.cells #[.int .i64 1,.int .i64 y,.int .i64 z] 162)).alloc (.cells #[.int .i64 Q,.int .i64 D,.bool U] 164)).alloc (.cells #[.int .i64 C,.int .i64 F,.bool V] 164)).alloc (.cells #[.int .i64 0,.int .i64 0,.bool false] 164)).heap.size=w.heap.size+4:=by simp
 go_enter NM,NH;go_wp2_with fail;generalize (((w.alloc (.cells #[.int .i64 1,.int .i64 y,.int .i64 z] 162)).alloc (.cells #[.int .i64 Q,.int .i64 D,.bool U] 164)).alloc (.cells #[.int .i64 C,.int .i64 F,.bool V] 164)).alloc (.cells #[.int .i64 0,.int .i64 0,.bool false] 164)=W at*;refine(V0 aG D C nb vf vl W (h.below HB.o aT)).mono ?_;rintro e w1 ⟨hg,hn,rfl⟩;have Y:=fZ (Z.o.1.block (hg.block _ (by omega) (by intro e;injection e;omega)));have H2:=fZ (Z.o.2.1.block (hg.block _ (by omega) (by intro e;injection e;omega)));have H3:=fZ (Z.o.2.2.block (hg.block _ (by omega) (by intro e;injection e;omega)));have HG:=fZ (gD (iQ HB.o lR (some nb)) hg);have HN:=fZ hn;have aW:w.heap.size+4<=w1.heap.size:=by have:=hg.size;omega
 clear hg hn h HB Z aR;have a0:=Y.o.c0;have a1:=Y.o.c1;have a2:=Y.o.c2;have e0:=H2.o.c0;have e1:=H2.o.c1;have e2:=H2.o.c2;go_wp2_with fail;refine(Nb Q D C F U V _).mono ?_;rintro e w2 ⟨I,rfl⟩;have X:=fZ (H3.o.block (I.block _ (by omega)));have aO:=fZ (gD HG.o (iQ I lR (some nb)));have aL:=fZ (HN.o.below I (by omega));clear I a0 a1 a2 e0 e1 e2 Y H2 H3;have b0:=X.o.c0;have b1:=X.o.c1;have b2:=X.o.c2;have z0:=X.o.z 0;have z1:=X.o.z 1;have z2:=X.o.z 2;have HE:QP ((oL 1 y (Q,D,U) (C,F,V) aG)=(zE (Q,D,U) (C,F,V),rP aG D C)):=rfl;generalize zE (Q,D,U) (C,F,V)=J at*;obtain⟨j1,j2,j3⟩:=J;unfold sG;go_wp2_with fail;refine lE MW (w.heap.size+1+1+1) 0 _ _ rfl (X.o.stored _ _ _).range ME rfl bQ rfl ?_;rw[HE.o];exact⟨D3 aO.o (by omega) _ _ _,aL.o.three (by omega) _ _ _,rfl⟩
theorem Se(l:List Int)(v:tV)(pl:Int)(nb:Nat)(vf:tV)(aG:Nat->Int)(w:tW)(hl:l.length<=1000000)(h:kD w nb vf v aG)(X:Df w v l):
  QX LF 100 #[.pointer (some ⟨nb,0,none⟩),.int .i64 pl] w λ e w'=>w'=w/\e=.returned (.int .i64 (yK l pl:Int)):=by
 have c1:=h.c1;clear h;rcases X.sh with⟨rfl,rfl⟩|⟨g,aJ,rfl,h1,h2,C⟩
 ·go_enter func100,ntmps100;go_wp2_with fail
  go_loop [12] (λ i=>i=.int .i64 0) (λ _=>0)
  case atStart=>rfl
  case round=>
   subst hrel;go_wp2;go_ret;exact⟨rfl,rfl⟩
 ·have Y:=fZ C;clear C X;go_enter func100,ntmps100;go_wp2_with fail
  go_loop [12] (λ i=>∃k:Nat,k<=l.length/\i=.int .i64 (k:Int)/\L5 (l.drop k) pl k=yK l pl) (λ i=>l.length-(QO i).toNat)
  case atStart=>exact⟨0,zL,rfl,by simp[yK]⟩
  case round=>
   obtain⟨k,hk,rfl,D⟩:=hrel;have I:=fZ D;clear D;by_cases Q:k<l.length
   ·obtain⟨a,J⟩:∃u,l[k]?=some u:=⟨_,LM Q⟩
    have k0:=Y.o k _ J;have V:=fZ (Xm J pl k);by_cases F:nS pl a=0
    ·have Z:QP (L5 (l.drop (k+1)) pl (k+1)=yK l pl):=by unfold QP;rw[<-I.o,V.o,aB F]
     have hb:(bits .and .i64 pl a !=0)=false:=by rw[show bits .and .i64 pl a=0 from F];rfl
     clear J F;go_wp2;go_round
     case rel=>exact⟨k+1,by omega,by simp,Z.o⟩
     case measure=>simp[QO];omega
    ·have U:QP (yK l pl=k+1):=by unfold QP;rw[<-I.o,V.o,aA F]
     have hb:(bits .and .i64 pl a !=0)=true:=aD.2 F;clear J F;go_wp2;go_ret;exact⟨rfl,by rw[U.o];rfl⟩
   ·have e:k=l.length:=by omega
    have U:QP (yK l pl=0):=by unfold QP;rw[<-I.o,e,OY];rfl
    clear I;subst e;go_wp2;go_ret;exact⟨rfl,by rw[U.o];rfl⟩
