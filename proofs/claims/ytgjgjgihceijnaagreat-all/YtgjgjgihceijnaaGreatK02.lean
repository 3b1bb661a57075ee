import Derived.Test.YtgjgjgihceijnaaGreatK01
import Derived.BigRegion
import Derived.ChangeArms
import Derived.Deep.Slices
import Derived.DataReads
import Derived.Deep.Cut
open Go.RowKit renaming ownsRow_setCell_below->QO,intOf->QP,Hid->QQ
open Go renaming wpList_load_mid->QR,wpList_store_mid->QS,all_oneCell_toArray->QT,info_parts->QU,wpList_make_own->QV,run_loadVar_mid->QW,maxLen->QX,Calls->QY
open Go.Proofs.Tryz renaming zeroCells158->LD,prog->LG,underlying158->LJ,underlying164->MF,zeroCells72->MH,underlying59->ML,underlying89->MS,results68->MW,results141->NB,ntmps68->NE,underlying44->NF,func68->NN,results136->NO,results16->NS,results99->NT,underlying117->NU,underlying29->OC,ntmps135->OF,func135->OL,ntmps12->OM,ntmps99->ON,results137->OR,results94->OS
open Go.World renaming rangeAt_setCells_same->LF,cell?_of_block->LK,cell?_alloc_at->LM,cell?_setCell_other->LQ,frozen?_setCell->LY,size_setCell->MB,setCell->ME,cell?_alloc_past->MI,cell?_setCell_same->MN,ownsRow_nil->MU,there_setCells->MY,drewN_drewN->NG,frozen?_alloc_at->NH,frozen?_of_block->NI,cell?_alloc_new->NK,rangeAt_alloc->NQ,cell?_setCell_same'->NY,there_alloc->OD,frozen?_alloc_past->OG,cell?->PN
open Nat renaming lt_of_lt_of_le->LH,le_trans->LU,le_of_lt->MC,zero_add->MJ,le_succ->OB,lt_or_ge->OK,not_lt_zero->OQ,lt_irrefl->PG,sub_self->PM
open Go.Value renaming slice->LI,ownBlock->LO,oneCell'->MA,int->OJ,cells->PA
open List renaming getElem?_eq_getElem->LN,length_append->LP,length_singleton->LR,getElem?_set_ne->LS,getD_eq_getElem?_getD->LZ,getElem?_append_right->MG,getElem?_eq_some_iff->MM,getElem?_append_left->MR,replicate->MV,drop_eq_getElem_cons->MZ,getElem?_set_self->ND,getElem?_eq_none->NJ,range->NR,getElem?_map->NZ,getElem?_replicate->OI,map_append->OP,mem_singleton->OV,drop_length->OX,map_toArray->OY,not_mem_nil->OZ,length_set->PC,mem_range->PE,map_cons->PF,map_nil->PH,mem_map->PK
open Go.RowKit.Below renaming heap_alloc->MD,refl->MO,heap_setCell->MQ
open Classical renaming choose_spec->MT,choose->NM,byContradiction->NW
open Int renaming toNat_natCast->NC
open Option renaming isSome_iff_exists->OE
open Bool renaming and_eq_true->OH,eq_iff_iff->OO
open Array renaming length_toList->OU
open ByteArray renaming empty->PB
open Go.Proofs.Tryz
set_option maxRecDepth 100000
set_option maxHeartbeats 8000000
namespace Go.Proofs.YtgjgjgihceijnaaGreat
open Go.RowKit Go.Stn
variable {B p q:Nat}{a b:List (Int×Int×Int)}
section
attribute [local go_sem ↓] Go.wp_at_zero Go.wp_at_succ
theorem PI.push'{w:tW}{O:Nat->Nat}{cs:List wX}{vb:Nat->tV}{bc:Nat->List tV}{T:Nat->List (Int×Int×Int)}(h:PI B p w O cs vb bc q T){f:Nat}(J:1<=f)(Q:f<7){w4:tW}{o:Obj}{g aJ n:Nat}{v vf:tV}
  (hn:(bc f).length=n) (I:vb f=vf) (C:w4.ownsRow (B+1) 29 1 (.slice (some ⟨g,0,none⟩) (n+1) aJ) (n+1) (bc f++[v]))
  (F:(w.alloc o).grownBy w4 vf.ownBlock) (D:vf.ownBlock=some g\/g=w.heap.size+1)
  (X:f<=4->n<p->MK w O n v) (U:f=5->OT w O B (17+4*n) v (T n)) (V:f=6->OT w O B (18+4*n) v (T n)):
  PI B p (w4.setCell ⟨B,f,none⟩ (.slice (some ⟨g,0,none⟩) (n+1) aJ)) (λ k=>if k=g then 2+f else O k) cs (Y1 vb f (.slice (some ⟨g,0,none⟩) (n+1) aJ)) (Y1 bc f (bc f++[v])) q T:=by
 subst hn I;exact h.push J Q C F D X (λ e=>by subst e;exact U rfl) (λ e=>by subst e;exact V rfl)
def IV(B p q:Nat)(w:tW)(O:Nat->Nat)(v:tV)(cs:List wX)(bc:Nat->List tV)(T:Nat->List (Int×Int×Int))(L:List (Int×Int×Int))(e:Ending)(w':tW):Prop:=
 e=.returned (.tuple #[])/\∃O' C o,PI B p w' O' cs C o q (Y1 T (bc 5).length L)/\(∀f,f<=4->o f=bc f)/\(o 5).length=(bc 5).length+1/\(o 6).length=(bc 5).length+1/\Below B w w'/\∀k,k<w.heap.size->O k=0->v.ownBlock≠some k->O' k=0/\w'.heap[k]?=w.heap[k]?
theorem U4{w:tW}{O:Nat->Nat}{cs:List wX}{vb:Nat->tV}{bc:Nat->List tV}{T:Nat->List (Int×Int×Int)}(h:PI B p w O cs vb bc q T){v:tV}{L:List (Int×Int×Int)}
  (hv:w.ownsRow (B+1) 79 3 v L.length (hZ L)) (bM:∀k,v.ownBlock=some k->O k=0) (hL:L.length<=1000) (hU:(bc 5).length=(bc 6).length) (hT:(bc 5).length<=5864062014800) (hq:q<=(bc 5).length):
  QY LG 89 #[.pointer (some ⟨B,0,none⟩),v] w (IV B p q w O v cs bc T L):=by
 obtain⟨C,eT⟩:=xE ((bc 5).length)
 have eX:=h.wt.2;have h1:PI B p w (λ k=>if v.ownBlock=some k then 17+4*C else O k) cs vb bc q (Y1 T C L):=
  (h.tag (17+4*C) (λ k J=>⟨bM k J,(hv.lt k J).2⟩)).setT (λ j hj=>gZ _ _ (by omega))
 have hI:OT w (λ k=>if v.ownBlock=some k then 17+4*C else O k) B (17+4*C) v (Y1 T C L C):=by
  rw[iY];exact⟨hv,λ k J=>aB J,hL⟩
 obtain⟨va,vc,hW⟩:=gA hv;have bC:=fV h1;have hG:=fV hI;have HQ:=fV hq;have bK:=h1.bk 5 (by omega) (by omega);have c5:=h1.wb 5 (by omega);obtain⟨a5,k5,e5⟩:=gA bK;have aL:=λ k=>h1.own (f:=5) (k:=k) (by omega)
 rw[e5]at c5 aL bK;rw[eT]at c5 bK aL;have eO:=fV e5;have V:=fV eT;have hB:=fV bK;have Y:=fV aL;have lH:C<=5864062014800:=by omega
 have aW:QQ ((bc 6).length=C):=by unfold QQ;omega
 subst hW;clear h1 hI hq h hv bM bK aL eT e5 hU hT;go_enter func89,ntmps89;have f5:=bC.o.wz 5;go_upto_region 1 with(first
  | (at_builtin;refine sH w rfl (.tmp 8) (.tmp 10) 89 rfl (B+1) 29 (.slice none 0 0) 1 24 MS cM rfl (by decide) (by decide) (.slice a5 C k5) C (bc 5) [.slice va L.length vc] _ rfl hB.o _ rfl rfl rfl (by simp[MA]) (by omega) (by omega) ?_;intro g4 cap4 w4 bN D cP hY;have m5:=((gH D (k:=B) eX (λ e=>by have:=(Y.o B e.symm).1;omega)).1 5).trans c5;have hX:=((gH D (k:=B) eX (λ e=>by have:=(Y.o B e.symm).1;omega)).2 5).trans f5;have hE:=fV bN;have bS:=fV D;have eM:=fV cP;clear bN D cP))
 have Q:=fV (bC.o.push' (f:=5) (by omega) (by omega) V.o (by rw[eO.o,V.o]) hE.o bS.o eM.o (λ e=>absurd e (by omega)) (λ _=>hG.o) (λ e=>absurd e (by omega)));have hC:=fV ((yX bS.o (λ k J=>LU (OB _) (Y.o k J).1) (MC eX)).setCell (p:=⟨B,5,none⟩) lR (.slice (some ⟨g4,0,none⟩) (C+1) cap4));have hN:QQ (∀k,k<w.heap.size->O k=0->(LI va L.length vc).ownBlock≠some k->(w4.setCell ⟨B,5,none⟩ (.slice (some ⟨g4,0,none⟩) (C+1) cap4)).heap[k]?=w.heap[k]? /\k≠g4/\k≠B):=λ k J ho aT=>by
  have n1:(LI a5 C k5).ownBlock≠some k:=λ e=>by
   have:=bC.o.bt 5 k (by omega) (by rw[eO.o,V.o];exact e);simp only[aA aT]at this;omega
  have n2:k≠B:=λ e=>by
   have:=bC.o.wt.1;rw[<-e]at this;simp only[aA aT]at this;omega
  refine⟨(iC w4 B 5 _ n2).trans ((bS.o.block k (by simp;omega) (λ e=>n1 e.symm)).trans (MD w _ k J)),λ e=>?_,n2⟩;rcases eM.o with e1|e1
  ·exact n1 (by rw[e];exact e1)
  ·omega
 have nL:w.heap.size<=(w4.setCell ⟨B,5,none⟩ (.slice (some ⟨g4,0,none⟩) (C+1) cap4)).heap.size:=hC.o.size;clear c5 f5 m5 hX hE bS eM bC hG hB Y eO;generalize w4.setCell ⟨B,5,none⟩ (.slice (some ⟨g4,0,none⟩) (C+1) cap4)=W5 at*;have eS:Y1 bc 5 (bc 5++[.slice va L.length vc]) 6=bc 6:=gZ _ _ (by omega);have hA:=Q.o.wa C (.slice va L.length vc) (by have:=V.o;have:=HQ.o;omega) (by rw[iY,MG (by have:=V.o;omega),V.o,PM];rfl);rw[iY]at hA;have hS:=fV hA.ro;have X:=Q.o.bk 6 (by omega) (by omega);have c6:=Q.o.wb 6 (by omega);have f6:=Q.o.wz 6;have aO:=λ k=>Q.o.own (f:=6) (k:=k) (by omega)
 obtain⟨a6,k6,e6⟩:=gA X;rw[e6]at c6 X aO;rw[eS,aW.o]at c6 X aO;have cF:=fV e6;have hK:=fV X;have Z:=fV aO;have hJ:=Q.o.wt.2;have U:=fV eS;clear X aO e6 hA eS;go_region_law (first
  | (refine Sn W5.drew rfl (.tmp 19) rfl (B+1) (.slice va L.length vc) L.length (hZ L) rfl hS.o.drew (yY L) hL (by show B+1<=W5.heap.size;omega) ?_;intro u w6 gL aR X;obtain⟨ua,uc,hV⟩:=gA gL;subst hV;have hH:=fV gL;have I:=fV aR;have hD:=fV X;have x6:=(LK (w:=W5) (a:=⟨B,6,none⟩) (aR.block B hJ (by simp))).trans c6;have y6:=(NI (w:=W5) (a:=⟨B,6,none⟩) (aR.block B hJ (by simp))).trans f6;have nN:W5.heap.size<=w6.heap.size:=aR.size;have hR:=fV (iH (w':=w6) hK.o (λ k J=>aR.block k (Z.o k J).2 (by simp)));have z6:(w6.alloc (.cells #[.slice ua L.length uc] 29)).cell? ⟨B,6,none⟩=some (.slice a6 C k6):=(LK (w:=w6) (a:=⟨B,6,none⟩) (MD w6 _ B (show B<w6.heap.size by omega))).trans x6;clear gL aR X)
  | (refine Yp w6 rfl (.tmp 18) (.tmp 21) 89 rfl (B+1) 29 (.slice none 0 0) 1 24 MS cM rfl (by decide) (by decide) (.slice a6 C k6) C (bc 6) [.slice ua L.length uc] _ rfl hR.o w6.heap.size rfl rfl rfl (by simp[MA]) (by omega) (by omega) ?_;intro g8 cN w8 bO F eL iN;have m8:=((gH F (k:=B) (show B<w6.heap.size by omega) (λ e=>by have:=(Z.o B e.symm).1;omega)).1 6).trans x6;have n8:=((gH F (k:=B) (show B<w6.heap.size by omega) (λ e=>by have:=(Z.o B e.symm).1;omega)).2 6).trans y6;have hF:=fV bO;have bT:=fV F;have eN:=fV eL;clear bO F eL))
 all_goals
  have eR:=fV (((Q.o.draw 1).below (w':=w6) ⟨I.o.os,I.o.tape,I.o.output,I.o.size,λ k J=>I.o.block k J (by simp)⟩).tag (v:= .slice ua L.length uc) (18+4*C) (λ k J=>⟨Q.o.fr k (hD.o k J),(hH.o.lt k J).2⟩));have hQ:=fV (eR.o.push' (f:=6) (n:=C) (vf:= .slice a6 C k6) (by omega) (by omega) (by rw[U.o];exact aW.o) (by rw[cF.o,U.o,aW.o]) (by rw[U.o];exact hF.o) bT.o eN.o (λ e=>absurd e (by omega)) (λ e=>absurd e (by omega)) (λ _=>⟨by rw[iY];exact hH.o,λ k J=>aB J,by rw[iY];exact hL⟩));have hM:QQ (Below B w (w8.setCell ⟨B,6,none⟩ (.slice (some ⟨g8,0,none⟩) (C+1) cN))):=by
   have a1:Below B W5 w6:=⟨I.o.os,I.o.tape,I.o.output,I.o.size,λ k J=>I.o.block k (show k<W5.heap.size by omega) (by simp)⟩
   have a2:=yX bT.o (λ k J=>LU (OB B) (Z.o k J).1) (show B<=w6.heap.size by omega);exact(hC.o.trans (a1.trans a2)).setCell (p:=⟨B,6,none⟩) lR _
  have hP:QQ (∀k,k<w.heap.size->O k=0->(LI va L.length vc).ownBlock≠some k->(if k=g8 then 2+6 else if(LI ua L.length uc).ownBlock=some k then 18+4*C else if k=g4 then 2+5 else if(LI va L.length vc).ownBlock=some k then 17+4*C else O k)=0/\(w8.setCell ⟨B,6,none⟩ (.slice (some ⟨g8,0,none⟩) (C+1) cN)).heap[k]?=w.heap[k]?):=λ k J ho aT=>by
   obtain⟨q1,q2,q3⟩:=hN.o k J ho aT;have n0:(LI ua L.length uc).ownBlock≠some k:=λ e=>by have:W5.heap.size<=k:=hD.o k e;omega
   have n1:(LI a6 C k6).ownBlock≠some k:=λ e=>by
    have:=eR.o.bt 6 k (by omega) (by rw[cF.o,U.o,aW.o];exact e);simp only[aA aT,aA n0,aA q2]at this;omega
   have n2:k≠g8:=λ e=>by
    rcases eN.o with e1|e1
    ·exact n1 (by rw[e];exact e1)
    ·omega
   refine⟨by rw[aA n2,aA n0,aA q2,aA aT];exact ho,(iC w8 B 6 _ q3).trans ((bT.o.block k (by simp;omega) (λ e=>n1 e.symm)).trans ((MD w6 _ k (by omega)).trans ((I.o.block k (show k<W5.heap.size by omega) (by simp)).trans q1)))⟩
  clear c6 f6 x6 y6 z6 m8 n8 hF bT eN eR Q;go_wp2;refine bodyPost_ret (results_none rfl _ _ _) rfl ?_;refine⟨rfl,_,_,_,by rw[V.o];exact hQ.o,λ f hf=>?_,?_,?_,hM.o,hP.o⟩
  ·rw[gZ _ _ (by omega),gZ _ _ (by omega)]
  ·rw[gZ _ _ (by omega),iY,LP,LR]
  ·rw[iY,LP,LR,U.o,aW.o,V.o]
end
theorem Yb(h:a.length≠b.length):Stn.mF a b=false:=by
 unfold Stn.mF;simp;intro e;exact h (by rw[e])
theorem Yc(h:a.length=b.length)(o:∀k,k<a.length->a[k]?=b[k]?):Stn.mF a b=true:=by
 unfold Stn.mF;simp;apply List.ext_getElem?;intro k;by_cases C:k<a.length
 ·exact o k C
 ·rw[NJ (by omega),NJ (by omega)]
theorem BV{k:Nat}(o:a[k]? ≠b[k]?):Stn.mF a b=false:=by
 unfold Stn.mF;simp;intro e;exact o (by rw[e])
theorem BW(a b:List (Int×Int×Int))(ga ca gb cb:Nat)(w:tW)(ha:a.length<=1000000)(_hb:b.length<=1000000)
  (V:∀k x,a[k]?=some x->w.cell? ⟨ga,k*3,none⟩=some (.int .i64 x.1)/\w.cell? ⟨ga,k*3+1,none⟩=some (.int .i64 x.2.1)/\w.cell? ⟨ga,k*3+2,none⟩=some (.int .i64 x.2.2))
  (X:∀k x,b[k]?=some x->w.cell? ⟨gb,k*3,none⟩=some (.int .i64 x.1)/\w.cell? ⟨gb,k*3+1,none⟩=some (.int .i64 x.2.1)/\w.cell? ⟨gb,k*3+2,none⟩=some (.int .i64 x.2.2)):
  QY LG 12 #[.slice (some ⟨ga,0,none⟩) a.length ca,.slice (some ⟨gb,0,none⟩) b.length cb] w λ e w'=>e=.returned (.bool (Stn.mF a b))/\∃q,w'=w.drewN q:=by
 have HA:=sM V;have HB:=sM X;clear V X;by_cases C:a.length=b.length
 ·have aL:((a.length:Int) !=(b.length:Int))=false:=by rw[C];simp
  go_enter func12,OM;have Q:=sM C;clear C;go_wp2_with fail
  go_loopw [5] (λ i w'=>∃k q:Nat,k<=a.length/\i=.int .i64 (k:Int)/\w'=w.drewN q/\∀j,j<k->a[j]?=b[j]?) (λ i _=>a.length-(QP i).toNat)
  case atStart=>exact⟨0,0,zL,rfl,rfl,λ j h=>absurd h (OQ _)⟩
  case round=>
   obtain⟨k,q,hk,rfl,rfl,I⟩:=hrel;have F:=sM I;clear I;by_cases Y:k<a.length
   ·have Z:k<b.length:=by have:=Q.o;omega
    obtain⟨⟨x,y,z⟩,hx⟩:∃u,a[k]?=some u:=⟨_,LN Y⟩
    obtain⟨⟨x',y',z'⟩,J⟩:∃u,b[k]?=some u:=⟨_,LN Z⟩
    obtain⟨k0,k1,k2⟩:=HA.o k _ hx;obtain⟨m0,m1,m2⟩:=HB.o k _ J;have HX:=sM hx;have U:=sM J;clear hx J;simp only at k0 k1 k2 m0 m1 m2;have aR:(0:Int)<=(k:Int)/\(k:Int)<(a.length:Int):=by omega
    have aO:(0:Int)<=(k:Int)/\(k:Int)<(b.length:Int):=by omega
    have D:((x==x')=true/\(y==y')=true/\(z==z')=true)\/(((x==x')=false)\/((x==x')=true/\(y==y')=false)\/((x==x')=true/\(y==y')=true/\(z==z')=false)):=by
     cases (x==x')<;>cases (y==y')<;>cases (z==z')<;>simp
    rcases D with⟨e1,e2,e3⟩|D
    ·have HE:QQ (a[k]?=b[k]?):=by
      unfold QQ;rw[HX.o,U.o,beq_iff_eq.1 e1,beq_iff_eq.1 e2,beq_iff_eq.1 e3]
     go_wp2;go_quiet (fail);go_wp2;go_roundw
     case rel=>
      refine⟨k+1,_,Y,by go_num,rfl,λ j hj=>?_⟩;by_cases ej:j=k
      ·rw[ej];exact HE.o
      ·exact F.o j (by omega)
     case measure=>simp[QP];omega
    ·have HN:QQ (Stn.mF a b=false):=by
      refine BV (k:=k) ?_;rw[HX.o,U.o];intro h;injection h with h;injection h with h1 h2;injection h2 with h2 h3;subst h1 h2 h3;simp at D
     rcases D with e1|⟨e1,e2⟩|⟨e1,e2,e3⟩
     all_goals
      go_wp2;go_quiet (fail);go_wp2;go_ret;exact⟨by rw[HN.o];rfl,q+nq,by first|rfl|simp⟩
   ·have HY:QQ (Stn.mF a b=true):=Yc Q.o (λ j hj=>F.o j (by omega));go_wp2;go_ret;exact⟨by rw[HY.o];rfl,q,rfl⟩
 ·have aL:((a.length:Int) !=(b.length:Int))=true:=by rw[aD];omega
  have HN:QQ (Stn.mF a b=false):=Yb C;clear C;go_enter func12,OM;go_wp2;go_ret;exact⟨by rw[HN.o];rfl,0,rfl⟩
theorem Dz(F vb:Option Addr)(n m ca cb:Nat)(w:tW)(h:n=0\/m=0)(hn:n<=1000000)(I:m<=1000000):
  QY LG 12 #[.slice F n ca,.slice vb m cb] w λ e w'=>e=.returned (.bool (decide (n=m)))/\∃q,w'=w.drewN q:=by
 by_cases e:n=m
 ·have C:n=0:=by omega
  subst e;subst C;go_enter func12,OM;go_wp2_with fail
  go_loop [5] (λ i=>i=.int .i64 0) (λ _=>0)
  case atStart=>rfl
  case round=>
   subst hrel;go_wp2;go_ret;exact⟨rfl,0,rfl⟩
 ·have D:((n:Int) !=(m:Int))=true:=by rw[aD];omega
  have o:decide (n=m)=false:=by simp[e]
  rw[o];clear o e h;go_enter func12,OM;go_wp2;go_ret;exact⟨rfl,0,rfl⟩
theorem R7(a b:List (Int×Int×Int))(I vb:tV)(B B':Nat)(w:tW)(D:a.length<=1000000)(F:b.length<=1000000)(Q:Zt w B I a)(rb:Zt w B' vb b):
  QY LG 12 #[I,vb] w λ e w'=>e=.returned (.bool (Stn.mF a b))/\∃q,w'=w.drewN q:=by
 rcases Q.sh with⟨rfl,rfl⟩|⟨J,ca,rfl,_,_,_,C⟩
 ·rcases rb.sh with⟨rfl,rfl⟩|⟨gb,cb,rfl,_,_,_,o⟩
  ·exact Dz none none 0 0 0 0 w (.inl rfl) (by omega) (by omega)
  ·have e:Stn.mF [] b=decide (0=b.length):=by
    unfold Stn.mF;rw[OO];simp;constructor
    ·intro h;rw[h];rfl
    ·intro h;exact List.eq_nil_of_length_eq_zero h.symm
   rw[e];exact Dz none _ 0 b.length 0 cb w (.inl rfl) (by omega) F
 ·rcases rb.sh with⟨rfl,rfl⟩|⟨gb,cb,rfl,_,_,_,o⟩
  ·have e:Stn.mF a []=decide (a.length=0):=by
    unfold Stn.mF;rw[OO];simp
   rw[e];exact Dz _ none a.length 0 ca 0 w (.inr rfl) D (by omega)
  ·exact BW a b J ca gb cb w D F C o
end Go.Proofs.YtgjgjgihceijnaaGreat
namespace Go.Stn
variable {a n top g K B s t:Nat}{b b2:Int}{l:List Nat}
theorem Dx{s aI:tB}(hi:iF s=true):∀(f p c:Nat)(H:List (Int×Int×Int)) (n:Nat) (T:List (Int×Int×Int)),c<iM s->(yP s aI f p c H n T).1.length<=T.length+f:=by
 intro f
 induction f with
 | zero=>intro p c H n T _;simp[yP]
 | succ e ih=>
  intro p c H n T F;by_cases o:p<aI.size
  ·rcases yK hi F (MC o)with D|⟨r,q,C,J,I,Q⟩
   ·rw[wB o D];simp
   ·rw[wC o C];have:=vX hi J;have:=ih q (if 1<nC s r then nC s r-2 else c) (H++(iE s aI c H p).1) (n+(iE s aI c H p).2) (if nC s r=1 then T else T++[((r:Int),(p:Int),(q:Int))]) (by split<;>omega);refine LU this ?_;split<;>simp<;>omega
  ·rw[yQ o];simp
theorem FH(s aI:tB)(c:Nat)(hi:iF s=true)(o:c<iM s):(Je s aI c).length<=1000:=by
 unfold Je;split
 ·simp
 ·rename_i h;have:=Dx (aI:=aI) hi (aI.size+1) 0 c [] 0 [] o;unfold pX;simp at this⊢;omega
def Ae(c:Int)(n:Nat):Nat:=if c<0 then(-(c+1)).toNat%n else c.toNat%n
theorem AW(c:Int){n:Nat}(h:0<n):Ae c n<n:=by unfold Ae;split<;>exact Nat.mod_lt _ h
def JO(c:Int):Prop:= -9223372036854775808<=c/\c<=9223372036854775807
structure Sv where
 kd:Int
 on:Int
 s:tB
 x:tB
def Sv.cells(o:Sv):List tV:= [.int .i64 o.kd,.int .i64 o.on,.string o.s,.string o.x]
def Sv.ok(o:Sv):Prop:=JO o.on/\o.s.size<=QX
theorem Sa(s aI:tB):(pH s aI).1.length<=1000:=by
 unfold pH;split
 ·simp
 ·rename_i h;split
  ·rename_i hi;have o:=(kZ hi).2.2.1;have:=Dx (aI:=aI) hi (aI.size+1) 0 0 [] 0 [] (by omega);unfold pX;simp at this⊢;omega
  ·simp
structure gS where
 at_:Nat
 aX:List ((Nat->Bool)×Int×Int)
 aV:List (Int×Int×Int)
 aW:List (Nat->Bool)
def jI(f:Nat->Bool)(a b:Int):Nat->Bool:=λ i=>decide (a<=(i:Int)/\(i:Int)<=b)||f i
def gF(t:tB)(a:Nat):Int:=if t.size<=a then -1 else(bt t a:Int)
def iO(st:gS):gS:= {st with at_:=st.at_+1}
def gG(t:tB)(b:Int)(st:gS):Bool:=decide (gF t st.at_=b)
def nT(b:Int):Bool:=decide (33<=b/\b<=126)
def Ff(b:Int):Bool:=decide ((97<=b/\b<=122)\/(65<=b/\b<=90)\/(48<=b/\b<=57))
def kV(b:Int)(sp:tB):Bool:=nT b&&decide (∀i,i<sp.size->(bt sp i:Int)≠b)
def kK:tB:=⟨#[92,124,42,43,63,46,40,41,91,93]⟩
def kJ:tB:=⟨#[92,93,94,45]⟩
theorem jW{t:tB}(h:t.size<=a):gF t a= -1:=by unfold gF;rw[aB h]
theorem lK{t:tB}(h:a<t.size):gF t a=(bt t a:Int):=by unfold gF;rw[aA (by omega)]
theorem C5(t:tB)(a:Nat): -1<=gF t a/\gF t a<=255:=by
 unfold gF;have:=mT t a;split<;>omega
theorem iW{t:tB}{st:gS}(C:0<=b)(h:gG t b st=true):st.at_<t.size:=by
 unfold gG at h;rw[aE]at h;rcases OK st.at_ t.size with o|o
 ·exact o
 ·rw[jW o]at h;omega
def uH(t:tB)(st:gS):Int×Bool×gS:=
 if gG t 110 st=true then(10,true,iO st)
 else if gG t 115 st=true then(32,true,iO st)
 else if nT (gF t st.at_)=true/\Ff (gF t st.at_)=false then(gF t st.at_,true,iO st)
 else(0,false,st)
def gC(t sp:tB)(st:gS):Int×Bool×gS:=
 if gG t 92 st=true then uH t (iO st)
 else if kV (gF t st.at_) sp=true then(gF t st.at_,true,iO st)
 else(0,false,st)
def gY(t:tB)(f:Nat->Bool)(st:gS):(Nat->Bool)×Bool×gS:=
 if(gC t kJ st).2.1=false then(f,false,(gC t kJ st).2.2)
 else if gG t 45 (gC t kJ st).2.2=false then(jI f (gC t kJ st).1 (gC t kJ st).1,true,(gC t kJ st).2.2)
 else if(gC t kJ (iO (gC t kJ st).2.2)).2.1=false\/(gC t kJ (iO (gC t kJ st).2.2)).1<(gC t kJ st).1 then(f,false,(gC t kJ (iO (gC t kJ st).2.2)).2.2)
 else(jI f (gC t kJ st).1 (gC t kJ (iO (gC t kJ st).2.2)).1,true,(gC t kJ (iO (gC t kJ st).2.2)).2.2)
theorem uN{t:tB}{f:Nat->Bool}{st o:gS}(h:gC t kJ st=(b,false,o)):gY t f st=(f,false,o):=by
 unfold gY;rw[h];simp
theorem uO{t:tB}{f:Nat->Bool}{st o:gS}(h:gC t kJ st=(b,true,o))(C:gG t 45 o=false):gY t f st=(jI f b b,true,o):=by
 unfold gY;rw[h];simp[C]
theorem pZ{t:tB}{f:Nat->Bool}{st C D:gS}{o:Bool}(h:gC t kJ st=(b,true,C))(F:gG t 45 C=true)(I:gC t kJ (iO C)=(b2,o,D))(J:o=false\/b2<b):gY t f st=(f,false,D):=by
 unfold gY;rw[h];simp only[F,I];rw[aA (by decide),aA (by decide),aB J]
theorem uP{t:tB}{f:Nat->Bool}{st o C:gS}(h:gC t kJ st=(b,true,o))(D:gG t 45 o=true)(F:gC t kJ (iO o)=(b2,true,C))(I:¬b2<b):gY t f st=(jI f b b2,true,C):=by
 unfold gY;rw[h];simp only[D,F];rw[aA (by decide),aA (by decide),aA (by simp;omega)]
def mZ(t:tB):Nat->(Nat->Bool)->Bool->gS->(Nat->Bool)×Bool×gS
 | 0,f,_,st=>(f,false,st)
 | n+1,f,ok,st=>
  if ok=false then(f,false,st)
  else if gG t 93 st=true then(f,true,iO st)
  else mZ t n (gY t f st).1 (gY t f st).2.1 (gY t f st).2.2
def gK:Nat->Bool:=λ _=>false
def rW(t:tB)(st:gS):(Nat->Bool)×Bool×gS:=
 mZ t (t.size+1) (gY t gK st).1 (gY t gK st).2.1 (gY t gK st).2.2
def rH(t:tB)(st:gS):(Nat->Bool)×Bool×gS:=
 if gG t 94 st=true then
  (if(rW t (iO st)).2.1=true then((λ i=> !((rW t (iO st)).1 i)),true,(rW t (iO st)).2.2)else(gK,false,(rW t (iO st)).2.2))
 else(if(rW t st).2.1=true then((rW t st).1,true,(rW t st).2.2)else(gK,false,(rW t st).2.2))
def hO(t:tB)(st:gS):(Nat->Bool)×Bool×gS:=
 if gG t 91 st=true then rH t (iO st)
 else if gG t 46 st=true then((λ i=> !(gK i)),true,iO st)
 else if(gC t kK st).2.1=true then(jI gK (gC t kK st).1 (gC t kK st).1,true,(gC t kK st).2.2)
 else(gK,false,(gC t kK st).2.2)
theorem yA(t:tB)(n:Nat)(f:Nat->Bool)(st:gS):mZ t n f false st=(f,false,st):=by
 cases n<;>rfl
theorem R8{t:tB}{f:Nat->Bool}{st:gS}(h:gG t 93 st=true):mZ t (n+1) f true st=(f,true,iO st):=by
 rw[mZ,aA (by decide),aB h]
theorem R9{t:tB}{f:Nat->Bool}{st:gS}(h:gG t 93 st=false):mZ t (n+1) f true st=mZ t n (gY t f st).1 (gY t f st).2.1 (gY t f st).2.2:=by
 rw[mZ,aA (by decide),aA (by rw[h];decide)]
def gE(t:tB)(st:gS):Int×Bool×gS:=
 if 65<=gF t st.at_/\gF t st.at_<69 then(gF t st.at_-65,true,iO st)else(0,false,st)
def jP(t:tB)(st:gS):Int×Bool×gS:=
 if gG t 46 st=true then(0,true,iO st)
 else if gG t 45 st=true then(1,true,iO st)
 else if(gE t st).2.1=true then((gE t st).1+2,true,(gE t st).2.2)else(0,false,(gE t st).2.2)
def qY(u v:tV):Prop:=∀k,u.ownBlock=some k->v.ownBlock=some k->False
theorem qY.symm{u v:tV}(h:qY u v):qY v u:=λ k a b=>h k b a
def nH(x:(Nat->Bool)×Int×Int):List tV:= [.bool (x.1 0),.bool (x.1 1),.bool (x.1 2),.bool (x.1 3),.int .i64 x.2.1,.int .i64 x.2.2]
def D0(l:List ((Nat->Bool)×Int×Int)):List tV:=l.flatMap nH
def Z0(l:List (Nat->Bool)):List tV:=l.flatMap gQ
def xC(l:List (Int×Int×Int)):List tV:=l.flatMap λ x=>[.int .i64 x.1,.int .i64 x.2.1,.int .i64 x.2.2]
def Ib(c:Nat)(s:tB):Bool:=decide (∃i,i<s.size/\bt s i=c)
def B8:tB:=⟨#[65,66,67,68,69,70,71,72,73,74,75,76,77,78,79,80,81,82,83,84,85,86,87,88,89,90,97,98,99,100,101,102,103,104,105,106,107,108,109,110,111,112,113,114,115,116,117,118,119,120,121,122,48,49,50,51,52,53,54,55,56,57]⟩
def Yk:tB:=⟨#[93,94,45]⟩
def pG(o:Nat->Int)(x:Int):Int:=if x= -1 then -1 else o x.toNat
def Co(o:Nat->Int)(nx:Nat->Nat->Int)(s t k:Nat):Bool:=decide (∀g,g<k->pG o (nx s g)=pG o (nx t g))
def iS(o:Nat->Int)(tk:Nat->Nat)(nx:Nat->Nat->Int)(K s t:Nat):Bool:=decide (o s=o t)&&(decide (tk s=tk t)&&Co o nx s t K)
def gW(q:Nat->Nat->Bool)(aN:List Nat)(s:Nat):Nat->Nat
 | 0=>aN.length
 | d+1=>if q (aN.getD (aN.length-(d+1)) 0) s=true then aN.length-(d+1)else gW q aN s d
def kH(q:Nat->Nat->Bool):Nat->Nat->List Nat->List Nat->List Nat×List Nat
 | 0,_,aK,aN=>(aK,aN)
 | d+1,s,aK,aN=>
  if gW q aN s aN.length=aN.length then
   if 100<aN.length+1 then(aK,aN++[s])else kH q d (s+1) (aK++[aN.length]) (aN++[s])
  else kH q d (s+1) (aK++[gW q aN s aN.length]) aN
def iV(l:List Nat):Nat->Int:=λ i=>((l.getD i 0:Nat):Int)
def kX(n:Nat)(q:Nat->Nat->Bool):List Nat×List Nat:=kH q n 0 [] []
def tS(n:Nat)(tk:Nat->Nat)(nx:Nat->Nat->Int)(K:Nat):Nat->List Nat->Nat->Option (List Nat×List Nat)
 | 0,_,_=>none
 | f+1,bA,count=>
  if 100<(kX n (iS (iV bA) tk nx K)).2.length then none
  else if(kX n (iS (iV bA) tk nx K)).2.length=count then some (kX n (iS (iV bA) tk nx K))
  else tS n tk nx K f (kX n (iS (iV bA) tk nx K)).1 (kX n (iS (iV bA) tk nx K)).2.length
def nX(tk:Nat->Nat)(nx:Nat->Nat->Int)(K:Nat)(aK aN:List Nat):List (Nat×List Int):=aN.map λ s=>(tk s,(NR K).map λ g=>pG (iV aK) (nx s g))
theorem tN(q:Nat->Nat->Bool)(aN:List Nat)(s:Nat):∀d,gW q aN s d<=aN.length:=by
 intro d;induction d with
 | zero=>exact lR
 | succ k ih=>
  rw[gW];split
  ·omega
  ·exact ih
theorem Gu(q:Nat->Nat->Bool):∀d s aK aN,(kH q d s aK aN).2.length<=aN.length+d/\(kH q d s aK aN).1.length<=aK.length+d:=by
 intro d;induction d with
 | zero=>intro s aK aN;simp[kH]
 | succ k ih=>
  intro s aK aN;rw[kH];split
  ·split
   ·simp
   ·have:=ih (s+1) (aK++[aN.length]) (aN++[s]);simp at this⊢;omega
  ·have:=ih (s+1) (aK++[gW q aN s aN.length]) aN;simp at this⊢;omega
open Go.RowKit
structure Ur(w:tW)(top g n K:Nat)(zb:Nat->Nat)(tk:Nat->Nat)(nx:Nat->Nat->Int):Prop where
 tkc:∀s,s<n->w.cell? ⟨g,s*2,none⟩=some (.int .i64 (tk s))
 nxc:∀s,s<n->w.cell? ⟨g,s*2+1,none⟩=some (.slice (some ⟨zb s,0,none⟩) K K)
 ldc:∀s k,s<n->k<K->w.cell? ⟨zb s,k,none⟩=some (.int .i64 (nx s k))
 bg:g<top
 bz:∀s,s<n->zb s<top
theorem Ur.below{w w':tW}{zb tk:Nat->Nat}{nx:Nat->Nat->Int}(h:Ur w top g n K zb tk nx)(C:Below B w w')(D:top<=B):Ur w' top g n K zb tk nx:=
 ⟨λ s o=>(C.cell (p:=⟨g,s*2,none⟩) (LH h.bg D)).trans (h.tkc s o),λ s o=>(C.cell (p:=⟨g,s*2+1,none⟩) (LH h.bg D)).trans (h.nxc s o),
  λ s k o F=>(C.cell (p:=⟨zb s,k,none⟩) (LH (h.bz s o) D)).trans (h.ldc s k o F),h.bg,h.bz⟩
theorem Ur.drewN{w:tW}{zb tk:Nat->Nat}{nx:Nat->Nat->Int}(h:Ur w top g n K zb tk nx)(q:Nat):Ur (w.drewN q) top g n K zb tk nx:=⟨h.tkc,h.nxc,h.ldc,h.bg,h.bz⟩
def M3(w:tW)(g n:Nat)(f:Nat->Int):Prop:=∀i,i<n->w.cell? ⟨g,i,none⟩=some (.int .i64 (f i))
theorem M3.below{w w':tW}{f:Nat->Int}(h:M3 w g n f)(o:Below B w w')(C:g<B):M3 w' g n f:=λ i hi=>(o.cell (p:=⟨g,i,none⟩) C).trans (h i hi)
theorem M3.of_row{w:tW}{aH e aJ:Nat}(h:w.ownsRow aH e 1 (.slice (some ⟨g,0,none⟩) l.length aJ) l.length (oY l)):M3 w g l.length (iV l):=λ i hi=>by
 have o:=h.cells rfl i (.int .i64 (iV l i)) (by
  unfold oY iV;rw[NZ,LN hi,LZ,LN hi];rfl)
 by_cases C:i=0
 ·subst C;simpa[Addr.add]using o
 ·simpa[Addr.add,C]using o
theorem EW{o:Nat->Int}{nx:Nat->Nat->Int}{s t K g:Nat}(hg:g<K)(h:pG o (nx s g)≠pG o (nx t g)):Co o nx s t K=false:=by
 unfold Co;rw[aF];intro q;exact h (q g hg)
theorem x4{o:Nat->Int}{nx:Nat->Nat->Int}(h:∀g,g<K->pG o (nx s g)=pG o (nx t g)):Co o nx s t K=true:=by
 unfold Co;rw[aE];exact h
theorem E8(h:∀x∈l,x<n){i:Nat}(hi:i<l.length):l.getD i 0<n:=by
 rw[LZ,LN hi];exact h _ (List.getElem_mem hi)
theorem A8{q:Nat->Nat->Bool}{l:List Nat}{s f d:Nat}(o:f+(d+1)=l.length):gW q l s (d+1)=if q (l.getD f 0) s=true then f else gW q l s d:=by
 rw[gW,show l.length-(d+1)=f by omega]
end Go.Stn
namespace Go.Proofs.YtgjgjgihceijnaaGreat
open Go.RowKit Go.Stn
variable {B p q aH e size g n aJ m top rb:Nat}
theorem D3(l:List (Int×Int×Int)):Stn.mF l l=true:=by unfold Stn.mF;simp
def JA(B p q:Nat)(w:tW)(cs:List wX)(bc:Nat->List tV)(e:Ending)(w':tW):Prop:=
 e=.returned (.bool true)/\∃O' C D o F,PI B p w' O' C D o q F/\C.length=cs.length/\(∀f,f<=4->o f=bc f)/\(o 5).length=(bc 5).length+1/\(o 6).length=(bc 5).length+1/\Below B w w'
theorem We{w:tW}{O:Nat->Nat}{cs:List wX}{vb:Nat->tV}{bc:Nat->List tV}{T:Nat->List (Int×Int×Int)}(h:PI B p w O cs vb bc q T){j:Nat}{t:wX}(hj:cs[j]?=some t)(aI:tB)
  (bT:(bc 5).length=(bc 6).length) (bN:(bc 5).length<=5864062014800) (hq:q<=(bc 5).length):
  QY LG 62 #[.pointer (some ⟨B,0,none⟩),.agg #[.pointer (some ⟨t.cb,0,none⟩),.pointer (some ⟨t.rb,0,none⟩)],.string aI] w (JA B p q w cs bc):=by
 have hJ:=h.wt.2;have aW:QQ (Bl w (w.alloc (.cells #[.pointer (some ⟨t.cb,0,none⟩),.pointer (some ⟨t.rb,0,none⟩)] 96))):=bR.alloc lR _;have x0:(w.alloc (.cells #[.pointer (some ⟨t.cb,0,none⟩),.pointer (some ⟨t.rb,0,none⟩)] 96)).cell? ⟨w.heap.size,0,none⟩=some (.pointer (some ⟨t.cb,0,none⟩)):=(LM _ _ _ 0 rfl).trans rfl;have x1:(w.alloc (.cells #[.pointer (some ⟨t.cb,0,none⟩),.pointer (some ⟨t.rb,0,none⟩)] 96)).cell? ⟨w.heap.size,1,none⟩=some (.pointer (some ⟨t.rb,0,none⟩)):=(LM _ _ _ 1 rfl).trans rfl;have hR:w.heap.size<(w.alloc (.cells #[.pointer (some ⟨t.cb,0,none⟩),.pointer (some ⟨t.rb,0,none⟩)] 96)).heap.size:=by simp
 have HP:=fV (h.below aW.o);have C:=fV (HP.o.cu j t hj);have HJ:=fV hj;have HQ:=fV hq;have gL:=fV bT;have eT:=fV bN;have hT:=(h.cu j t hj).ct.b0;have hU:=(h.cu j t hj).rf.b0;have bS:=C.o.ct.ok;have hK:=C.o.ct.sz;have bO:=C.o.ct.hc;have hV:=C.o.ne;clear h hj hq bT bN;go_enter func62,ntmps62;go_upto_region 1 with fail;generalize w.alloc (.cells #[.pointer (some ⟨t.cb,0,none⟩),.pointer (some ⟨t.rb,0,none⟩)] 96)=W at*;go_wp2_with fail;refine(JU (aI:=aI) C.o.ct).mono ?_;rintro e w1 ⟨vt,rfl,aR,Y,U⟩;have eO:=U.size;have y1:=(LK (w:=W) (a:=⟨w.heap.size,1,none⟩) (U.block w.heap.size hR (λ e=>by injection e;omega))).trans x1;have X:=fV (C.o.rf.blocks (w':=w1) (λ k h1 h2=>U.block k (by omega) (λ e=>by injection e;omega)) eO);have Q:=fV aR;have V:=fV Y;have I:=fV U;have hB:QQ (∀k,vt.ownBlock=some k->W.heap.size<=k):=λ k J=>(aR.lt k J).1
 clear aR Y U x0 x1;obtain⟨va,vc,hP⟩:=gA Q.o;subst hP;go_wp2_with fail;refine(Xn (aI:=aI) X.o bS hK bO).mono ?_;rintro e w2 ⟨vm,rfl,aT,aO,D⟩;have eR:=D.size;obtain⟨ma,mc,hN⟩:=gA aT;subst hN;have hM:=FH t.s aI t.c bS bO;have cF:=iH (w':=w2) Q.o (λ k J=>D.block k (Q.o.lt k J).2 (λ e=>by injection e with e;have:=(Q.o.lt k J).1;omega));have Z:=V.o.blocks (w':=w2) (λ k h1 h2=>D.block k (by omega) (λ e=>by injection e with e;have:=C.o.rf.b1;omega)) eR;have cP:=HP.o.swap (w':=w2) (t':= {t with c:=IP t.s aI t.c}) HJ.o rfl (LU eO eR) (λ k J h0 h1=>by
  have a1:=C.o.o1 t.cb C.o.ct.b1 lR;have a2:=C.o.o2 t.rb C.o.rf.b1.2.2 lR;exact(D.block k (by omega) (λ e=>by injection e with e;subst e;exact h1 a2)).trans (I.o.block k J (λ e=>by injection e with e;subst e;exact h1 a1))) ⟨Z,aO,C.o.o1,C.o.o2,C.o.ne⟩ ⟨rfl,rfl⟩
 have hC:=fV cP;have bK:=fV cF;have bC:=fV aT;have bM:QQ (∀z,QY LG 12 #[.slice va (Je t.s aI t.c).length vc,.slice ma (Je t.s aI t.c).length mc] (w2.drewN z) λ e w'=>e=.returned (.bool true)/\∃y,w'=(w2.drewN z).drewN y):=λ z=>by
  have:=R7 (Je t.s aI t.c) (Je t.s aI t.c) _ _ w2.heap.size w2.heap.size (w2.drewN z) (by omega) (by omega) ⟨(mX bK.o).sh⟩ ⟨(mX bC.o).sh⟩;rw[D3]at this;exact this
 have eX:QQ (Below B w w2):=by
  have l1:=C.o.ct.b1;have l2:=C.o.rf.b1;obtain⟨l3,l4⟩:=HP.o.cl j t HJ.o;have a1:Below B W w1:=⟨I.o.os,I.o.tape,I.o.output,I.o.size,λ k J=>I.o.block k (by omega) (λ e=>by injection e with e;omega)⟩
  have a2:Below B w1 w2:=⟨D.os,D.tape,D.output,D.size,λ k J=>D.block k (by omega) (λ e=>by injection e with e;omega)⟩
  exact((aW.o.mono (MC hJ)).trans a1).trans a2
 clear cF Z cP aT aO D y1 I V X Q bC;have hE:((DA aI)==(DA aI))=true:=by simp
 have hA:=fV hM;have hF:QQ (∀k,(LI va (Je t.s aI t.c).length vc).ownBlock=some k->O k=0):=λ k J=>HP.o.fr k (hB.o k J)
 obtain⟨N,eN⟩:=xE ((Je t.s aI t.c).length)
 rw[eN]at bM;go_wp2_with (first
  | (go_at_call 9;refine(F3 (DA aI) _).mono ?_;rintro e w3 ⟨rfl,eM⟩;rw[eM];clear eM)
  | (go_at_call 12;refine(bM.o 0).mono ?_;rintro e w4 ⟨rfl,ny,hQ⟩))
 have cN:(w2.drewN ny).ownsRow (B+1) 79 3 (.slice va N vc) (Je t.s aI t.c).length (hZ (Je t.s aI t.c)):=by
  have:=oZ bK.o (base':=B+1) (by omega);rw[<-eN];exact this
 have eL:∀k,(LI va N vc).ownBlock=some k->O k=0:=λ k J=>hF.o k (by rw[eN];exact J)
 refine(U4 (hC.o.draw ny) cN eL hA.o gL.o eT.o HQ.o).mono ?_;rintro e w5 ⟨rfl,O5,hS,hG,aL,hL,hH,hI,F,_⟩;have eS:QQ (Below B w w5):=eX.o.trans ⟨F.os,F.tape,F.output,F.size,F.block⟩;have hD:=fV aL;clear aL F cN eL hQ;go_wp2;go_ret;exact⟨rfl,O5,_,hS,hG,_,hD.o,by rw[PC],hL,hH,hI,eS.o⟩
theorem Zb(c:Int)(n:Nat)(D:JO c)(Q:0<n)(U:n<=6000000000000)(w:tW):
  QY LG 61 #[.int .i64 c,.int .i64 (n:Int)] w λ e w'=>e=.returned (.int .i64 (Ae c n:Int))/\w'=w:=by
 obtain⟨F,I⟩:=D;by_cases h:c<0
 ·obtain⟨k,J⟩:∃k:Nat,c= -(k:Int)-1:=⟨(-(c+1)).toNat,by omega⟩
  subst J;have C:QQ (Ae (-(k:Int)-1) n=k%n):=by
   unfold QQ Ae;rw[aB h];congr 1;omega
  have d:decide (-(k:Int)-1<0)=true:=by simp;omega
  clear h;go_enter func61,ntmps61;go_wp2;go_ret;exact⟨by rw[C.o];simp,rfl⟩
 ·obtain⟨k,rfl⟩:∃k:Nat,c=(k:Int):=⟨c.toNat,by omega⟩
  have C:QQ (Ae (k:Int) n=k%n):=by
   unfold QQ Ae;rw[aA h,NC]
  have d:decide ((k:Int)<0)=false:=by simp
  clear h;go_enter func61,ntmps61;go_wp2;go_ret;exact⟨by rw[C.o];simp,rfl⟩
section
def Yy(X:tW):tV->tV
 | .pointer (some a)=> .agg #[(X.cell? ⟨a.block,a.off,none⟩).getD undef,(X.cell? ⟨a.block,a.off+1,none⟩).getD undef]
 | _=>undef
def Ba(X:tW)(v:tV):Prop:=∃B o x y,v=.pointer (some ⟨B,o,none⟩)/\X.cell? ⟨B,o,none⟩=some x/\X.cell? ⟨B,o+1,none⟩=some y
theorem Bf{X:tW}{o:Nat}{x y:tV}(C:X.cell? ⟨B,o,none⟩=some x)(D:X.cell? ⟨B,o+1,none⟩=some y):Yy X (.pointer (some ⟨B,o,none⟩))=.agg #[x,y]:=by
 unfold Yy;simp[C,D]
theorem fT:(Tryz.prog.info? 96).map (λ i=>i.size)=some 2:=by kernel_rfl
theorem dL{d:Option Tmp}{x:Operand}{ty:TypeId}{p:String}{I:Array Edge}{gd:Option (Nat×Bool)}{a:Act}{X:tW}{K:Act->tW->Prop}{Q:Exit->Act->tW->Prop}
  (h:Ba X (a.eval x)):
  Oper.wp LG {dst:=d,op:= .load 96 x,type:=ty,pos:=p,after:=I,guard:=gd} a X K Q=K (a.put d (Yy X (a.eval x))) X:=by
 obtain⟨B,o,u,v,V,D,F⟩:=h;have J:X.rangeAt B o [u,v]:=λ i z C=>by
  rcases i with _|_|i
  ·simp at C;subst C;exact D
  ·simp at C;subst C;exact F
  ·simp at C
 have U:=QW (P:=LG) X B o 96 [u,v] _ J underlying96 rfl fT;unfold Oper.wp execOp;simp only[V,Instr.loadAt,Instr.sureAddr,Sem.run_bind,Sem.run_pure,Result.andThen_ok,U,Bf D F]
 rfl
attribute [local go_sem ↓] Go.wp_at_zero Go.wp_at_succ dL
end
theorem BS(w:tW)(ty:TypeId)(aH:Nat)(v:tV)(n:Nat)(xs:List tV)(D:w.ownsRow aH 79 3 v n xs)
  (Y:Addr) (c:Nat) (o:List tV) (hl:o.length=3) (F:∀j u,o[j]?=some u->w.cell? (Y.add j)=some u) (h1:∀u∈o,u.oneCell'=true) (hn:n<=2000) (Q:aH<=w.heap.size):
  ∃g aJ w',(Builtin.append_ #[29,29] ty #[v,.slice (some Y) 1 c]).run LG w=.ok (.slice (some ⟨g,0,none⟩) (n+1) aJ) w'/\
   w'.ownsRow aH 79 3 (.slice (some ⟨g,0,none⟩) (n+1) aJ) (n+1) (xs++o)/\w.grownBy w' v.ownBlock/\(v.ownBlock=some g\/(g=w.heap.size/\w.grownBy w' none))/\g<w'.heap.size:=by
 obtain⟨i,hi,hz,C,aL⟩:=QU cJ;obtain⟨g,aJ,w',hr,h2,h3,h4,h5⟩:=run_append_lies (P:=LG) w 29 ty aH 79 i _ 3 24 OC hi hz C aL rfl (by decide) v n xs D Y 1 c o (by omega) F h1 (by omega) (by unfold QX;omega) (by omega) Q w.heap.size rfl;refine⟨g,aJ,w',hr,h2,h3,?_,h5⟩;rcases h4 with h4|h4
 ·exact .inl h4
 ·right;refine⟨h4,?_⟩;rcases D.2 with⟨rfl,rfl⟩|⟨X,I,Z,rfl,aW,hg,bM,bC,aR,aT⟩
  ·exact h3
  ·have bK:X<w.heap.size:=(D.lt X rfl).2;by_cases V:n+1<=I
   ·exfalso;have aO:n*i.size+o.length<=Z.size:=by rw[hl,aR,C];omega
    have J:=run_append_room (P:=LG) w 29 ty 79 i OC hi X n I Z hg Y 1 c o (by rw[hl,C]) F h1 V aO;rw[hr]at J;injection J with e1 e2;injection e1 with e3 e4;injection e3 with e5;injection e5 with e6;omega
   ·have U:∀j u,xs[j]?=some u->w.cell? ((⟨X,0,none⟩:Addr).add j)=some u:=D.cells (g:=X) rfl;have J:=run_append_grow (P:=LG) w 29 ty 79 i _ OC hi hz ⟨X,0,none⟩ n I xs (by rw[C];exact D.1) U Y 1 c o (by rw[hl,C]) F (by omega) (by omega) (growslice_fits (by omega) (by rw[aL];omega));rw[hr]at J;injection J with e1 e2;rw[e2];exact⟨rfl,rfl,rfl,by simp,λ k hk _=>MD w.drew _ k hk⟩
theorem D8(w:tW){ops:Array Oper}{rest:List Oper}{o:Oper}{a:Act}{Q:Exit->Act->tW->Prop}(V:o.guard=none)(s x:Operand)
  (ho:o.op=.call {callee:= .builtin .append,args:= #[s,x],argTypes:= #[29,29]})
  (aH:Nat) (v:tV) (n:Nat) (xs:List tV) (hs:a.eval s=v) (J:w.ownsRow aH 79 3 v n xs) (C D F:tV) (Z:C.oneCell'=true) (h1:D.oneCell'=true) (h2:F.oneCell'=true)
  (hx:a.eval x=.slice (some ⟨w.heap.size,0,none⟩) 1 1) (hn:n<=2000) (U:aH<=w.heap.size)
  (h:∀g aJ w',w'.ownsRow aH 79 3 (.slice (some ⟨g,0,none⟩) (n+1) aJ) (n+1) (xs++[C,D,F])->(w.alloc (.cells #[C,D,F] 79)).grownBy w' v.ownBlock->(v.ownBlock=some g\/(g=w.heap.size+1/\(w.alloc (.cells #[C,D,F] 79)).grownBy w' none))->g<w'.heap.size->
   wpList LG ops Q rest (a.put o.dst (.slice (some ⟨g,0,none⟩) (n+1) aJ)) w'):wpList LG ops Q (o::rest) a (w.alloc (.cells #[C,D,F] 79)):=by
 have I:∀j u,[C,D,F][j]?=some u->(w.alloc (.cells #[C,D,F] 79)).cell? ((⟨w.heap.size,0,none⟩:Addr).add j)=some u:=by
  have:=World.news_of_block (w:=w.alloc (.cells #[C,D,F] 79)) (B:=w.heap.size) (cs:= #[C,D,F]) (t:=79) (fr:=(0,0)) (heap_alloc_new w _);simpa using this
 obtain⟨g,aJ,w',hr,k2,k3,k4,k5⟩:=BS (w.alloc (.cells #[C,D,F] 79)) o.type aH v n xs (J.alloc _) ⟨w.heap.size,0,none⟩ 1 [C,D,F] rfl I (by intro u X;simp only[List.mem_cons,OZ,or_false]at X;rcases X with rfl|rfl|rfl;exact Z;exact h1;exact h2) hn (by simp;omega);refine wpList_plain V λ K hK=>?_
 unfold Oper.wp execOp;simp only[ho,resolve,invoke,builtin,Sem.run_bind,Sem.run_pure,Result.andThen_ok,OY,PF,PH,hs,hx,hr];refine hK _ _ (h g aJ w' k2 k3 ?_ k5);rcases k4 with e|⟨e,Y⟩
 ·exact .inl e
 ·exact .inr ⟨e.trans (by simp),Y⟩
section
variable {B p q:Nat}{w w':tW}{O O':Nat->Nat}{cs:List wX}{vb:Nat->tV}{bc:Nat->List tV}{T:Nat->List (Int×Int×Int)}
theorem Du{w:tW}{xs:List tV}(h:w.ownsRow aH e size (.slice (some ⟨g,0,none⟩) n aJ) n xs)(i:Nat)(u:tV):(w.setCell ⟨g,i,none⟩ u).ownsRow aH e size (.slice (some ⟨g,0,none⟩) n aJ) n (xs.set i u):=by
 refine⟨by rw[PC];exact h.1,?_⟩;rcases h.2 with⟨V,_⟩|⟨X,Q,o,U,C,hg,I,D,F,J⟩
 ·cases V
 ·cases U
  refine .inr ⟨g,aJ,o.setIfInBounds i u,rfl,C,?_,I,D,by rw[Array.size_setIfInBounds];exact F,?_⟩
  ·unfold ME;simp only[Array.getElem?_modify,hg];simp
  ·rw[Array.toList_setIfInBounds,List.take_set,J]
theorem PI.free(h:PI B p w O cs vb bc q T){j:Nat}(Y:j<q):PI B p w (λ k=>if O k=17+4*j then 0 else O k) cs vb bc q T:=by
 have e:∀k,O k≠17+4*j->(if O k=17+4*j then 0 else O k)=O k:=λ k C=>aA C
 obtain⟨X,Q⟩:=h.wt;exact⟨h.wb,h.wz,⟨(e B (by omega)).trans X,Q⟩,h.b0,h.bk,λ f k J C=>(e k (by have:=h.bt f k J C;omega)).trans (h.bt f k J C),
  λ f i v U V hi D=>(h.mm f i v U V hi D).keep lR (λ k _ I=>⟨rfl,e k (by omega)⟩),
  λ F v o D=>(h.wa F v o D).keep (λ k _ I=>⟨rfl,e k (by omega)⟩),λ F v o D=>(h.we F v o D).keep (λ k _ I=>⟨rfl,e k (by omega)⟩),
  λ F t o=>(h.cu F t o).keep lR (λ k _ I=>⟨rfl,e k (by omega)⟩),λ k C=>(by have:=h.fr k C;simp only[this];simp),h.cl⟩
theorem PI.later(h:PI B p w O cs vb bc q T){C:Nat}(F:q<=C):PI B p w O cs vb bc C T:=
 ⟨h.wb,h.wz,h.wt,h.b0,h.bk,h.bt,h.mm,λ j v D o=>h.wa j v (by omega) o,λ j v D o=>h.we j v (by omega) o,h.cu,h.fr,h.cl⟩
theorem PI.raise(h:PI B p w O cs vb bc q T)(F:∀f v,1<=f->f<=4->(bc f)[p]?=some v->MK w O p v):PI B (p+1) w O cs vb bc q T:=
 ⟨h.wb,h.wz,h.wt,h.b0,h.bk,h.bt,λ f i v o C hi D=>by
  by_cases e:i=p
  ·subst e;exact F f v o C D
  ·exact h.mm f i v o C (by omega) D,h.wa,h.we,h.cu,h.fr,h.cl⟩
def MX(p n:Nat)(xs:List tV):Prop:=∀k,k<n->xs[k*3]?=some (.int .i64 (-9))/\xs[k*3+1]?=some (.int .i64 (p:Int))/\xs[k*3+2]?=some (.int .i64 (-9))
theorem MX.set{xs:List tV}(h:MX p n xs)(C:n*3+2<xs.length):MX p (n+1) (((xs.set (n*3) (.int .i64 (-9))).set (n*3+1) (.int .i64 (p:Int))).set (n*3+2) (.int .i64 (-9))):=by
 intro k o;by_cases e:k=n
 ·subst e;refine⟨?_,?_,?_⟩
  ·rw[LS (by omega),LS (by omega),ND (by omega)]
  ·rw[LS (by omega),ND (by simp;omega)]
  ·rw[ND (by simp;omega)]
 ·obtain⟨a,b,c⟩:=h k (by omega);refine⟨?_,?_,?_⟩
  ·rw[LS (by omega),LS (by omega),LS (by omega)];exact a
  ·rw[LS (by omega),LS (by omega),LS (by omega)];exact b
  ·rw[LS (by omega),LS (by omega),LS (by omega)];exact c
theorem MX.app{xs:List tV}(h:MX p n xs)(C:xs.length=n*3):MX p (n+1) (xs++[.int .i64 (-9),.int .i64 (p:Int),.int .i64 (-9)]):=by
 intro k o;by_cases e:k=n
 ·subst e;refine⟨?_,?_,?_⟩
  ·rw[MG (by omega),show k*3-xs.length=0 by omega];rfl
  ·rw[MG (by omega),show k*3+1-xs.length=1 by omega];rfl
  ·rw[MG (by omega),show k*3+2-xs.length=2 by omega];rfl
 ·obtain⟨a,b,c⟩:=h k (by omega);refine⟨?_,?_,?_⟩
  ·rw[MR (by omega)];exact a
  ·rw[MR (by omega)];exact b
  ·rw[MR (by omega)];exact c
def FB(w:tW)(S:Nat->Prop)(p m:Nat)(v:tV):Prop:=
 ∃a n aJ,v=.slice a n aJ/\n<=m/\(0<n->∃g,a=some ⟨g,0,none⟩/\g<w.heap.size/\S g/\
  ∀k,k<n->w.cell? ⟨g,k*3,none⟩=some (.int .i64 (-9))/\w.cell? ⟨g,k*3+1,none⟩=some (.int .i64 (p:Int))/\w.cell? ⟨g,k*3+2,none⟩=some (.int .i64 (-9)))
theorem Mh{w:tW}{xs:List tV}(h:w.ownsRow aH 79 3 (.slice (some ⟨g,0,none⟩) n aJ) n xs){m:Nat}(D:MX p m xs):∀k,k<m->w.cell? ⟨g,k*3,none⟩=some (.int .i64 (-9))/\w.cell? ⟨g,k*3+1,none⟩=some (.int .i64 (p:Int))/\w.cell? ⟨g,k*3+2,none⟩=some (.int .i64 (-9)):=λ k C=>by
 obtain⟨a,b,c⟩:=D k C;have o:∀i,(⟨g,0,none⟩:Addr).add i=⟨g,i,none⟩:=λ i=>by unfold Addr.add;split<;>simp_all
 have x:=h.cells rfl _ _ a;have y:=h.cells rfl _ _ b;have z:=h.cells rfl _ _ c;rw[o]at x y z;exact⟨x,y,z⟩
theorem FB.of{w:tW}{v:tV}{xs:List tV}(h:w.ownsRow aH 79 3 v n xs)(F:MX p n xs):FB w (λ k=>v.ownBlock=some k) p n v:=by
 obtain⟨a,aJ,e⟩:=gA h;refine⟨a,n,aJ,e,lR,λ I=>?_⟩;obtain⟨g,o,C,_,hg⟩:=h.form I;subst C;injection e with D J Q;subst D;exact⟨g,rfl,hg,rfl,Mh h F⟩
theorem FB.more{S S':Nat->Prop}{o:Nat}{v:tV}(h:FB w S p m v)(F:∀k,S k->S' k)(U:m<=o):FB w S' p o v:=by
 obtain⟨a,n,aJ,e,V,D⟩:=h;exact⟨a,n,aJ,e,by omega,λ J=>by obtain⟨g,C,hg,Q,I⟩:=D J;exact⟨g,C,hg,F g Q,I⟩⟩
theorem FB.keep{S:Nat->Prop}{v:tV}(h:FB w S p m v)(X:w.heap.size<=w'.heap.size)(I:∀k,k<w.heap.size->S k->w'.heap[k]?=w.heap[k]?):FB w' S p m v:=by
 obtain⟨a,n,aJ,e,U,F⟩:=h;refine⟨a,n,aJ,e,U,λ V=>?_⟩;obtain⟨g,D,hg,C,J⟩:=F V;have o:=I g hg C;refine⟨g,D,LH hg X,C,λ k Q=>?_⟩;obtain⟨x,y,z⟩:=J k Q;exact⟨(LK (w:=w) (a:=⟨g,k*3,none⟩) o).trans x,(LK (w:=w) (a:=⟨g,k*3+1,none⟩) o).trans y,(LK (w:=w) (a:=⟨g,k*3+2,none⟩) o).trans z⟩
theorem FB.app{S:Nat->Prop}{v x:tV}{o:Obj}{xs:List tV}(h:FB w S p m v)(aL:m<=n)(I:(w.alloc o).grownBy w' x.ownBlock)(C:x.ownBlock=some g\/(g=w.heap.size+1/\(w.alloc o).grownBy w' none))
  (J:w'.ownsRow aH 79 3 (.slice (some ⟨g,0,none⟩) n aJ) n xs) (hm:MX p n xs):FB w' S p m v:=by
 have hz:=I.size;have ez:(w.alloc o).heap.size=w.heap.size+1:=by simp
 rcases C with C|⟨_,C⟩
 ·obtain⟨a,k0,F,e,hn,Y⟩:=h;refine⟨a,k0,F,e,hn,λ hp=>?_⟩;obtain⟨D,X,hg,hs,Z⟩:=Y hp;refine⟨D,X,by omega,hs,λ k U=>?_⟩;by_cases V:D=g
  ·subst V;exact Mh J hm k (by omega)
  ·have Q:w'.heap[D]?=w.heap[D]? :=(I.block D (by omega) (λ e=>V (by rw[C]at e;injection e))).trans (MD w o D hg);obtain⟨x,y,z⟩:=Z k U;exact⟨(LK (w:=w) (a:=⟨D,k*3,none⟩) Q).trans x,(LK (w:=w) (a:=⟨D,k*3+1,none⟩) Q).trans y,(LK (w:=w) (a:=⟨D,k*3+2,none⟩) Q).trans z⟩
 ·exact h.keep (by omega) (λ k U _=>(C.block k (by omega) (by simp)).trans (MD w o k U))
structure OW(w0:tW)(B p q:Nat)(w:tW)(O:Nat->Nat)(cs:List wX)(vb:Nat->tV)(bc:Nat->List tV)(T:Nat->List (Int×Int×Int)):Prop where
 pi:PI B p w O cs vb bc q T
 m0:w.cell? ⟨w0.heap.size,0,none⟩=some (.int .i64 (-9))
 m1:w.cell? ⟨w0.heap.size,1,none⟩=some (.int .i64 (p:Int))
 m2:w.cell? ⟨w0.heap.size,2,none⟩=some (.int .i64 (-9))
 bl:Below B w0 w
 lt:w0.heap.size<w.heap.size
 lo:B<w0.heap.size
 fo:O w0.heap.size=0
theorem OW.keep{w0:tW}(h:OW w0 B p q w O cs vb bc T)(I:w'.os=w.os)(J:w'.tape=w.tape)(C:w'.output=w.output)(Q:w.heap.size<=w'.heap.size)(F:∀k,k<w.heap.size->(O k≠0\/k=w0.heap.size\/k<B)->w'.heap[k]?=w.heap[k]?):OW w0 B p q w' O cs vb bc T:=by
 have V:=h.lt;have D:=F w0.heap.size h.lt (.inr (.inl rfl));have lo:=h.lo;exact⟨h.pi.keep Q (λ k o U=>⟨F k o (.inl U),rfl⟩) (λ k o=>h.pi.fr k (by omega)),(LK (w:=w) (a:=⟨w0.heap.size,0,none⟩) D).trans h.m0,(LK (w:=w) (a:=⟨w0.heap.size,1,none⟩) D).trans h.m1,(LK (w:=w) (a:=⟨w0.heap.size,2,none⟩) D).trans h.m2,
  ⟨I.trans h.bl.os,J.trans h.bl.tape,C.trans h.bl.output,LU h.bl.size Q,λ k o=>(F k (by omega) (.inr (.inr o))).trans (h.bl.block k o)⟩,by omega,lo,h.fo⟩
theorem OW.app{w0:tW}{x:tV}{o:Obj}(h:OW w0 B p q w O cs vb bc T)(I:∀k,x.ownBlock=some k->O k=0/\k≠w0.heap.size/\B<=k)(C:(w.alloc o).grownBy w' x.ownBlock):OW w0 B p q w' O cs vb bc T:=by
 have Q:=C.size;have J:(w.alloc o).heap.size=w.heap.size+1:=by simp
 refine h.keep C.os C.tape C.output (by omega) (λ k F D=>(C.block k (by omega) (λ e=>?_)).trans (MD w o k F));obtain⟨a,b,c⟩:=I k e.symm;rcases D with D|D|D
 ·exact D a
 ·exact b D
 ·omega
theorem OW.push{w0:tW}(h:OW w0 B p q w O cs vb bc T){f:Nat}(h1:1<=f)(h2:f<=4){w4:tW}{o:Obj}{g aJ n:Nat}{v vf:tV}
  (hn:(bc f).length=n) (hp:p<=n) (V:vb f=vf) (U:w4.ownsRow (B+1) 29 1 (.slice (some ⟨g,0,none⟩) (n+1) aJ) (n+1) (bc f++[v]))
  (F:(w.alloc o).grownBy w4 vf.ownBlock) (Q:vf.ownBlock=some g\/g=w.heap.size+1):
  OW w0 B p q (w4.setCell ⟨B,f,none⟩ (.slice (some ⟨g,0,none⟩) (n+1) aJ)) (λ k=>if k=g then 2+f else O k) cs (Y1 vb f (.slice (some ⟨g,0,none⟩) (n+1) aJ)) (Y1 bc f (bc f++[v])) T/\
  ∀k,k<w.heap.size->O k=0->(w4.setCell ⟨B,f,none⟩ (.slice (some ⟨g,0,none⟩) (n+1) aJ)).heap[k]?=w.heap[k]? /\(if k=g then 2+f else O k)=0:=by
 have aO:=h.pi.push' (f:=f) h1 (by omega) hn V U F Q (λ _ hh=>absurd hh (by omega)) (λ e=>absurd e (by omega)) (λ e=>absurd e (by omega));have lt:=h.lt;have lo:=h.lo;have hz:=F.size;have ez:(w.alloc o).heap.size=w.heap.size+1:=by simp
 have I:∀k,vf.ownBlock=some k->O k=2+f/\B+1<=k:=λ k D=>by
  subst V;exact⟨h.pi.bt f k (by omega) D,(h.pi.own (f:=f) (by omega) D).1⟩
 have aR:=h.pi.wt;have C:∀k,k<w.heap.size->k≠B->vf.ownBlock≠some k->(w4.setCell ⟨B,f,none⟩ (.slice (some ⟨g,0,none⟩) (n+1) aJ)).heap[k]?=w.heap[k]? :=λ k D Z aL=>(iC w4 B f _ Z).trans ((F.block k (by omega) (λ e=>aL e.symm)).trans (MD w o k D))
 have J:∀k,k<w.heap.size->O k=0->k≠g:=λ k D X e=>by
  rcases Q with e2|e2
  ·have:=(I g e2).1;rw[<-e]at this;omega
  ·omega
 have Y:=C w0.heap.size lt (by omega) (λ e=>by have:=(I _ e).1;have:=h.fo;omega);refine⟨⟨aO,(LK (w:=w) (a:=⟨w0.heap.size,0,none⟩) Y).trans h.m0,(LK (w:=w) (a:=⟨w0.heap.size,1,none⟩) Y).trans h.m1,(LK (w:=w) (a:=⟨w0.heap.size,2,none⟩) Y).trans h.m2,?_,?_,lo,?_⟩,λ k D X=>⟨C k D (λ e=>by rw[e]at X;omega) (λ e=>by have:=(I _ e).1;omega),?_⟩⟩
 ·exact(h.bl.trans (yX F (λ k D=>by have:=(I k D).2;omega) (by omega))).setCell (p:=⟨B,f,none⟩) lR _
 ·have:(w4.setCell ⟨B,f,none⟩ (.slice (some ⟨g,0,none⟩) (n+1) aJ)).heap.size=w4.heap.size:=by simp[ME]
  omega
 ·simp only[aA (J _ lt h.fo)];exact h.fo
 ·simp only[aA (J k D X)];exact X
end
theorem C9{w:tW}{xs:List tV}(h:w.ownsRow aH e size (.slice (some ⟨g,0,none⟩) n aJ) n xs)(i:Nat):w.frozen? ⟨g,i,none⟩=false:=by
 rcases h.2 with⟨I,_⟩|⟨J,o,C,F,D,hg,_⟩
 ·cases I
 ·cases F
  unfold World.frozen?;simp only[hg];simp
theorem OW.aK{w0:tW}{w:tW}{O:Nat->Nat}{cs:List wX}{vb:Nat->tV}{bc:Nat->List tV}{T:Nat->List (Int×Int×Int)}(h:OW w0 B p q w O cs vb bc T){v1 v2 v3 v4:tV}{S:Nat->Prop}
  (J:∀k,S k->v1.ownBlock=some k\/v2.ownBlock=some k\/v3.ownBlock=some k\/v4.ownBlock=some k) (o:∀k,(v1.ownBlock=some k\/v2.ownBlock=some k\/v3.ownBlock=some k\/v4.ownBlock=some k)->O k=0/\k<w.heap.size)
  (Q:∀f v,1<=f->f<=4->(bc f)[p]?=some v->FB w S p 2000 v):∃O',PI B (p+1) w O' cs vb bc q T:=by
 refine⟨λ k=>if(v1.ownBlock=some k\/v2.ownBlock=some k\/v3.ownBlock=some k\/v4.ownBlock=some k)then 16+4*p else O k,?_⟩;refine(h.pi.keep (O':=λ k=>if(v1.ownBlock=some k\/v2.ownBlock=some k\/v3.ownBlock=some k\/v4.ownBlock=some k)then 16+4*p else O k) lR (λ k _ C=>⟨rfl,aA (λ e=>C (o k e).1)⟩) (λ k V=>?_)).raise (λ f v F I hv=>?_)
 ·have:¬(v1.ownBlock=some k\/v2.ownBlock=some k\/v3.ownBlock=some k\/v4.ownBlock=some k):=λ e=>by have:=(o k e).2;omega
  simp only[aA this];exact h.pi.fr k V
 ·obtain⟨a,n,aJ,e,X,C⟩:=Q f v F I hv;refine⟨a,n,aJ,e,X,λ Y=>?_⟩;obtain⟨g,D,hg,Z,U⟩:=C Y;exact⟨g,D,hg,aB (J g Z),U⟩
def KL(B p q:Nat)(w:tW)(cs:List wX)(bc:Nat->List tV)(T:Nat->List (Int×Int×Int))(e:Ending)(w':tW):Prop:=
 e=.returned (.tuple #[])/\∃O' C o,PI B (p+1) w' O' cs C o q T/\(∀f,1<=f->f<=4->(o f).length=p+1)/\o 5=bc 5/\o 6=bc 6/\Below B w w'
theorem v6{w:tW}{O:Nat->Nat}{cs:List wX}{vb:Nat->tV}{bc:Nat->List tV}{T:Nat->List (Int×Int×Int)}(h:PI B p w O cs vb bc q T){v:tV}{L:List (Int×Int×Int)}{j:Nat}
  (hv:w.ownsRow (B+1) 79 3 v L.length (hZ L)) (c8:∀k,v.ownBlock=some k->O k=17+4*j) (hj:j<q) (hL:L.length<=1000) (O6:∀f,1<=f->f<=4->(bc f).length=p) (t4:p<=5864062014800):
  QY LG 63 #[.pointer (some ⟨B,0,none⟩),v] w (KL B p q w cs bc T):=by
 have m3:=h.wt.2;have m7:=h.fr w.heap.size lR;obtain⟨O0,eO⟩:∃O0:Nat->Nat,O0=λ k=>if O k=17+4*j then 0 else O k:=⟨_,rfl⟩
 have H0:QQ (∀k,v.ownBlock=some k->O0 k=0/\k≠w.heap.size/\B<=k):=λ k C=>by
  have:=hv.lt k C;refine⟨?_,by omega,by omega⟩;rw[eO];exact aB (c8 k C)
 have m4:O0 w.heap.size=0:=by rw[eO];simp only[m7];simp
 have h0:=h.free hj;rw[<-eO]at h0;have m6:=h0.bk 1 (by omega) (by omega);have c1:=h0.wb 1 (by omega);obtain⟨a1,k1,e1⟩:=gA m6;rw[O6 1 (by omega) (by omega)]at e1;rw[e1]at c1;have h7:Bl w (w.alloc (.cells #[.int .i64 (-9),.int .i64 (p:Int),.int .i64 (-9)] 79)):=bR.alloc lR _;have g1:QQ (OW w B p q (w.alloc (.cells #[.int .i64 (-9),.int .i64 (p:Int),.int .i64 (-9)] 79)) O0 cs vb bc T):=
  ⟨h0.below h7,(LM _ _ _ 0 rfl).trans rfl,(LM _ _ _ 1 rfl).trans rfl,(LM _ _ _ 2 rfl).trans rfl,h7.mono (MC m3),by simp,m3,m4⟩
 have W8:=fV (hv.alloc (.cells #[.int .i64 (-9),.int .i64 (p:Int),.int .i64 (-9)] 79));have bO:=fV O6;have f5:=fV e1;obtain⟨va,vc,n8⟩:=gA hv;obtain⟨n,en⟩:=xE (L.length)
 rw[en]at W8 n8 hL;subst n8;clear h c8 m7 eO h0 m6 hv h7 O6 e1 m4 en;go_enter func63,ntmps63;go_upto_region 1 with fail;generalize w.alloc (.cells #[.int .i64 (-9),.int .i64 (p:Int),.int .i64 (-9)] 79)=W1 at*;clear c1;go_upto_block 0 with fail
 go_cut [5] from 15 to 24 (λ _ wc=>∃xs,OW w B p q wc O0 cs vb bc T/\wc.ownsRow (B+1) 79 3 (.slice va n vc) n xs/\MX p n xs)
 case first=>
  go_wp2_with fail
  go_loopw [5] (λ ii wr=>∃(k:Nat)(xs:List tV),k<=n/\ii=.int .i64 (k:Int)/\OW w B p q wr O0 cs vb bc T/\wr.ownsRow (B+1) 79 3 (.slice va n vc) n xs/\MX p k xs) (λ ii _=>n-(QP ii).toNat)
  case atStart=>exact⟨0,_,zL,rfl,g1.o,W8.o,λ k C=>absurd C (by omega)⟩
  case round=>
   obtain⟨k,xs,C,rfl,O8,W0,O7⟩:=hrel;have HW:=fV O8;have HR:=fV W0;have HM:=fV O7;clear O8 W0 O7 g1 W8;by_cases p1:k<n
   ·obtain⟨g,r6,ev,_,t0⟩:=HR.o.form (by omega);injection ev with e1 e2 e3;subst e1;have t3:=iI k n (by omega)
    have m0:=HW.o.m0;have m1:=HW.o.m1;have m2:=HW.o.m2;have t5:=HR.o.1;obtain⟨u0,n4⟩:∃u,xs[k*3]?=some u:=⟨_,LN (by omega)⟩
    obtain⟨u1,n6⟩:∃u,xs[k*3+1]?=some u:=⟨_,LN (by omega)⟩
    obtain⟨u2,n7⟩:∃u,xs[k*3+2]?=some u:=⟨_,LN (by omega)⟩
    have b5:∀i,(⟨g,0,none⟩:Addr).add i=⟨g,i,none⟩:=λ i=>by unfold Addr.add;split<;>simp_all
    have x0:=HR.o.cells rfl _ _ n4;have x1:=HR.o.cells rfl _ _ n6;have x2:=HR.o.cells rfl _ _ n7;rw[b5]at x0 x1 x2;have y0:=C9 HR.o (k*3);have y1:=C9 HR.o (k*3+1);have y2:=C9 HR.o (k*3+2);have o3:=fV (Du (Du (Du HR.o (k*3) (.int .i64 (-9))) (k*3+1) (.int .i64 (p:Int))) (k*3+2) (.int .i64 (-9)));have g0:=fV (HM.o.set (by omega));clear b5 n4 n6 n7 e2 e3;have o4:QQ (OW w B p q (((wr.setCell ⟨g,k*3,none⟩ (.int .i64 (-9))).setCell ⟨g,k*3+1,none⟩ (.int .i64 (p:Int))).setCell ⟨g,k*3+2,none⟩ (.int .i64 (-9))) O0 cs vb bc T):=by
     obtain⟨f1,f2,f3⟩:=H0.o g rfl;refine HW.o.keep rfl rfl rfl (by simp[ME]) (λ i hi hc=>?_);have h9:i≠g:=λ e=>by
      subst e;rcases hc with hc|hc|hc
      ·exact hc f1
      ·exact f2 hc
      ·omega
     rw[iC _ g _ _ h9,iC _ g _ _ h9,iC _ g _ _ h9]
    go_wp2;go_roundw
    case rel=>exact⟨k+1,_,p1,by go_num,o4.o,o3.o,g0.o⟩
    case measure=>simp[QP];omega
   ·have dk:=dF k n (by omega)
    have g0:QQ (MX p n xs):=λ i hi=>HM.o i (by omega)
    go_wp2;go_meet
    case rel=>exact⟨xs,HW.o,HR.o,g0.o⟩
 case rest=>
  obtain⟨xs,O8,W0,O7⟩:=hcut;have HW:=fV O8;have HR:=fV W0;have HM:=fV O7;clear O8 W0 O7 g1 W8;have t6:=HW.o.lt;have c1:=HW.o.pi.wb 1 (by omega);have f1:=HW.o.pi.wz 1;have rT:=fV (HW.o.pi.bk 1 (by omega) (by omega));rw[f5.o]at c1 rT;rw[bO.o 1 (by omega) (by omega)]at rT;have f8:QQ (∀k,(LI a1 p k1).ownBlock=some k->B+1<=k):=λ k C=>(rT.o.lt k C).1
  go_upto_region 6 with(first
   | (at_builtin;refine sH wc rfl (.tmp 29) (.tmp 31) 89 rfl (B+1) 29 (.slice none 0 0) 1 24 MS cM rfl (by decide) (by decide) (.slice a1 p k1) p (bc 1) [.slice va n vc] _ rfl rT.o _ rfl rfl rfl (by simp[MA]) (by omega) (by omega) ?_;intro g5 H4 w5 P0 cF b6 r7;have m5:=((gH cF (k:=B) (show B<wc.heap.size by omega) (λ e=>by have:=f8.o B e.symm;omega)).1 1).trans c1;have n5:=((gH cF (k:=B) (show B<wc.heap.size by omega) (λ e=>by have:=f8.o B e.symm;omega)).2 1).trans f1;have k4:=fV P0;have k2:=fV cF;have j4:=fV b6;clear P0 cF b6))
  obtain⟨i1,h8⟩:=HW.o.push (f:=1) (by omega) (by omega) (bO.o 1 (by omega) (by omega)) lR f5.o k4.o k2.o j4.o;obtain⟨O5,h5⟩:∃O5:Nat->Nat,O5=λ k=>if k=g5 then 2+1 else O0 k:=⟨_,rfl⟩
  rw[<-h5]at i1;have n3:=iH (w':=w5.setCell ⟨B,1,none⟩ (.slice (some ⟨g5,0,none⟩) (p+1) H4)) HR.o (λ k C=>(h8 k (HR.o.lt k C).2 (H0.o k C).1).1);have d0:∀k,(LI va n vc).ownBlock=some k->O5 k=0/\k≠w.heap.size/\B<=k:=λ k C=>⟨by rw[h5];exact(h8 k (HR.o.lt k C).2 (H0.o k C).1).2,(H0.o k C).2⟩
  have hI:=fV i1;have E6:=fV n3;have hQ:=fV d0;clear i1 n3 d0 h8 h5 c1 f1 m5 n5 k4 k2 j4 rT f8 HR H0 HW f5;generalize w5.setCell ⟨B,1,none⟩ (.slice (some ⟨g5,0,none⟩) (p+1) H4)=W5 at*;have m0:=hI.o.m0;have m1:=hI.o.m1;have m2:=hI.o.m2;have v0:=hI.o.lt;go_upto_region 7 with(first
   | (at_builtin;refine D8 W5 rfl (.tmp 35) (.tmp 37) rfl (B+1) (.slice va n vc) n (xs) rfl E6.o (.int .i64 (-9)) (.int .i64 (p:Int)) (.int .i64 (-9)) rfl rfl rfl rfl (by omega) (by omega) ?_;intro g6 D w6 S2 hU c2 r8;have nL:=fV S2;have W6:=fV hU;have f0:=fV c2;clear S2 hU c2))
  have W7:=fV (HM.o.app E6.o.1);have hJ:=fV (hI.o.app hQ.o W6.o);have hR:QQ (∀k,(LI (some ⟨g6,0,none⟩) (n+1) D).ownBlock=some k->O5 k=0/\k≠w.heap.size/\B<=k):=λ k C=>by
   have ek:g6=k:=by simpa[LO]using C
   subst ek;rcases f0.o with e|⟨e,_⟩
   ·exact hQ.o _ e
   ·exact⟨hI.o.pi.fr _ (by omega),by omega,by omega⟩
  have Go:=fV ((FB.of E6.o HM.o).app (by omega) W6.o f0.o nL.o W7.o);have p6:=hJ.o.m0;have q4:=hJ.o.m1;have q7:=hJ.o.m2;have v5:=hJ.o.lt;have k6:QQ (W5.heap.size<=w6.heap.size):=by have:=W6.o.size;simp at this;unfold QQ;omega
  clear m0 m1 m2 W6 f0;go_upto_region 8 with(first
   | (at_builtin;refine D8 w6 rfl (.tmp 39) (.tmp 41) rfl (B+1) (.slice (some ⟨g6,0,none⟩) (n+1) D) (n+1) (xs++[.int .i64 (-9),.int .i64 (p:Int),.int .i64 (-9)]) rfl nL.o (.int .i64 (-9)) (.int .i64 (p:Int)) (.int .i64 (-9)) rfl rfl rfl rfl (by omega) (by omega) ?_;intro g7 J w7 S5 hV c3 s0;have hH:=fV S5;have A2:=fV hV;have W4:=fV c3;clear S5 hV c3))
  have B1:=fV (W7.o.app nL.o.1);have hK:=fV (hJ.o.app hR.o A2.o);have hS:QQ (∀k,(LI (some ⟨g7,0,none⟩) ((n+1)+1) J).ownBlock=some k->O5 k=0/\k≠w.heap.size/\B<=k):=λ k C=>by
   have ek:g7=k:=by simpa[LO]using C
   subst ek;rcases W4.o with e|⟨e,_⟩
   ·exact hR.o _ e
   ·exact⟨hJ.o.pi.fr _ (by omega),by omega,by omega⟩
  have Ha:=fV (Go.o.app (by omega) A2.o W4.o hH.o B1.o);have rL:=fV ((FB.of nL.o W7.o).app (by omega) A2.o W4.o hH.o B1.o);have q0:=hK.o.m0;have q5:=hK.o.m1;have r0:=hK.o.m2;have v9:=hK.o.lt;have k7:QQ (w6.heap.size<=w7.heap.size):=by have:=A2.o.size;simp at this;unfold QQ;omega
  clear p6 q4 q7 A2 W4;go_upto_region 9 with(first
   | (at_builtin;refine D8 w7 rfl (.tmp 43) (.tmp 45) rfl (B+1) (.slice (some ⟨g7,0,none⟩) ((n+1)+1) J) (n+1+1) (xs++[.int .i64 (-9),.int .i64 (p:Int),.int .i64 (-9)]++[.int .i64 (-9),.int .i64 (p:Int),.int .i64 (-9)]) rfl hH.o (.int .i64 (-9)) (.int .i64 (p:Int)) (.int .i64 (-9)) rfl rfl rfl rfl (by omega) (by omega) ?_;intro g8 V w8 T2 hW c4 s1;have nN:=fV T2;have iN:=fV hW;have rO:=fV c4;clear T2 hW c4))
  have B2:=fV (B1.o.app hH.o.1);have cP:=fV (hK.o.app hS.o iN.o);have a8:QQ (∀k,(LI (some ⟨g8,0,none⟩) ((n+1+1)+1) V).ownBlock=some k->O5 k=0/\k≠w.heap.size/\B<=k):=λ k C=>by
   have ek:g8=k:=by simpa[LO]using C
   subst ek;rcases rO.o with e|⟨e,_⟩
   ·exact hS.o _ e
   ·exact⟨hK.o.pi.fr _ (by omega),by omega,by omega⟩
  have j3:=fV (Ha.o.app (by omega) iN.o rO.o nN.o B2.o);have e5:=fV (rL.o.app (by omega) iN.o rO.o nN.o B2.o);have e6:=fV ((FB.of hH.o B1.o).app (by omega) iN.o rO.o nN.o B2.o);have q1:=cP.o.m0;have q6:=cP.o.m1;have r1:=cP.o.m2;have w3:=cP.o.lt;have H2:QQ (w7.heap.size<=w8.heap.size):=by have:=iN.o.size;simp at this;unfold QQ;omega
  have H1:QQ (w6.heap.size<=w8.heap.size):=LU k7.o H2.o;have b1:QQ (W5.heap.size<=w8.heap.size):=LU k6.o H1.o;clear q0 q5 r0 iN rO;have e7:=fV (FB.of nN.o B2.o);obtain⟨r4,b3⟩:∃x:Nat->tV,x=Y1 vb 1 (.slice (some ⟨g5,0,none⟩) (p+1) H4):=⟨_,rfl⟩
  obtain⟨qR,hT⟩:∃x:Nat->List tV,x=Y1 bc 1 (bc 1++[.slice va n vc]):=⟨_,rfl⟩
  rw[<-b3,<-hT]at cP;have tO:QQ (∀f,f≠1->qR f=bc f):=λ f hf=>by rw[hT];exact gZ _ _ hf
  have gL:QQ (qR 1=bc 1++[.slice va n vc]):=by unfold QQ;rw[hT,iY]
  have X:QQ (∀k,(LI va n vc).ownBlock=some k->O5 k=0/\k<w8.heap.size):=λ k C=>⟨(hQ.o k C).1,LH (E6.o.lt k C).2 b1.o⟩
  have Y:QQ (∀k,(LI (some ⟨g6,0,none⟩) (n+1) D).ownBlock=some k->O5 k=0/\k<w8.heap.size):=λ k C=>⟨(hR.o k C).1,LH (nL.o.lt k C).2 H1.o⟩
  have Z:QQ (∀k,(LI (some ⟨g7,0,none⟩) (n+1+1) J).ownBlock=some k->O5 k=0/\k<w8.heap.size):=λ k C=>⟨(hS.o k C).1,LH (hH.o.lt k C).2 H2.o⟩
  have aL:QQ (∀k,(LI (some ⟨g8,0,none⟩) (n+1+1+1) V).ownBlock=some k->O5 k=0/\k<w8.heap.size):=λ k C=>⟨(a8.o k C).1,(nN.o.lt k C).2⟩
  clear b3 hT q1 q6 r1 hQ hR hS a8 E6 nL hH nN HM W7 B1 B2 hI hJ hK Go Ha rL b1 H1 H2;have O3:=cP.o.pi.bk 2 (by omega) (by omega);have c9:=cP.o.pi.wb 2 (by omega);have f9:=cP.o.pi.wz 2;obtain⟨a9,k9,e9⟩:=gA O3;have l9:(qR 2).length=p:=by rw[tO.o 2 (by omega)];exact bO.o 2 (by omega) (by omega)
  rw[l9]at e9 O3;rw[e9]at c9 O3;have f4:=fV O3;have k0:=fV e9;have k3:=fV l9;have A3:QQ (∀k,(LI a9 p k9).ownBlock=some k->B+1<=k):=λ k C=>(f4.o.lt k C).1
  have s3:=cP.o.lt;clear O3 e9 l9;go_upto_region 10 with(first
   | (at_builtin;refine sH w8 rfl (.tmp 51) (.tmp 53) 89 rfl (B+1) 29 (.slice none 0 0) 1 24 MS cM rfl (by decide) (by decide) (.slice a9 p k9) p (qR 2) [.slice (some ⟨g6,0,none⟩) (n+1) D] _ rfl f4.o _ rfl rfl rfl (by simp[MA]) (by omega) (by omega) ?_;intro g9 bK w9 T3 cN c5 s2;have m9:=((gH cN (k:=B) (show B<w8.heap.size by omega) (λ e=>by have:=A3.o B e.symm;omega)).1 2).trans c9;have n9:=((gH cN (k:=B) (show B<w8.heap.size by omega) (λ e=>by have:=A3.o B e.symm;omega)).2 2).trans f9;have k5:=fV T3;have f6:=fV cN;have j5:=fV c5;clear T3 cN c5))
  obtain⟨i2,m8⟩:=cP.o.push (f:=2) (by omega) (by omega) k3.o lR k0.o k5.o f6.o j5.o;obtain⟨O9,h6⟩:∃x:Nat->Nat,x=λ k=>if k=g9 then 2+2 else O5 k:=⟨_,rfl⟩
  obtain⟨r5,b4⟩:∃x:Nat->tV,x=Y1 r4 2 (.slice (some ⟨g9,0,none⟩) (p+1) bK):=⟨_,rfl⟩
  obtain⟨hN,hB⟩:∃x:Nat->List tV,x=Y1 qR 2 (qR 2++[.slice (some ⟨g6,0,none⟩) (n+1) D]):=⟨_,rfl⟩
  rw[<-h6,<-b4,<-hB]at i2;have eT:QQ (∀k,k<w8.heap.size->O5 k=0->(w9.setCell ⟨B,2,none⟩ (.slice (some ⟨g9,0,none⟩) (p+1) bK)).heap[k]?=w8.heap[k]? /\O9 k=0):=λ k F I=>by rw[h6];exact m8 k F I
  have qL:=fV i2;have eX:QQ (w8.heap.size<=(w9.setCell ⟨B,2,none⟩ (.slice (some ⟨g9,0,none⟩) (p+1) bK)).heap.size):=by
   have F:=f6.o.size;have I:(w8.alloc (.cells #[.slice (some ⟨g6,0,none⟩) (n+1) D] 29)).heap.size=w8.heap.size+1:=by simp
   have h3:(w9.setCell ⟨B,2,none⟩ (.slice (some ⟨g9,0,none⟩) (p+1) bK)).heap.size=w9.heap.size:=by simp[ME]
   unfold QQ;have h4:w8.heap.size+1<=w9.heap.size:=by rw[<-I];exact F
   omega
  have i5:=fV (j3.o.keep eX.o (λ k F I=>(eT.o k F (X.o k I).1).1));have j0:=fV (e5.o.keep eX.o (λ k F I=>(eT.o k F (Y.o k I).1).1));have j1:=fV (e6.o.keep eX.o (λ k F I=>(eT.o k F (Z.o k I).1).1));have j2:=fV (e7.o.keep eX.o (λ k F I=>(eT.o k F (aL.o k I).1).1));replace X:QQ (∀k,(LI va n vc).ownBlock=some k->O9 k=0/\k<(w9.setCell ⟨B,2,none⟩ (.slice (some ⟨g9,0,none⟩) (p+1) bK)).heap.size):=λ k C=>⟨(eT.o k (X.o k C).2 (X.o k C).1).2,LH (X.o k C).2 eX.o⟩
  replace Y:QQ (∀k,(LI (some ⟨g6,0,none⟩) (n+1) D).ownBlock=some k->O9 k=0/\k<(w9.setCell ⟨B,2,none⟩ (.slice (some ⟨g9,0,none⟩) (p+1) bK)).heap.size):=λ k C=>⟨(eT.o k (Y.o k C).2 (Y.o k C).1).2,LH (Y.o k C).2 eX.o⟩
  replace Z:QQ (∀k,(LI (some ⟨g7,0,none⟩) (n+1+1) J).ownBlock=some k->O9 k=0/\k<(w9.setCell ⟨B,2,none⟩ (.slice (some ⟨g9,0,none⟩) (p+1) bK)).heap.size):=λ k C=>⟨(eT.o k (Z.o k C).2 (Z.o k C).1).2,LH (Z.o k C).2 eX.o⟩
  replace aL:QQ (∀k,(LI (some ⟨g8,0,none⟩) (n+1+1+1) V).ownBlock=some k->O9 k=0/\k<(w9.setCell ⟨B,2,none⟩ (.slice (some ⟨g9,0,none⟩) (p+1) bK)).heap.size):=λ k C=>⟨(eT.o k (aL.o k C).2 (aL.o k C).1).2,LH (aL.o k C).2 eX.o⟩
  have tT:QQ (∀f,f≠1->f≠2->hN f=bc f):=λ f F I=>by rw[hB,gZ _ _ I];exact tO.o f F
  replace gL:QQ (hN 1=bc 1++[.slice va n vc]):=by unfold QQ;rw[hB,gZ _ _ (by omega)];exact gL.o
  have lH:QQ (hN 2=bc 2++[.slice (some ⟨g6,0,none⟩) (n+1) D]):=by unfold QQ;rw[hB,iY,tO.o 2 (by omega)]
  clear i2 m8 h6 b4 hB c9 f9 m9 n9 k5 f6 j5 f4 k0 k3 A3 eT eX cP;generalize w9.setCell ⟨B,2,none⟩ (.slice (some ⟨g9,0,none⟩) (p+1) bK)=W9 at*;have hC:=qL.o.pi.bk 3 (by omega) (by omega);have g2:=qL.o.pi.wb 3 (by omega);have l3:=qL.o.pi.wz 3;obtain⟨l1,o0,X0⟩:=gA hC;have i3:(hN 3).length=p:=by rw[tT.o 3 (by omega) (by omega)];exact bO.o 3 (by omega) (by omega)
  rw[i3]at X0 hC;rw[X0]at g2 hC;have sR:=fV hC;have a0:=fV X0;have a3:=fV i3;have hF:QQ (∀k,(LI l1 p o0).ownBlock=some k->B+1<=k):=λ k C=>(sR.o.lt k C).1
  have p4:=qL.o.lt;clear hC X0 i3;go_upto_region 11 with(first
   | (at_builtin;refine sH W9 rfl (.tmp 61) (.tmp 63) 89 rfl (B+1) 29 (.slice none 0 0) 1 24 MS cM rfl (by decide) (by decide) (.slice l1 p o0) p (hN 3) [.slice (some ⟨g7,0,none⟩) (n+1+1) J] _ rfl sR.o _ rfl rfl rfl (by simp[MA]) (by omega) (by omega) ?_;intro eL Q eN hX bM N0 p2;have q2:=((gH bM (k:=B) (show B<W9.heap.size by omega) (λ e=>by have:=hF.o B e.symm;omega)).1 3).trans g2;have r2:=((gH bM (k:=B) (show B<W9.heap.size by omega) (λ e=>by have:=hF.o B e.symm;omega)).2 3).trans l3;have a6:=fV hX;have A0:=fV bM;have Hb:=fV N0;clear hX bM N0))
  obtain⟨W2,c6⟩:=qL.o.push (f:=3) (by omega) (by omega) a3.o lR a0.o a6.o A0.o Hb.o;obtain⟨hM,H5⟩:∃x:Nat->Nat,x=λ k=>if k=eL then 2+3 else O9 k:=⟨_,rfl⟩
  obtain⟨o2,L1⟩:∃x:Nat->tV,x=Y1 r5 3 (.slice (some ⟨eL,0,none⟩) (p+1) Q):=⟨_,rfl⟩
  obtain⟨bT,bS⟩:∃x:Nat->List tV,x=Y1 hN 3 (hN 3++[.slice (some ⟨g7,0,none⟩) (n+1+1) J]):=⟨_,rfl⟩
  rw[<-H5,<-L1,<-bS]at W2;have aR:QQ (∀k,k<W9.heap.size->O9 k=0->(eN.setCell ⟨B,3,none⟩ (.slice (some ⟨eL,0,none⟩) (p+1) Q)).heap[k]?=W9.heap[k]? /\hM k=0):=λ k F I=>by rw[H5];exact c6 k F I
  have eS:=fV W2;have aW:QQ (W9.heap.size<=(eN.setCell ⟨B,3,none⟩ (.slice (some ⟨eL,0,none⟩) (p+1) Q)).heap.size):=by
   have F:=A0.o.size;have I:(W9.alloc (.cells #[.slice (some ⟨g7,0,none⟩) (n+1+1) J] 29)).heap.size=W9.heap.size+1:=by simp
   have h3:(eN.setCell ⟨B,3,none⟩ (.slice (some ⟨eL,0,none⟩) (p+1) Q)).heap.size=eN.heap.size:=by simp[ME]
   unfold QQ;have h4:W9.heap.size+1<=eN.heap.size:=by rw[<-I];exact F
   omega
  have d1:=fV (i5.o.keep aW.o (λ k F I=>(aR.o k F (X.o k I).1).1));have d3:=fV (j0.o.keep aW.o (λ k F I=>(aR.o k F (Y.o k I).1).1));have d5:=fV (j1.o.keep aW.o (λ k F I=>(aR.o k F (Z.o k I).1).1));have e0:=fV (j2.o.keep aW.o (λ k F I=>(aR.o k F (aL.o k I).1).1));replace X:QQ (∀k,(LI va n vc).ownBlock=some k->hM k=0/\k<(eN.setCell ⟨B,3,none⟩ (.slice (some ⟨eL,0,none⟩) (p+1) Q)).heap.size):=λ k C=>⟨(aR.o k (X.o k C).2 (X.o k C).1).2,LH (X.o k C).2 aW.o⟩
  replace Y:QQ (∀k,(LI (some ⟨g6,0,none⟩) (n+1) D).ownBlock=some k->hM k=0/\k<(eN.setCell ⟨B,3,none⟩ (.slice (some ⟨eL,0,none⟩) (p+1) Q)).heap.size):=λ k C=>⟨(aR.o k (Y.o k C).2 (Y.o k C).1).2,LH (Y.o k C).2 aW.o⟩
  replace Z:QQ (∀k,(LI (some ⟨g7,0,none⟩) (n+1+1) J).ownBlock=some k->hM k=0/\k<(eN.setCell ⟨B,3,none⟩ (.slice (some ⟨eL,0,none⟩) (p+1) Q)).heap.size):=λ k C=>⟨(aR.o k (Z.o k C).2 (Z.o k C).1).2,LH (Z.o k C).2 aW.o⟩
  replace aL:QQ (∀k,(LI (some ⟨g8,0,none⟩) (n+1+1+1) V).ownBlock=some k->hM k=0/\k<(eN.setCell ⟨B,3,none⟩ (.slice (some ⟨eL,0,none⟩) (p+1) Q)).heap.size):=λ k C=>⟨(aR.o k (aL.o k C).2 (aL.o k C).1).2,LH (aL.o k C).2 aW.o⟩
  have hE:QQ (∀f,f≠1->f≠2->f≠3->bT f=bc f):=λ f F I h3=>by rw[bS,gZ _ _ h3];exact tT.o f F I
  replace gL:QQ (bT 1=bc 1++[.slice va n vc]):=by unfold QQ;rw[bS,gZ _ _ (by omega)];exact gL.o
  replace lH:QQ (bT 2=bc 2++[.slice (some ⟨g6,0,none⟩) (n+1) D]):=by unfold QQ;rw[bS,gZ _ _ (by omega)];exact lH.o
  have hP:QQ (bT 3=bc 3++[.slice (some ⟨g7,0,none⟩) (n+1+1) J]):=by unfold QQ;rw[bS,iY,tT.o 3 (by omega) (by omega)]
  clear W2 c6 H5 L1 bS g2 l3 q2 r2 a6 A0 Hb sR a0 a3 hF aR aW qL;generalize eN.setCell ⟨B,3,none⟩ (.slice (some ⟨eL,0,none⟩) (p+1) Q)=W10 at*;have hD:=eS.o.pi.bk 4 (by omega) (by omega);have g3:=eS.o.pi.wb 4 (by omega);have l4:=eS.o.pi.wz 4;obtain⟨l2,o1,X1⟩:=gA hD;have i4:(bT 4).length=p:=by rw[hE.o 4 (by omega) (by omega) (by omega)];exact bO.o 4 (by omega) (by omega)
  rw[i4]at X1 hD;rw[X1]at g3 hD;have sW:=fV hD;have a2:=fV X1;have a4:=fV i4;have hG:QQ (∀k,(LI l2 p o1).ownBlock=some k->B+1<=k):=λ k C=>(sW.o.lt k C).1
  have p5:=eS.o.lt;clear hD X1 i4;go_wp2_with (first
   | (at_builtin;refine sH W10 rfl (.tmp 71) (.tmp 73) 89 rfl (B+1) 29 (.slice none 0 0) 1 24 MS cM rfl (by decide) (by decide) (.slice l2 p o1) p (bT 4) [.slice (some ⟨g8,0,none⟩) (n+1+1+1) V] _ rfl sW.o _ rfl rfl rfl (by simp[MA]) (by omega) (by omega) ?_;intro eM U eR hY bN N1 p3;have q3:=((gH bN (k:=B) (show B<W10.heap.size by omega) (λ e=>by have:=hG.o B e.symm;omega)).1 4).trans g3;have r3:=((gH bN (k:=B) (show B<W10.heap.size by omega) (λ e=>by have:=hG.o B e.symm;omega)).2 4).trans l4;have a7:=fV hY;have A1:=fV bN;have Pl:=fV N1;clear hY bN N1))
  obtain⟨W3,c7⟩:=eS.o.push (f:=4) (by omega) (by omega) a4.o lR a2.o a7.o A1.o Pl.o;obtain⟨H3,H6⟩:∃x:Nat->Nat,x=λ k=>if k=eM then 2+4 else hM k:=⟨_,rfl⟩
  obtain⟨s5,M2⟩:∃x:Nat->tV,x=Y1 o2 4 (.slice (some ⟨eM,0,none⟩) (p+1) U):=⟨_,rfl⟩
  obtain⟨hA,aO⟩:∃x:Nat->List tV,x=Y1 bT 4 (bT 4++[.slice (some ⟨g8,0,none⟩) (n+1+1+1) V]):=⟨_,rfl⟩
  rw[<-H6,<-M2,<-aO]at W3;have aT:QQ (∀k,k<W10.heap.size->hM k=0->(eR.setCell ⟨B,4,none⟩ (.slice (some ⟨eM,0,none⟩) (p+1) U)).heap[k]?=W10.heap[k]? /\H3 k=0):=λ k F I=>by rw[H6];exact c7 k F I
  have b0:=fV W3;have bC:QQ (W10.heap.size<=(eR.setCell ⟨B,4,none⟩ (.slice (some ⟨eM,0,none⟩) (p+1) U)).heap.size):=by
   have F:=A1.o.size;have I:(W10.alloc (.cells #[.slice (some ⟨g8,0,none⟩) (n+1+1+1) V] 29)).heap.size=W10.heap.size+1:=by simp
   have h3:(eR.setCell ⟨B,4,none⟩ (.slice (some ⟨eM,0,none⟩) (p+1) U)).heap.size=eR.heap.size:=by simp[ME]
   unfold QQ;have h4:W10.heap.size+1<=eR.heap.size:=by rw[<-I];exact F
   omega
  have d2:=fV (d1.o.keep bC.o (λ k F I=>(aT.o k F (X.o k I).1).1));have d4:=fV (d3.o.keep bC.o (λ k F I=>(aT.o k F (Y.o k I).1).1));have d6:=fV (d5.o.keep bC.o (λ k F I=>(aT.o k F (Z.o k I).1).1));have e4:=fV (e0.o.keep bC.o (λ k F I=>(aT.o k F (aL.o k I).1).1));replace X:QQ (∀k,(LI va n vc).ownBlock=some k->H3 k=0/\k<(eR.setCell ⟨B,4,none⟩ (.slice (some ⟨eM,0,none⟩) (p+1) U)).heap.size):=λ k C=>⟨(aT.o k (X.o k C).2 (X.o k C).1).2,LH (X.o k C).2 bC.o⟩
  replace Y:QQ (∀k,(LI (some ⟨g6,0,none⟩) (n+1) D).ownBlock=some k->H3 k=0/\k<(eR.setCell ⟨B,4,none⟩ (.slice (some ⟨eM,0,none⟩) (p+1) U)).heap.size):=λ k C=>⟨(aT.o k (Y.o k C).2 (Y.o k C).1).2,LH (Y.o k C).2 bC.o⟩
  replace Z:QQ (∀k,(LI (some ⟨g7,0,none⟩) (n+1+1) J).ownBlock=some k->H3 k=0/\k<(eR.setCell ⟨B,4,none⟩ (.slice (some ⟨eM,0,none⟩) (p+1) U)).heap.size):=λ k C=>⟨(aT.o k (Z.o k C).2 (Z.o k C).1).2,LH (Z.o k C).2 bC.o⟩
  replace aL:QQ (∀k,(LI (some ⟨g8,0,none⟩) (n+1+1+1) V).ownBlock=some k->H3 k=0/\k<(eR.setCell ⟨B,4,none⟩ (.slice (some ⟨eM,0,none⟩) (p+1) U)).heap.size):=λ k C=>⟨(aT.o k (aL.o k C).2 (aL.o k C).1).2,LH (aL.o k C).2 bC.o⟩
  have tL:QQ (∀f,f≠1->f≠2->f≠3->f≠4->hA f=bc f):=λ f F I h3 h4=>by rw[aO,gZ _ _ h4];exact hE.o f F I h3
  replace gL:QQ (hA 1=bc 1++[.slice va n vc]):=by unfold QQ;rw[aO,gZ _ _ (by omega)];exact gL.o
  replace lH:QQ (hA 2=bc 2++[.slice (some ⟨g6,0,none⟩) (n+1) D]):=by unfold QQ;rw[aO,gZ _ _ (by omega)];exact lH.o
  replace hP:QQ (hA 3=bc 3++[.slice (some ⟨g7,0,none⟩) (n+1+1) J]):=by unfold QQ;rw[aO,gZ _ _ (by omega)];exact hP.o
  have a5:QQ (hA 4=bc 4++[.slice (some ⟨g8,0,none⟩) (n+1+1+1) V]):=by unfold QQ;rw[aO,iY,hE.o 4 (by omega) (by omega) (by omega)]
  clear W3 c7 H6 M2 aO g3 l4 q3 r3 a7 A1 Pl sW a2 a4 hG aT bC eS;generalize eR.setCell ⟨B,4,none⟩ (.slice (some ⟨eM,0,none⟩) (p+1) U)=W11 at*;refine bodyPost_ret (results_none rfl _ _ _) rfl ?_;have X2:∀(l:List tV)(u x:tV),l.length=p->(l++[u])[p]?=some x->x=u:=λ l u x hl hx=>by
   rw[MG (by omega),hl,PM]at hx;simpa using hx.symm
  have X4:∀(l:List tV)(u:tV),l.length=p->(l++[u]).length=p+1:=λ l u hl=>by rw[LP,hl];rfl
  obtain⟨O',p0⟩:=b0.o.aK (S:=λ k=>(LI va n vc).ownBlock=some k\/(LI (some ⟨g6,0,none⟩) (n+1) D).ownBlock=some k\/(LI (some ⟨g7,0,none⟩) (n+1+1) J).ownBlock=some k\/(LI (some ⟨g8,0,none⟩) (n+1+1+1) V).ownBlock=some k)
   (v1:= .slice va n vc) (v2:= .slice (some ⟨g6,0,none⟩) (n+1) D) (v3:= .slice (some ⟨g7,0,none⟩) (n+1+1) J) (v4:= .slice (some ⟨g8,0,none⟩) (n+1+1+1) V) (λ k C=>C) (λ k C=>by
    rcases C with e|e|e|e
    ·exact X.o k e
    ·exact Y.o k e
    ·exact Z.o k e
    ·exact aL.o k e) (λ f x F I hx=>by
    have hf:f=1\/f=2\/f=3\/f=4:=by omega
    rcases hf with rfl|rfl|rfl|rfl
    ·rw[gL.o]at hx;rw[X2 _ _ _ (bO.o 1 (by omega) (by omega)) hx];exact d2.o.more (λ k C=> .inl C) (by omega)
    ·rw[lH.o]at hx;rw[X2 _ _ _ (bO.o 2 (by omega) (by omega)) hx];exact d4.o.more (λ k C=> .inr (.inl C)) (by omega)
    ·rw[hP.o]at hx;rw[X2 _ _ _ (bO.o 3 (by omega) (by omega)) hx];exact d6.o.more (λ k C=> .inr (.inr (.inl C))) (by omega)
    ·rw[a5.o]at hx;rw[X2 _ _ _ (bO.o 4 (by omega) (by omega)) hx];exact e4.o.more (λ k C=> .inr (.inr (.inr C))) (by omega))
  refine⟨rfl,O',_,_,p0,λ f F I=>?_,tL.o 5 (by omega) (by omega) (by omega) (by omega),tL.o 6 (by omega) (by omega) (by omega) (by omega),b0.o.bl⟩;have hf:f=1\/f=2\/f=3\/f=4:=by omega
  rcases hf with rfl|rfl|rfl|rfl
  ·rw[gL.o];exact X4 _ _ (bO.o 1 (by omega) (by omega))
  ·rw[lH.o];exact X4 _ _ (bO.o 2 (by omega) (by omega))
  ·rw[hP.o];exact X4 _ _ (bO.o 3 (by omega) (by omega))
  ·rw[a5.o];exact X4 _ _ (bO.o 4 (by omega) (by omega))
theorem PI.clear{w:tW}{O:Nat->Nat}{cs:List wX}{vb:Nat->tV}{bc:Nat->List tV}{T:Nat->List (Int×Int×Int)}(h:PI B p w O cs vb bc q T){f:Nat}(hf:f=5\/f=6):
  PI B p (w.setCell ⟨B,f,none⟩ (.slice none 0 0)) O cs (Y1 vb f (.slice none 0 0)) (Y1 bc f []) q T:=by
 obtain⟨Y,Z⟩:=h.wt;have Q:w.heap.size<=(w.setCell ⟨B,f,none⟩ (.slice none 0 0)).heap.size:=by simp[ME]
 have J:∀k,k<w.heap.size->O k≠1->(w.setCell ⟨B,f,none⟩ (.slice none 0 0)).heap[k]?=w.heap[k]? /\O k=O k:=λ k _ hn=>⟨iC w B f _ (λ e=>hn (by rw[e];exact Y)),rfl⟩
 refine⟨λ f' D=>?_,λ i=>by rw[LY];exact h.wz i,⟨Y,LH Z Q⟩,?_,λ f' a1 U=>?_,λ f' k D F=>?_,λ f' i u a1 U V C=>?_,λ j u I C=>?_,λ j u I C=>?_,λ j t I=>(h.cu j t I).keep Q (λ k o X=>J k o (by omega)),λ k o=>h.fr k (LU Q o),h.cl⟩
 ·by_cases e:f'=f
  ·subst e;rw[iY];exact MN _ _ _ (h.wb f' D)
  ·rw[gZ _ _ e,LQ (h:=by intro e';injection e';omega)];exact h.wb f' D
 ·rw[gZ _ _ (by omega)];exact QO h.b0 (show B<B+1 by omega) _
 ·by_cases e:f'=f
  ·subst e;rw[iY,iY];exact MU _ _ _ _
  ·rw[gZ _ _ e,gZ _ _ e];exact QO (h.bk f' a1 U) (show B<B+1 by omega) _
 ·by_cases e:f'=f
  ·subst e;rw[iY]at F;simp[LO]at F
  ·rw[gZ _ _ e]at F;exact h.bt f' k D F
 ·rw[gZ _ _ (by omega)]at C;exact(h.mm f' i u a1 U V C).keep Q (λ k o X=>J k o (by omega))
 ·by_cases e:5=f
  ·subst e;rw[iY]at C;simp at C
  ·rw[gZ _ _ e]at C;exact(h.wa j u I C).keep (λ k o X=>J k o (by omega))
 ·by_cases e:6=f
  ·subst e;rw[iY]at C;simp at C
  ·rw[gZ _ _ e]at C;exact(h.we j u I C).keep (λ k o X=>J k o (by omega))
theorem PI.again{w:tW}{O:Nat->Nat}{cs:List wX}{vb:Nat->tV}{bc:Nat->List tV}{T:Nat->List (Int×Int×Int)}(h:PI B p w O cs vb bc q T)(C:bc 5=[])(D:bc 6=[]):PI B p w O cs vb bc 0 T:=
 ⟨h.wb,h.wz,h.wt,h.b0,h.bk,h.bt,h.mm,λ j v _ o=>by rw[C]at o;simp at o,λ j v _ o=>by rw[D]at o;simp at o,h.cu,h.fr,h.cl⟩
theorem Rz(l:List (Int×Int×Int)):mF l l=true:=by unfold mF;simp
def Zu(B p m:Nat)(w:tW)(cs:List wX)(T:Nat->List (Int×Int×Int))(e:Ending)(w':tW):Prop:=
 e=.returned (.bool true)/\∃O' C o,PI B (p+m) w' O' cs C o 0 T/\(∀f,1<=f->f<=4->(o f).length=p+m)/\o 5=[]/\o 6=[]/\Below B w w'
theorem Z9{w:tW}{O:Nat->Nat}{cs:List wX}{vb:Nat->tV}{bc:Nat->List tV}{T:Nat->List (Int×Int×Int)}(h:PI B p w O cs vb bc 0 T){m:Nat}
  (aT:∀f,1<=f->f<=4->(bc f).length=p) (h5:(bc 5).length=m) (h6:(bc 6).length=m) (hN:p+m<=5864062014800):
  QY LG 30 #[.pointer (some ⟨B,0,none⟩)] w (Zu B p m w cs T):=by
 have HH:=fV h;have hE:=fV aT;have H5:=fV h5;have H6:=fV h6;have C:=h.bk 5 (by omega) (by omega);have F:=h.bk 6 (by omega) (by omega);have c5:=h.wb 5 (by omega);have c6:=h.wb 6 (by omega);obtain⟨a5,k5,e5⟩:=gA C;obtain⟨a6,k6,e6⟩:=gA F;rw[h5]at e5 C;rw[h6]at e6 F;rw[e5]at c5 C;rw[e6]at c6 F;have bK:=fV C;have bM:=fV F;have hM:=h.wt.2;clear h aT h5 h6 C F e5 e6;go_enter func30,ntmps30;go_upto_block 0 with fail
 go_cut [3,4] from 7 to 34 (λ b _ wc=>b=.bool true/\∃nq,wc=w.drewN nq)
 case first=>
  go_wp2_with fail
  go_loopw [3,4] (λ b ii wr=>∃(k Z:Nat),k<=m/\b=.bool true/\ii=.int .i64 (k:Int)/\wr=w.drewN Z) (λ _ ii _=>m-(QP ii).toNat)
  case atStart=>exact⟨0,0,zL,rfl,rfl,rfl⟩
  case round=>
   obtain⟨k,Z,hk,rfl,rfl,aL⟩:=hrel;have d5:wr.cell? ⟨B,5,none⟩=some (.slice a5 m k5):=by rw[aL];exact c5
   have d6:wr.cell? ⟨B,6,none⟩=some (.slice a6 m k6):=by rw[aL];exact c6
   have U:=fV aL;clear aL;by_cases J:k<m
   ·obtain⟨v,hv⟩:∃v,(bc 5)[k]?=some v:=⟨_,LN (by rw[H5.o];exact J)⟩
    obtain⟨u,hu⟩:∃u,(bc 6)[k]?=some u:=⟨_,LN (by rw[H6.o];exact J)⟩
    have ov:=HH.o.wa k v zL hv;have ou:=HH.o.we k u zL hu;obtain⟨g5,eS,cF,_,_⟩:=bK.o.form (by omega);injection cF with e1 e2 e3;subst e1;obtain⟨g6,hL,hH,_,_⟩:=bM.o.form (by omega);injection hH with e4 e5 e6;subst e4;have x5:=nV bK.o k v hv;have x6:=nV bM.o k u hu;rw[MJ]at x5 x6;replace x5:wr.cell? ⟨g5,k,none⟩=some v:=by rw[U.o];exact x5
    replace x6:wr.cell? ⟨g6,k,none⟩=some u:=by rw[U.o];exact x6
    have hG:QQ (∀z,QY LG 12 #[v,u] (wr.drewN z) λ e w'=>e=.returned (.bool true)/\∃y,w'=(wr.drewN z).drewN y):=λ z=>by
     rw[U.o];have:=R7 (T k) (T k) v u w.heap.size w.heap.size ((w.drewN Z).drewN z) (by have:=ov.ln;omega) (by have:=ov.ln;omega) ⟨(mX ov.ro).sh⟩ ⟨(mX ou.ro).sh⟩;rw[Rz]at this;exact this
    obtain⟨va,vc,cN⟩:=gA ov.ro;obtain⟨ua,uc,hJ⟩:=gA ou.ro;have hI:=iI k m (by omega)
    subst cN hJ;clear ov ou hv hu e2 e3 e5 e6 c5 c6;go_wp2;go_quiet ((go_at_call 12;exact QY.quiet_of (hG.o _)));go_wp2;go_roundw
    case rel=>exact⟨k+1,Z+nq,J,rfl,by go_num,by rw[U.o,NG]⟩
    case measure=>simp[QP];omega
   ·have dk:=dF k m (by omega)
    go_wp2;go_meet
    case rel=>exact⟨rfl,Z,U.o⟩
 case rest=>
  obtain⟨rfl,nq,rfl⟩:=hcut;have HD:=fV (HH.o.draw nq);have bN:QQ (Below B w (w.drewN nq)):=⟨rfl,rfl,rfl,lR,λ _ _=>rfl⟩
  clear c5 c6 bK bM;generalize w.drewN nq=W at*;go_upto_block 2 with fail
  go_cut [6] from 35 to 52 (λ _ wc=>∃O' cP I,PI B (p+m) wc O' cs cP I m T/\(∀f,1<=f->f<=4->(I f).length=p+m)/\I 5=bc 5/\I 6=bc 6/\Below B w wc)
  case first=>
   go_wp2_with fail
   go_loopw [6] (λ ii wr=>∃(k:Nat)(O':Nat->Nat)(cP:Nat->tV)(I:Nat->List tV),k<=m/\ii=.int .i64 (k:Int)/\PI B (p+k) wr O' cs cP I k T/\(∀f,1<=f->f<=4->(I f).length=p+k)/\I 5=bc 5/\I 6=bc 6/\Below B w wr) (λ ii _=>m-(QP ii).toNat)
   case atStart=>exact⟨0,O,vb,bc,zL,rfl,HD.o,hE.o,rfl,rfl,bN.o⟩
   case round=>
    obtain⟨k,O1,eL,bS,hk,rfl,D,X,C,F,V⟩:=hrel;have HP:=fV D;have eO:=fV X;have Q:=fV C;have aO:=fV F;have eM:=fV V;have Y:=D.bk 5 (by omega) (by omega);have c5:=D.wb 5 (by omega);obtain⟨a5,k5,e5⟩:=gA Y;rw[C,H5.o]at e5 Y;rw[e5]at c5 Y;have eR:=fV Y;clear D X C F V Y e5 HD bN;by_cases J:k<m
    ·obtain⟨v,hv⟩:∃v,(bc 5)[k]?=some v:=⟨_,LN (by rw[H5.o];exact J)⟩
     have ov:=HP.o.wa k v lR (by rw[Q.o];exact hv);obtain⟨g5,eS,cF,_,_⟩:=eR.o.form (by omega);injection cF with e1 e2 e3;subst e1;have x5:=nV eR.o k v hv;rw[MJ]at x5;have hI:=iI k m (by omega)
     have bO:=fV ov;obtain⟨va,vc,cN⟩:=gA ov.ro;subst cN;clear ov hv e2 e3;go_wp2_with fail;refine(v6 (HP.o.later (OB k)) bO.o.ro bO.o.tg (Nat.lt_succ_self k) bO.o.ln eO.o (by omega)).mono ?_;rintro e w2 ⟨rfl,O2,hK,bT,bC,aW,eT,eX,aR⟩;have hF:=fV bC;have hC:=fV aW;have gL:QQ (bT 5=bc 5):=eT.trans Q.o;have hA:QQ (bT 6=bc 6):=eX.trans aO.o;have eN:=fV (eM.o.trans aR);clear bC aW eT eX aR c5 x5;go_wp2;go_roundw
     case rel=>exact⟨k+1,O2,hK,bT,J,by go_num,hF.o,hC.o,gL.o,hA.o,eN.o⟩
     case measure=>simp[QP];omega
    ·have dk:=dF k m (by omega)
     have e:k=m:=by omega
     subst e;go_wp2;go_meet
     case rel=>exact⟨O1,eL,bS,HP.o,eO.o,Q.o,aO.o,eM.o⟩
  case rest=>
   obtain⟨O1,eL,bS,D,X,C,F,V⟩:=hcut;have c5:=D.wb 5 (by omega);have c6:=D.wb 6 (by omega);have f5:=D.wz 5;have f6:=D.wz 6;have q6:(wc.setCell ⟨B,5,none⟩ (.slice none 0 0)).cell? ⟨B,6,none⟩=some (eL 6):=by
    rw[LQ (h:=by intro e';injection e';omega)];exact c6
   have g6:(wc.setCell ⟨B,5,none⟩ (.slice none 0 0)).frozen? ⟨B,6,none⟩=false:=by rw[LY];exact f6
   have HF:=fV (((D.clear (f:=5) (.inl rfl)).clear (f:=6) (.inr rfl)).again (by rw[gZ _ _ (by omega),iY]) (by rw[iY]));have hD:QQ (∀f,1<=f->f<=4->(Y1 (Y1 bS 5 []) 6 [] f).length=p+m):=λ f h1 h2=>by rw[gZ _ _ (by omega),gZ _ _ (by omega)];exact X f h1 h2
   have hB:QQ (Below B w ((wc.setCell ⟨B,5,none⟩ (.slice none 0 0)).setCell ⟨B,6,none⟩ (.slice none 0 0))):=(V.setCell (p:=⟨B,5,none⟩) lR _).setCell (p:=⟨B,6,none⟩) lR _;clear D X C F V HD bN;go_wp2;go_ret;exact⟨rfl,_,_,_,HF.o,hD.o,by rw[gZ _ _ (by omega),iY],by rw[iY],hB.o⟩
theorem Wd{O:Nat->Nat}(v:tV)(l:List tV)(aH:Nat)(w:tW)(D:w.ownsRow aH 29 1 v l.length l)(Y:∀i u,l[i]?=some u->MK w O i u)(hl:l.length<=5864062014800):
  QY LG 64 #[v] w λ e w'=>e=.returned (.bool true)/\Bl w w':=by
 have aR:=fV (iL D);have Z:=fV (λ k=>D.lt k);have aO:=fV D;obtain⟨a,aJ,hv⟩:=gA D;subst hv;have aL:=fV Y;clear D Y;go_enter func64,ntmps64;go_wp2_with fail
 go_loopw [3] (λ ii wr=>∃k:Nat,k<=l.length/\ii=.int .i64 (k:Int)/\Bl w wr) (λ ii _=>l.length-(QP ii).toNat)
 case atStart=>exact⟨0,zL,rfl,bR⟩
 case round=>
  obtain⟨k,hk,rfl,hb⟩:=hrel;have J:=fV hb;clear hb;by_cases X:k<l.length
  ·obtain⟨u,hu⟩:∃u,l[k]?=some u:=⟨_,LN X⟩
   obtain⟨ua,n,aW,aT,hn,h0⟩:=aL.o k u hu;subst aT;rcases aR.o with e|⟨g,c2,e⟩
   ·injection e with _ e;omega
   injection e with e1 e2 e3;subst e1;have U:=(Z.o g rfl).2;have c0:=nV aO.o k _ hu;rw[MJ]at c0;have c1:=(J.o.cell (p:=⟨g,k,none⟩) U).trans c0;have bK:(0:Int)<=(k:Int)/\(k:Int)<(l.length:Int):=by omega
   have Q:QQ (Bl wr (wr.alloc (.cells #[.int .i64 (-9),.int .i64 (k:Int),.int .i64 (-9)] 79))):=bR.alloc lR _;have c2:=(Q.o.cell (p:=⟨g,k,none⟩) (LH U J.o.size)).trans c1;have m0:(wr.alloc (.cells #[.int .i64 (-9),.int .i64 (k:Int),.int .i64 (-9)] 79)).cell? ⟨wr.heap.size,0,none⟩=some (.int .i64 (-9)):=(LM _ _ _ 0 rfl).trans rfl;have m1:(wr.alloc (.cells #[.int .i64 (-9),.int .i64 (k:Int),.int .i64 (-9)] 79)).cell? ⟨wr.heap.size,1,none⟩=some (.int .i64 (k:Int)):=(LM _ _ _ 1 rfl).trans rfl;have m2:(wr.alloc (.cells #[.int .i64 (-9),.int .i64 (k:Int),.int .i64 (-9)] 79)).cell? ⟨wr.heap.size,2,none⟩=some (.int .i64 (-9)):=(LM _ _ _ 2 rfl).trans rfl;have C:=fV (J.o.alloc J.o.size (.cells #[.int .i64 (-9),.int .i64 (k:Int),.int .i64 (-9)] 79));have H0:QQ (∀j,j<n->∃F,ua=some ⟨F,0,none⟩/\(wr.alloc (.cells #[.int .i64 (-9),.int .i64 (k:Int),.int .i64 (-9)] 79)).cell? ⟨F,j*3,none⟩=some (.int .i64 (-9))/\(wr.alloc (.cells #[.int .i64 (-9),.int .i64 (k:Int),.int .i64 (-9)] 79)).cell? ⟨F,j*3+1,none⟩=some (.int .i64 (k:Int))/\(wr.alloc (.cells #[.int .i64 (-9),.int .i64 (k:Int),.int .i64 (-9)] 79)).cell? ⟨F,j*3+2,none⟩=some (.int .i64 (-9))):=λ j hj=>by
    obtain⟨F,ea,I,_,hc⟩:=h0 (by omega);obtain⟨x,y,z⟩:=hc j hj;exact⟨F,ea,(C.o.cell (p:=⟨F,j*3,none⟩) I).trans x,(C.o.cell (p:=⟨F,j*3+1,none⟩) I).trans y,(C.o.cell (p:=⟨F,j*3+2,none⟩) I).trans z⟩
   clear hu h0 c0 c1 e2 e3 J Q;go_upto_region 5 with fail;generalize wr.alloc (.cells #[.int .i64 (-9),.int .i64 (k:Int),.int .i64 (-9)] 79)=W4 at*;go_wp2
   go_loopw [5] (λ jj wq=>∃j q:Nat,j<=n/\jj=.int .i64 (j:Int)/\wq=W4.drewN q) (λ jj _=>n-(QP jj).toNat)
   case atStart=>exact⟨0,0,zL,rfl,rfl⟩
   case round=>
    obtain⟨j,q,hj,rfl,rfl⟩:=hrel;by_cases V:j<n
    ·obtain⟨F,ea,x,y,z⟩:=H0.o j V;subst ea;have bC:=iI j n (by omega)
     go_wp2;go_quiet (fail);go_wp2;go_roundw
     case rel=>exact⟨j+1,_,V,by go_num,rfl⟩
     case measure=>simp[QP];omega
    ·have dj:=dF j n (by omega)
     go_wp2;go_roundw
     case rel=>exact⟨k+1,X,by go_num,⟨C.o.os,C.o.tape,C.o.output,C.o.size,C.o.block⟩⟩
     case measure=>simp[QP];omega
  ·have dk:decide ((k:Int)<(l.length:Int))=false:=by simp;omega
   go_wp2;go_ret;exact⟨rfl,J.o⟩
theorem Pq{w:tW}{O:Nat->Nat}{cs:List wX}{vb:Nat->tV}{bc:Nat->List tV}{T:Nat->List (Int×Int×Int)}(h:PI B p w O cs vb bc q T)(hl:∀f,1<=f->f<=4->(bc f).length<=5864062014800)(hp:∀f,1<=f->f<=4->(bc f).length<=p):
  QY LG 31 #[.pointer (some ⟨B,0,none⟩)] w λ e w'=>e=.returned (.bool true)/\Bl w w':=by
 have HH:=fV h;have HL:=fV hl;have Z:=fV hp;have V:QQ (∀f w',1<=f->f<=4->Bl w w'->w'.cell? ⟨B,f,none⟩=some (vb f)/\QY LG 64 #[vb f] w' λ e aL=>e=.returned (.bool true)/\Bl w' aL):=λ f w' X h2 hB=>by
  have:=HH.o.below hB;exact⟨this.wb f (by omega),Wd (O:=O) (vb f) (bc f) (B+1) w' (this.bk f X (by omega)) (λ i u hu=>this.mm f i u X h2 (LH (MM.1 hu).1 (Z.o f X h2)) hu) (HL.o f X h2)⟩
 obtain⟨a1,f1⟩:=V.o 1 w (by omega) (by omega) bR;clear h hl hp;go_enter func31,ntmps31;go_wp2_with fail;refine f1.mono ?_;rintro e w1 ⟨rfl,I⟩;have F:=fV I;obtain⟨a2,f2⟩:=V.o 2 w1 (by omega) (by omega) I;clear I a1 f1;go_wp2_with fail;refine f2.mono ?_;rintro e w2 ⟨rfl,J⟩;have C:=fV (F.o.trans (J.mono F.o.size));obtain⟨a3,f3⟩:=V.o 3 w2 (by omega) (by omega) C.o;clear J a2 f2 F;go_wp2_with fail;refine f3.mono ?_;rintro e w3 ⟨rfl,Q⟩;have D:=fV (C.o.trans (Q.mono C.o.size));obtain⟨a4,f4⟩:=V.o 4 w3 (by omega) (by omega) D.o;clear Q a3 f3 C;go_wp2_with fail;refine f4.mono ?_;rintro e w4 ⟨rfl,U⟩;have Y:=fV (D.o.trans (U.mono D.o.size));clear U a4 f4 D;go_wp2;go_ret;exact⟨rfl,Y.o⟩
structure DI(w:tW)(b o:Nat)(ops:List Sv):Prop where
 c:∀(k:Nat)(op:Sv),ops[k]?=some op->w.rangeAt b (o+k*4) op.cells
 ok:∀op∈ops,op.ok
 lt:b<w.heap.size
theorem fR:(Tryz.prog.info? 86).map (λ i=>i.size)=some 4:=by kernel_rfl
theorem Z8{w:tW}{O:Nat->Nat}{cs:List wX}{vb:Nat->tV}{bc:Nat->List tV}{T:Nat->List (Int×Int×Int)}(h:PI B p w O cs vb bc 0 T)(D:∀f,1<=f->f<=4->(bc f).length=p)(_h56:(bc 5).length=(bc 6).length)(F:p<=5864062014800):
  QY LG 31 #[.pointer (some ⟨B,0,none⟩)] w λ e w'=>e=.returned (.bool true)/\Bl w w':=
 Pq h (λ f o C=>by rw[D f o C];exact F) (λ f o C=>by rw[D f o C];exact lR)
theorem PI.start(w:tW):PI w.heap.size 0 (w.alloc (.cells #[.slice none 0 0,.slice none 0 0,.slice none 0 0,.slice none 0 0,.slice none 0 0,.slice none 0 0,.slice none 0 0] 91)) (λ k=>if k=w.heap.size then 1 else 0) [] (λ _=> .slice none 0 0) (λ _=>[]) 0 (λ _=>[]):=by
 refine⟨λ f I=>?_,λ i=>?_,⟨aB rfl,by simp⟩,MU _ _ _ _,λ f _ _=>MU _ _ _ _,λ f k _ F=>by simp[LO]at F,λ f i v _ _ hi _=>absurd hi (by omega),λ j v _ D=>by simp at D,λ j v _ D=>by simp at D,λ j t C=>by simp at C,λ k F=>?_,λ j t C=>by simp at C⟩
 ·rw[LM _ _ _ f rfl];have o:f=0\/f=1\/f=2\/f=3\/f=4\/f=5\/f=6:=by omega
  rcases o with rfl|rfl|rfl|rfl|rfl|rfl|rfl<;>rfl
 ·rw[World.frozen?_alloc_new]
 ·have:(w.alloc (.cells #[.slice none 0 0,.slice none 0 0,.slice none 0 0,.slice none 0 0,.slice none 0 0,.slice none 0 0,.slice none 0 0] 91)).heap.size=w.heap.size+1:=by simp
  exact aA (by omega)
open Go.RowKit Go.Stn Go.ChangeShapes Go.WideShapes
theorem dK:Tryz.prog.cellsOf 86=4:=by kernel_rfl
theorem eU:Tryz.prog.cellsOf 3=1:=by kernel_rfl
theorem eZ:Tryz.prog.cellsOf 9=1:=by kernel_rfl
theorem KC{n:Int}(h:(Lit.int .i64 n).wf=true):JO n:=by
 have o: -9223372036854775808<=n/\n<=9223372036854775807:=by simpa[Lit.wf,IntKind.min,IntKind.max,IntKind.signed,IntKind.bits]using h
 exact o
theorem AN{H:Type}{enc:TypeId×tV->H}{W:tW}{cs:List tV}{x:DataW H×List MemPlace}(h:DataW.trod enc LG W 0 (λ _=>true) true n 86 cs=some x):∃o:Sv,cs=o.cells/\o.ok/\o.x.size<=QX:=by
 obtain⟨xs,k,hk,aL,Z,C,D⟩:=DataW.trod_struct underlying86 h;rw[dK]at Z;have C:xs.length=4:=C
 match xs,C,cs,Z with
 | [y0,y1,y2,y3],_,[v0,v1,v2,v3],_=>
  have U:=D 0 _ rfl;have V:=D 1 _ rfl;have X:=D 2 _ rfl;have Y:=D 3 _ rfl;simp[eU,eZ]at U V X Y;obtain⟨n0,F,_,w0⟩:=DataW.trod_int underlying3 U;obtain⟨n1,I,_,w1⟩:=DataW.trod_int underlying3 V;obtain⟨s2,J,_,w2⟩:=DataW.trod_string underlying9 X;obtain⟨s3,Q,_,w3⟩:=DataW.trod_string underlying9 Y;refine⟨⟨n0,n1,s2,s3⟩,?_,⟨KC w1,w2⟩,w3⟩;simp at F I J Q;rw[F,I,J,Q]
  rfl
theorem Ww{H:Type}{enc:TypeId×tV->H}{W:tW}{a:Option Addr}{C:Nat}{d:DataW H}{ps:List MemPlace}(h:DataW.Trod enc LG W 0 (λ _=>true) true 36 (.slice a C aJ) d ps):
  C=0\/∃(b o:Nat)(D:Nat->DataW H)(sp:List (DataW H)) (ops:List Sv),a=some ⟨b,o,none⟩/\ops.length=C/\d=.slice ((NR C).map D) sp/\DI W b o ops/\∀op∈ops,op.x.size<=QX:=by
 obtain⟨bK,h⟩:=h;rcases Go.Deep.open_slice underlying36 h with⟨e,_⟩|⟨Q,aL,V,m,n,D,Pl,e,hb,hl,hm,bC,hx,J⟩
 ·left;have e: [LI a C aJ]=[.slice none 0 0]:=e;injection e with e _;injection e
 ·have e: [LI a C aJ]=[.slice (some Q) aL V]:=e;injection e with e _;injection e with e1 e2 e3;subst e1 e2 e3;by_cases h0:C=0
  ·exact .inl h0
  ·right;have bM:C<=m:=by rw[bC];split<;>omega
   rw[dK]at J;have F:∀i,i<C->∃o:Sv,(∀j v,o.cells[j]?=some v->W.cell? (Q.add (i*4+j))=some v)/\o.ok/\o.x.size<=QX:=λ i hi=>by
    obtain⟨cs,h1,h2⟩:=J i (by omega);obtain⟨o,rfl,Y⟩:=AN h2;obtain⟨_,aW,hc⟩:=World.cells?_some h1;refine⟨o,λ j v hj=>?_,Y⟩;have aT:j<4:=by have:=(MM.1 hj).1;rw[aW]at this;exact this
    have:=hc j aT;rw[Go.Deep.add_add]at this;rw[this,hj]
   have Z:Q.spot=none:=by
    obtain⟨o,Y,_⟩:=F 0 (by omega);have:=Y 0 _ rfl;have e:Q.add (0*4+0)=Q:=rfl;rw[e]at this;unfold PN at this
    cases hs:Q.spot with
    | none=>rfl
    | some k=>
     rw[hs]at this;split at this
     ·simp at this
     ·cases this
   obtain⟨b,o,s⟩:=Q;simp only at Z;subst Z;have aR:∃f:Nat->Sv,∀i,i<C->(∀j v,(f i).cells[j]?=some v->W.cell? ((⟨b,o,none⟩:Addr).add (i*4+j))=some v)/\(f i).ok/\(f i).x.size<=QX:=
    ⟨λ i=>if hi:i<C then NM (F i hi)else⟨0,0,PB,PB⟩,λ i hi=>by simp only[dif_pos hi];exact MT (F i hi)⟩
   obtain⟨f,hf⟩:=aR;refine⟨b,o,D,_,(NR C).map f,rfl,by simp,congrArg Prod.fst hx,⟨?_,?_,?_⟩,?_⟩
   ·intro k op U j v hj;rw[NZ]at U;have X:k<C:=by
     apply NW;intro hc;rw[NJ (by simp;omega)]at U
     cases U
    rw[List.getElem?_range X]at U;injection U with U;subst U;have:=(hf k X).1 j v hj;have e:(⟨b,o,none⟩:Addr).add (k*4+j)=⟨b,o+k*4+j,none⟩:=by
     unfold Addr.add;split
     ·rename_i hz;congr 1;omega
     ·congr 1;simp only;omega
    rw[e]at this;exact this
   ·intro op I;rw[PK]at I;obtain⟨i,hi,rfl⟩:=I;exact(hf i (PE.1 hi)).2.1
   ·obtain⟨op,Y,_⟩:=F 0 (by omega);have:=Y 0 _ rfl;unfold PN at this;apply NW;intro hc;have aO:W.heap[b]?=none:=by simp;omega
    have e:(⟨b,o,none⟩:Addr).add (0*4+0)=⟨b,o,none⟩:=rfl;rw[e]at this;simp only[aO]at this
    cases this
   ·intro op I;rw[PK]at I;obtain⟨i,hi,rfl⟩:=I;exact(hf i (PE.1 hi)).2.2
theorem Ra(s aI:tB)(w:tW):
  QY LG 10 #[.string s,.string aI] w λ e w'=>
   ∃v,e=.returned (.tuple #[v,.int .i64 (pH s aI).2.1,.int .i64 (pH s aI).2.2])/\w'.ownsRow w.heap.size 79 3 v (pH s aI).1.length (hZ (pH s aI).1)/\Bl w w':=by
 by_cases hl:300<aI.size
 ·have hr:pH s aI=([],0,1):=by unfold pH;rw[aB (.inr hl)]
  rw[hr];clear hr;have hd:decide ((300:Int)<(aI.size:Int))=true:=by simp;omega
  go_enter func10,ntmps10;go_wp2;go_ret3;exact⟨_,rfl,MU w w.heap.size 79 3,bR⟩
 ·have hd:decide ((300:Int)<(aI.size:Int))=false:=by simp;omega
  by_cases C:s.size<=120000/\iF s=true
  ·have hr:pH s aI=((pX s aI 0).1,(pX s aI 0).2.1,0):=by unfold pH;rw[aA (by omega),aB C.2]
   rw[hr];clear hr;go_enter func10,ntmps10;go_wp2_with fail;refine(F0 s _).mono ?_;rintro e w1 ⟨J,⟨cN,_⟩|⟨_,hi,bb,vc,ys,rfl,hn,ho,hm,hc,hk⟩⟩
   ·exact absurd C cN
   obtain⟨vg,aJ,yb,zb,rfl,bM,_⟩:=Ms hi hn ho hm hc hk;have Q:=nY (.slice (some ⟨bb,0,none⟩) (jU s) (jU s)) (gP s) (.slice (some ⟨vg,0,none⟩) (iM s) aJ) (by unfold gP;rw[lQ];rfl);have U:=yJ (vb:= .slice (some ⟨bb,0,none⟩) (jU s) (jU s)) (vc:= .slice (some ⟨vg,0,none⟩) (iM s) aJ) (cs:=gP s) rfl rfl;obtain⟨IL,aL⟩:=xE (nS (.slice (some ⟨bb,0,none⟩) (jU s) (jU s)) (gP s) (.slice (some ⟨vg,0,none⟩) (iM s) aJ))
   rw[aL]at Q U ⊢;have aR:QQ (IL.toArray.toList=IL):=by unfold QQ;simp
   have I:QQ (IL.toArray.size=258):=by unfold QQ;simpa using Q
   have Y:QQ (IL.toArray.all (·.oneCell')=true):=QT U;obtain⟨A,EA⟩:=xE (IL.toArray)
   rw[EA]at aR I Y ⊢;have HA:QQ (A.toList=nS (.slice (some ⟨bb,0,none⟩) (iR s) (iR s)) (gP s) (.slice (some ⟨vg,0,none⟩) (iM s) aJ)):=by
    unfold QQ;rw[aR.o,<-aL,(B4 hi).ru]
   have aW:=fV bM;have HI:=fV hi;have D:=fV J;have V:=fV (iD w1 MH 72 w1.heap.size 258 bL rfl);have F:QQ (Bl w1 ((w1.alloc (.cells MH 72)).setCells w1.heap.size 0 A.toList)):=fX _ 0 _ w1.heap.size (bR.alloc lR _) lR;have bT:QQ (((w1.alloc (.cells MH 72)).setCells w1.heap.size 0 A.toList).rangeAt w1.heap.size 0 A.toList):=LF _ _ _ _ (by rw[OU,I.o];exact V.o);clear aL Q U EA aR bM hi J hn ho hm hc hk C;have bC:QQ (IM ((w1.alloc (.cells MH 72)).setCells w1.heap.size 0 A.toList) s bb vg yb zb ((w1.alloc (.cells MH 72)).setCells w1.heap.size 0 A.toList).heap.size):=(aW.o.below F.o lR).mono F.o.size;have aO:QQ (Bl w ((w1.alloc (.cells MH 72)).setCells w1.heap.size 0 A.toList)):=D.o.trans (F.o.mono D.o.size);generalize aT:(w1.alloc (.cells MH 72)).setCells w1.heap.size 0 A.toList=w2 at*;replace aT:=fV aT;clear aW D F;go_wp2_with (first
    | (refine QS rfl 72 (.tmp 7) (.tmp 18) rfl w1.heap.size 0 A rfl rfl ?_ ?_ Y.o ?_;(rw[I.o];exact V.o);(rw[I.o];exact bP);rw[aT.o])
    | (refine QR rfl 72 (.tmp 7) rfl w1.heap.size 0 rfl A.toList _ bT.o underlying72 rfl ?_ ?_;(rw[OU,I.o];exact bP))
    | fail)
   refine(Kv s aI 0 bb vg aJ yb zb A w2 HI.o (by omega) (kZ HI.o).2.2.1 HA.o bC.o).mono ?_;rintro e w3 ⟨vt,rfl,bN,bK⟩;have bS:=fV bN;have bO:=fV (aO.o.trans (bK.mono aO.o.size));clear bN bK;go_wp2;go_ret3;exact⟨vt,rfl,oZ bS.o (by have:=aO.o.size;omega),bO.o⟩
  ·have hr:pH s aI=([],0,G5 s):=by
    unfold pH G5;by_cases Z:120000<s.size
    ·rw[aB (.inl Z),aB Z]
    ·have h2:¬iF s=true:=λ h=>C ⟨by omega,h⟩
     rw[aA (by omega),aA h2,aA Z,aA h2]
   have cF:((G5 s:Int) !=0)=true:=by
    rw[aD];unfold G5;by_cases Z:120000<s.size
    ·rw[aB Z];decide
    ·have h2:¬iF s=true:=λ h=>C ⟨by omega,h⟩
     rw[aA Z,aA h2];decide
   rw[hr];clear hr;go_enter func10,ntmps10;go_wp2_with fail;refine(F0 s _).mono ?_;rintro e w1 ⟨J,⟨_,rfl⟩|⟨Z,h2,_⟩⟩
   ·have D:=fV J;have V:=fV (iD w1 MH 72 w1.heap.size 258 bL rfl);have F:QQ (Bl w1 ((w1.alloc (.cells MH 72)).setCells w1.heap.size 0 Tryz.zeroCells72.toList)):=fX _ 0 _ w1.heap.size (bR.alloc lR _) lR;clear J C;obtain⟨ck,X⟩:=xE (G5 s)
    rw[X]at cF ⊢;replace X:=fV X;go_wp2_with (first
     | (refine QS rfl 72 (.tmp 7) (.tmp 18) rfl w1.heap.size 0 MH rfl rfl ?_ ?_ bZ ?_;(rw[bL];exact V.o);(rw[bL];exact bP))
     | fail)
    go_ret3;exact⟨_,by rw[X.o];rfl,MU _ _ 79 3,D.o.trans (F.o.mono D.o.size)⟩
   ·exact absurd ⟨Z,h2⟩ C
def Us(B p:Nat)(w:tW)(cs:List wX)(bc:Nat->List tV)(e:Ending)(w':tW):Prop:=
 e=.returned (.bool true)/\∃O' C o D,PI B p w' O' cs C o 0 D/\(∀f,f<=4->o f=bc f)/\(o 5).length=(bc 5).length+2/\(o 6).length=(bc 5).length+2/\Below B w w'
theorem Iu{w:tW}{O:Nat->Nat}{cs:List wX}{vb:Nat->tV}{bc:Nat->List tV}{T:Nat->List (Int×Int×Int)}(h:PI B p w O cs vb bc 0 T)(S X:tB)(hS:S.size<=QX)(hX:X.size<=QX)
  (hV:(bc 5).length=(bc 6).length) (hQ:(bc 5).length+1<=5864062014800):
  QY LG 59 #[.pointer (some ⟨B,0,none⟩),.string S,.string X] w (Us B p w cs bc):=by
 have A0:=h.wt.2;have bT:=fV (λ w=>Ra S X w);have hG:=fV (λ w=>BY S X w hS hX);have bM:=Sa S X;generalize (pH S X).2.1=nn at*;generalize (pH S X).2.2=ee at*;generalize (pH S X).1=L at*;have d1:(ee==ee)=true:=by simp
 have d2:((nn:Int)==(nn:Int))=true:=by simp
 have C:=fV bM;have HP:=fV h;have tO:=fV hV;have hC:=fV hQ;clear h hV hQ bM hS hX;go_enter func59,ntmps59;go_wp2_with fail;refine(bT.o _).mono ?_;rintro e w1 ⟨v1,rfl,eR,eM⟩;obtain⟨a1,c1,e1⟩:=gA eR;subst e1;have U:=fV eR;have gL:=fV eM;have A1:=eM.size;clear eR eM;go_wp2_with fail;refine(bT.o _).mono ?_;rintro e w2 ⟨v2,rfl,eS,eO⟩;obtain⟨a2,c2,e2⟩:=gA eS;subst e2;have I:=fV eS;have hA:=fV eO;have A2:=eO.size;clear eS eO;go_wp2_with fail;refine(hG.o _).mono ?_;rintro e D ⟨v3,rfl,eT,aW⟩;obtain⟨a3,c3,e3⟩:=gA eT;subst e3;have B2:=aW.size;have J:=fV (hA.o.trans (aW.mono A2));have hJ:=iH (w':=D) U.o (λ k F=>J.o.block k (U.o.lt k F).2);have hK:=iH (w':=D) I.o (λ k F=>aW.block k (I.o.lt k F).2);have cF:=fV hJ;have cN:=fV hK;have cP:=fV eT;have hB:=fV (gL.o.trans (J.o.mono A1));have hF:=fV (HP.o.below hB.o);have V:QQ (∀z,QY LG 12 #[.slice a1 L.length c1,.slice a3 L.length c3] (D.drewN z) λ e w'=>e=.returned (.bool true)/\∃y,w'=(D.drewN z).drewN y):=λ z=>by
  have:=R7 L L _ _ D.heap.size D.heap.size (D.drewN z) (by have:=C.o;omega) (by have:=C.o;omega) ⟨(mX cF.o).sh⟩ ⟨(mX cP.o).sh⟩;rw[D3]at this;exact this
 have Y:QQ (∀z,QY LG 12 #[.slice a2 L.length c2,.slice a3 L.length c3] (D.drewN z) λ e w'=>e=.returned (.bool true)/\∃y,w'=(D.drewN z).drewN y):=λ z=>by
  have:=R7 L L _ _ D.heap.size D.heap.size (D.drewN z) (by have:=C.o;omega) (by have:=C.o;omega) ⟨(mX cN.o).sh⟩ ⟨(mX cP.o).sh⟩;rw[D3]at this;exact this
 have aO:QQ (∀k,(LI a1 L.length c1).ownBlock=some k->O k=0/\k<w1.heap.size):=λ k F=>⟨HP.o.fr k (U.o.lt k F).1,(U.o.lt k F).2⟩
 have bS:QQ (∀k,(LI a2 L.length c2).ownBlock=some k->O k=0/\w1.heap.size<=k/\k<D.heap.size):=λ k F=>⟨HP.o.fr k (by have:=(I.o.lt k F).1;omega),(I.o.lt k F).1,by have:=(I.o.lt k F).2;omega⟩
 have Q:QQ (Below B w D):=hB.o.mono (MC A0);clear hJ hK eT aW U I gL hA J bT hG;obtain⟨N,eN⟩:=xE (L.length)
 have HN:=fV eN;rw[eN]at V Y aO bS ⊢;clear eN;go_upto_region 5 with(first
  | (go_at_call 9;refine(F3 ee _).mono ?_;rintro e w4 ⟨rfl,lH⟩;rw[lH];clear lH)
  | (go_at_call 12;refine(V.o 0).mono ?_;rintro e w5 ⟨rfl,y5,nL⟩;have eL:=fV nL;clear nL))
 have Z:QQ (QY LG 12 #[.slice a2 N c2,.slice a3 N c3] w5 λ e w'=>e=.returned (.bool true)/\∃y,w'=w5.drewN y):=by
  unfold QQ;rw[eL.o];exact Y.o y5
 have hE:QQ (∃y,w5=D.drewN y):=⟨y5,eL.o⟩
 clear eL V Y;go_upto_region 6 with(first
  | (go_at_call 12;refine Z.o.mono ?_;rintro e w6 ⟨rfl,y6,nN⟩;have hI:=fV nN;clear nN))
 obtain⟨y,hy⟩:∃y,w6=D.drewN y:=by obtain⟨y,hy⟩:=hE.o;exact⟨y+y6,by rw[hI.o,hy];unfold World.drewN;simp only[Nat.add_assoc]⟩
 have hP:PI B p w6 O cs vb bc 0 T:=by rw[hy];exact hF.o.draw y
 have hW:w6.ownsRow (B+1) 79 3 (.slice a1 N c1) L.length (hZ L):=by
  have:=oZ cF.o (base':=B+1) (by omega);rw[HN.o]at this ⊢;rw[hy];exact this
 have hY:w6.ownsRow (B+1) 79 3 (.slice a2 N c2) L.length (hZ L):=by
  have:=oZ cN.o (base':=B+1) (by omega);rw[HN.o]at this ⊢;rw[hy];exact this
 have E6:w6.heap.size=D.heap.size:=by rw[hy];rfl
 have hH:=fV hY;have rL:QQ (Below B w w6):=by unfold QQ;rw[hy];exact⟨Q.o.os,Q.o.tape,Q.o.output,Q.o.size,Q.o.block⟩
 have hD:=fV (U4 hP hW (λ k F=>(aO.o k F).1) C.o tO.o (by have:=hC.o;omega) zL);clear hI hy hP hW hY hE Z cF cN cP hF;go_wp2_with fail;refine hD.o.mono ?_;rintro e w7 ⟨rfl,O7,H0,B1,bN,hT,aT,hM,bC,aL⟩;have iN:w7.ownsRow (B+1) 79 3 (.slice a2 N c2) L.length (hZ L):=iH hH.o (λ k F=>by
  obtain⟨q1,q2,q3⟩:=bS.o k F;exact(aL k (by omega) q1 (λ e=>by have:=(aO.o k e).2;omega)).2)
 have hR:∀k,(LI a2 N c2).ownBlock=some k->O7 k=0:=λ k F=>by
  obtain⟨q1,q2,q3⟩:=bS.o k F;exact(aL k (by omega) q1 (λ e=>by have:=(aO.o k e).2;omega)).1
 have rO:=fV (rL.o.trans bC);have sW:=fV hT;have eX:=fV aT;have sR:=fV (U4 bN iN hR C.o (by rw[aT,hM]) (by rw[aT];exact hC.o) zL);clear bN hT aT hM bC aL iN hR hD hH;go_wp2_with fail;refine sR.o.mono ?_;rintro e w8 ⟨rfl,O8,A3,aR,bO,hU,hL,hN,bK,_⟩;have rT:=fV (rO.o.trans bK);have tT:=fV bO;have tL:QQ (∀f,f<=4->aR f=bc f):=λ f hf=>(hU f hf).trans (sW.o f hf)
 have qL:QQ ((aR 5).length=(bc 5).length+2):=by unfold QQ;rw[hL,eX.o]
 have qR:QQ ((aR 6).length=(bc 5).length+2):=by unfold QQ;rw[hN,eX.o]
 clear bO hU hL hN bK;go_wp2;go_ret;exact⟨rfl,O8,A3,aR,_,tT.o,tL.o,qL.o,qR.o,rT.o⟩
theorem bJ:(Tryz.prog.info? 158).map (·.size)=some 256:=by kernel_rfl
theorem bW:Tryz.zeroCells158.size=256:=by kernel_rfl
theorem Tv(f:Nat->Bool)(w:tW):
  QY LG 138 #[.agg (gQ f).toArray] w λ e w'=>e=.returned (.agg (gQ λ i=> !(f i)).toArray)/\Bl w w':=by
 have X:QQ (((w.alloc (.cells (gQ f).toArray 158)).alloc (.cells LD 158)).rangeAt w.heap.size 0 (gQ f)):=
  NQ (zG w (gQ f) 158) _
 have HT:QQ (((w.alloc (.cells (gQ f).toArray 158)).alloc (.cells LD 158)).there w.heap.size 0 256):=
  OD (pA w (gQ f) 158 256 (gM f)) _
 have Y:QQ (((w.alloc (.cells (gQ f).toArray 158)).alloc (.cells LD 158)).there (w.heap.size+1) 0 256):=
  iD _ LD 158 _ 256 bW (by simp)
 have V:QQ (Bl w ((w.alloc (.cells (gQ f).toArray 158)).alloc (.cells LD 158))):=
  (bR.alloc lR _).alloc (by simp) _
 go_enter func138,ntmps138;go_wp2_with fail;generalize (w.alloc (.cells (gQ f).toArray 158)).alloc (.cells LD 158)=W at*
 go_loopw [4] (λ x wr=>∃k:Nat,k<=256/\x=.int .i64 (k:Int)/\wr.rangeAt w.heap.size 0 (gQ λ i=>if i<k then !(f i)else f i)/\wr.there w.heap.size 0 256/\wr.there (w.heap.size+1) 0 256/\Bl w wr)
  (λ x _=>256-(QP x).toNat)
 case atStart=>exact⟨0,by omega,rfl,X.o,HT.o,Y.o,V.o⟩
 case round=>
  obtain⟨k,hk,rfl,U,ht,hz,hb⟩:=hrel;have C:=U;have J:QQ (wr.there w.heap.size 0 256):=ht;have F:QQ (wr.there (w.heap.size+1) 0 256):=hz;have I:QQ (Bl w wr):=hb;have C:QQ (wr.rangeAt w.heap.size 0 (gQ λ i=>if i<k then !(f i)else f i)):=U;clear U ht hz hb X HT Y V;by_cases D:k<256
  ·have c1:=C.o k _ (wJ _ k D);rw[aA (PG k),MJ]at c1;have c2:=(J.o k D).2;rw[MJ]at c2;have aL:(0:Int)<=(k:Int)/\(k:Int)<256:=by omega
   go_wp2;go_roundw
   case rel=>
    refine⟨k+1,D,by go_num,?_,pM J.o _ _,pM F.o _ _,I.o.setCell (p:=⟨w.heap.size,k,none⟩) lR _⟩;have h:=Ag C.o D (!(f k));have e:gQ (λ i=>if i=k then !(f k)else if i<k then !(f i)else f i)=gQ (λ i=>if i<k+1 then !(f i)else f i):=by
     refine tJ (λ i _=>?_);by_cases Q:i=k
     ·rw[aB Q,aB (by omega),Q]
     ·rw[aA Q];by_cases h2:i<k
      ·rw[aB h2,aB (by omega)]
      ·rw[aA h2,aA (by omega)]
    rw[e]at h;exact h
   case measure=>simp[QP];omega
  ·have e:k=256:=by omega
   subst e;have Z:gQ (λ i=>if i<256 then !(f i)else f i)=gQ (λ i=> !(f i)):=tJ (λ i hi=>by rw[aB hi]);rw[Z]at C;clear Z;go_wp2_with (first
    | (refine QR rfl 158 (.tmp 1) rfl w.heap.size 0 rfl (gQ λ i=> !(f i)) _ C.o LJ rfl (by rw[gM];exact bJ) ?_)
    | (refine QS rfl 158 (.tmp 2) (.tmp 14) rfl (w.heap.size+1) 0 (gQ λ i=> !(f i)).toArray rfl rfl (by rw[iJ];exact F.o) (by rw[iJ];exact bJ) (QT (mB _)) ?_))
   refine lE results138 (w.heap.size+1) 0 (gQ λ i=> !(f i)) _ rfl ?_ LJ rfl (by rw[gM];exact bJ) rfl ⟨rfl,fX _ _ _ _ I.o (by omega)⟩;exact LF _ _ _ _ (by rw[gM];exact F.o)
theorem Ej(f:Nat->Bool)(a b:Int)(w:tW):
  QY LG 140 #[.agg (gQ f).toArray,.int .i64 a,.int .i64 b] w λ e w'=>e=.returned (.agg (gQ (jI f a b)).toArray)/\Bl w w':=by
 have HR:QQ (((w.alloc (.cells (gQ f).toArray 158)).alloc (.cells LD 158)).rangeAt w.heap.size 0 (gQ f)):=
  NQ (zG w (gQ f) 158) _
 have HT:QQ (((w.alloc (.cells (gQ f).toArray 158)).alloc (.cells LD 158)).there w.heap.size 0 256):=
  OD (pA w (gQ f) 158 256 (gM f)) _
 have HZ:QQ (((w.alloc (.cells (gQ f).toArray 158)).alloc (.cells LD 158)).there (w.heap.size+1) 0 256):=
  iD _ LD 158 _ 256 bW (by simp)
 have HB:QQ (Bl w ((w.alloc (.cells (gQ f).toArray 158)).alloc (.cells LD 158))):=
  (bR.alloc lR _).alloc (by simp) _
 go_enter func140,ntmps140;go_wp2_with fail;generalize (w.alloc (.cells (gQ f).toArray 158)).alloc (.cells LD 158)=W at*
 go_loopw [8] (λ x wr=>∃k:Nat,k<=256/\x=.int .i64 (k:Int)/\wr.rangeAt w.heap.size 0 (gQ λ i=>if i<k then jI f a b i else f i)/\wr.there w.heap.size 0 256/\wr.there (w.heap.size+1) 0 256/\Bl w wr)
  (λ x _=>256-(QP x).toNat)
 case atStart=>exact⟨0,by omega,rfl,HR.o,HT.o,HZ.o,HB.o⟩
 case round=>
  obtain⟨k,hk,rfl,hr,ht,hz,hb⟩:=hrel;have Q:QQ (wr.there w.heap.size 0 256):=ht;have F:QQ (wr.there (w.heap.size+1) 0 256):=hz;have J:QQ (Bl w wr):=hb;have C:QQ (wr.rangeAt w.heap.size 0 (gQ λ i=>if i<k then jI f a b i else f i)):=hr;clear hr ht hz hb HR HT HZ HB;by_cases D:k<256
  ·have c1:=C.o k _ (wJ _ k D);rw[aA (PG k),MJ]at c1;have c2:=(Q.o k D).2;rw[MJ]at c2;have aL:(0:Int)<=(k:Int)/\(k:Int)<256:=by omega
   by_cases I:a<=(k:Int)/\(k:Int)<=b
   ·obtain⟨X,Y⟩:=I;go_wp2;go_roundw
    case rel=>
     refine⟨k+1,D,by go_num,?_,pM Q.o _ _,pM F.o _ _,J.o.setCell (p:=⟨w.heap.size,k,none⟩) lR _⟩;have h:=Ag C.o D true;have e:gQ (λ i=>if i=k then true else if i<k then jI f a b i else f i)=gQ (λ i=>if i<k+1 then jI f a b i else f i):=by
      refine tJ (λ i _=>?_);by_cases V:i=k
      ·rw[aB V,aB (by omega),V];unfold jI;simp[X,Y]
      ·rw[aA V];by_cases U:i<k
       ·rw[aB U,aB (by omega)]
       ·rw[aA U,aA (by omega)]
     rw[e]at h;exact h
    case measure=>simp[QP];omega
   ·have Z:QQ (gQ (λ i=>if i<k then jI f a b i else f i)=gQ (λ i=>if i<k+1 then jI f a b i else f i)):=by
     refine tJ (λ i _=>?_);by_cases V:i=k
     ·rw[V,aA (by omega),aB (by omega)];unfold jI;simp;intro U h3;exact absurd ⟨U,h3⟩ I
     ·by_cases U:i<k
      ·rw[aB U,aB (by omega)]
      ·rw[aA U,aA (by omega)]
    rw[Z.o]at C;by_cases V:a<=(k:Int)
    ·have U:¬((k:Int)<=b):=λ h=>I ⟨V,h⟩
     clear I Z;go_wp2;go_roundw
     case rel=>exact⟨k+1,D,by go_num,C.o,Q.o,F.o,J.o⟩
     case measure=>simp[QP];omega
    ·clear I Z;go_wp2;go_roundw
     case rel=>exact⟨k+1,D,by go_num,C.o,Q.o,F.o,J.o⟩
     case measure=>simp[QP];omega
  ·have e:k=256:=by omega
   subst e;have er:gQ (λ i=>if i<256 then jI f a b i else f i)=gQ (jI f a b):=tJ (λ i hi=>by rw[aB hi]);rw[er]at C;clear er;go_wp2_with (first
    | (refine QR rfl 158 (.tmp 3) rfl w.heap.size 0 rfl (gQ (jI f a b)) _ C.o LJ rfl (by rw[gM];exact bJ) ?_)
    | (refine QS rfl 158 (.tmp 6) (.tmp 22) rfl (w.heap.size+1) 0 (gQ (jI f a b)).toArray rfl rfl (by rw[iJ];exact F.o) (by rw[iJ];exact bJ) (QT (mB _)) ?_))
   refine lE results140 (w.heap.size+1) 0 (gQ (jI f a b)) _ rfl ?_ LJ rfl (by rw[gM];exact bJ) rfl ⟨rfl,fX _ _ _ _ J.o (by omega)⟩;exact LF _ _ _ _ (by rw[gM];exact F.o)
section
theorem fZ{p:Prop}(h:p):QQ p:=h
structure Rd(w:tW)(rb aH top:Nat)(t:tB)(st:gS)(vr vn vp:tV):Prop where
 c0:w.cell? ⟨rb,0,none⟩=some (.string t)
 c1:w.cell? ⟨rb,1,none⟩=some (.int .i64 st.at_)
 c2:w.cell? ⟨rb,2,none⟩=some vr
 c3:w.cell? ⟨rb,3,none⟩=some vn
 c4:w.cell? ⟨rb,4,none⟩=some vp
 fz:∀i,w.frozen? ⟨rb,i,none⟩=false
 rr:w.ownsRow aH 119 6 vr st.aX.length (D0 st.aX)
 rn:w.ownsRow aH 162 3 vn st.aV.length (xC st.aV)
 rp:w.ownsRow aH 158 256 vp st.aW.length (Z0 st.aW)
 hb:rb<aH
 hbt:aH<=top
 hz:top<=w.heap.size
 lr:∀k,vr.ownBlock=some k->k<top
 ln:∀k,vn.ownBlock=some k->k<top
 lp:∀k,vp.ownBlock=some k->k<top
 a1:qY vr vn
 a2:qY vr vp
 a3:qY vn vp
variable {w w':tW}{rb aH top:Nat}{t:tB}{st:gS}{vr vn vp:tV}
theorem X5{w w':tW}{e:TypeId}{v:tV}{xs:List tV}(D:w.ownsRow aH e size v m xs)(F:Below top w w')(I:∀k,v.ownBlock=some k->k<top):w'.ownsRow aH e size v m xs:=by
 refine⟨D.1,?_⟩;rcases D.2 with J|⟨g,aJ,o,rfl,C,hg,rest⟩
 ·exact .inl J
 ·exact .inr ⟨g,aJ,o,rfl,C,(F.block g (I g rfl)).trans hg,rest⟩
theorem Rd.below(h:Rd w rb aH top t st vr vn vp)(o:Below top w w'):Rd w' rb aH top t st vr vn vp:=by
 have F:=h.hb;have D:=h.hbt;have C:rb<top:=by omega
 have cl:∀i,w'.cell? ⟨rb,i,none⟩=w.cell? ⟨rb,i,none⟩:=λ i=>o.cell (p:=⟨rb,i,none⟩) C
 exact⟨(cl 0).trans h.c0,(cl 1).trans h.c1,(cl 2).trans h.c2,(cl 3).trans h.c3,(cl 4).trans h.c4,λ i=>(o.frozen (p:=⟨rb,i,none⟩) C).trans (h.fz i),
  X5 h.rr o h.lr,X5 h.rn o h.ln,X5 h.rp o h.lp,h.hb,h.hbt,LU h.hz o.size,h.lr,h.ln,h.lp,h.a1,h.a2,h.a3⟩
theorem Rd.drewN(h:Rd w rb aH top t st vr vn vp)(q:Nat):Rd (w.drewN q) rb aH top t st vr vn vp:=
 ⟨h.c0,h.c1,h.c2,h.c3,h.c4,h.fz,h.rr,h.rn,h.rp,h.hb,h.hbt,h.hz,h.lr,h.ln,h.lp,h.a1,h.a2,h.a3⟩
theorem Rd.drew(h:Rd w rb aH top t st vr vn vp):Rd w.drew rb aH top t st vr vn vp:=
 ⟨h.c0,h.c1,h.c2,h.c3,h.c4,h.fz,h.rr,h.rn,h.rp,h.hb,h.hbt,h.hz,h.lr,h.ln,h.lp,h.a1,h.a2,h.a3⟩
theorem Rd.raise(h:Rd w rb aH top t st vr vn vp):Rd w rb aH w.heap.size t st vr vn vp:=by
 have D:=h.hz;have C:=h.hbt;exact⟨h.c0,h.c1,h.c2,h.c3,h.c4,h.fz,h.rr,h.rn,h.rp,h.hb,by omega,lR,λ k o=>by have:=h.lr k o;omega,λ k o=>by have:=h.ln k o;omega,λ k o=>by have:=h.lp k o;omega,h.a1,h.a2,h.a3⟩
theorem Rd.retop{w0:tW}{o:Nat}{jX:gS}(C:Rd w0 rb aH o t jX vr vn vp)(h:Rd w rb aH top t st vr vn vp)(D:o<=w.heap.size):Rd w rb aH o t st vr vn vp:=
 ⟨h.c0,h.c1,h.c2,h.c3,h.c4,h.fz,h.rr,h.rn,h.rp,h.hb,C.hbt,D,C.lr,C.ln,C.lp,h.a1,h.a2,h.a3⟩
theorem Rd.adv(h:Rd w rb aH top t st vr vn vp):Rd (w.setCell ⟨rb,1,none⟩ (.int .i64 ((st.at_:Int)+1))) rb aH top t (iO st) vr vn vp:=by
 have o:∀j u,j≠1->w.cell? ⟨rb,j,none⟩=some u->(w.setCell ⟨rb,1,none⟩ (.int .i64 ((st.at_:Int)+1))).cell? ⟨rb,j,none⟩=some u:=λ j u D C=>by
  rw[LQ (h:=by intro e;injection e;omega)];exact C
 refine⟨o 0 _ (by omega) h.c0,MN _ _ _ h.c1,o 2 _ (by omega) h.c2,o 3 _ (by omega) h.c3,o 4 _ (by omega) h.c4,
  λ i=>by rw[LY];exact h.fz i,QO h.rr h.hb _,QO h.rn h.hb _,QO h.rp h.hb _,h.hb,h.hbt,?_,h.lr,h.ln,h.lp,h.a1,h.a2,h.a3⟩
 have:=h.hz;simp[ME];omega
def FE(rb:Nat)(vr vn vp:tV)(k:Nat):Prop:=k=rb\/vr.ownBlock=some k\/vn.ownBlock=some k\/vp.ownBlock=some k
structure Fr(w w':tW)(rb:Nat)(vr vn vp vr' vn' vp':tV):Prop where
 os:w'.os=w.os
 tape:w'.tape=w.tape
 output:w'.output=w.output
 size:w.heap.size<=w'.heap.size
 block:∀k,k<w.heap.size->¬FE rb vr vn vp k->w'.heap[k]?=w.heap[k]?
 stay:∀k,k<w.heap.size->¬FE rb vr vn vp k->¬FE rb vr' vn' vp' k
theorem Fr.trans{a b c:tW}{vr vn vp I o D J C F:tV}(h:Fr a b rb vr vn vp I o D)(k:Fr b c rb I o D J C F):Fr a c rb vr vn vp J C F:=
 ⟨k.os.trans h.os,k.tape.trans h.tape,k.output.trans h.output,LU h.size k.size,λ i hi Q=>(k.block i (LH hi h.size) (h.stay i hi Q)).trans (h.block i hi Q),
  λ i hi Q=>k.stay i (LH hi h.size) (h.stay i hi Q)⟩
theorem Fr.of_grown{a b:tW}{vr vn vp:tV}(h:a.grownBy b (some rb)):Fr a b rb vr vn vp vr vn vp:=
 ⟨h.os,h.tape,h.output,h.size,λ k C o=>h.block k C (λ e=>o (.inl (Option.some.inj e))),λ _ _ o=>o⟩
theorem Fr.of_drew{a b:tW}{vr vn vp D o C:tV}(h:Fr a.drew b rb vr vn vp D o C):Fr a b rb vr vn vp D o C:=⟨h.os,h.tape,h.output,h.size,h.block,h.stay⟩
def Fp(w:tW)(rb aH:Nat)(t:tB)(vr vn vp:tV)(st:gS)(w':tW):Prop:=∃D o C,Rd w' rb aH w'.heap.size t st D o C/\Fr w w' rb vr vn vp D o C
theorem Rd.moreN{W w4:tW}{t:tB}{st:gS}{vr vn vp:tV}(h:Rd W rb aH top t st vr vn vp){o:Obj}{x:Int×Int×Int}{g aJ:Nat}
  (U:w4.ownsRow aH 162 3 (.slice (some ⟨g,0,none⟩) (st.aV.length+1) aJ) (st.aV.length+1) (xC st.aV++[.int .i64 x.1,.int .i64 x.2.1,.int .i64 x.2.2]))
  (C:(W.alloc o).grownBy w4 vn.ownBlock) (Q:vn.ownBlock=some g\/g=W.heap.size+1) (aT:g<w4.heap.size):
  Rd (w4.setCell ⟨rb,3,none⟩ (.slice (some ⟨g,0,none⟩) (st.aV.length+1) aJ)) rb aH w4.heap.size t {st with aV:=st.aV++[x]} vr (.slice (some ⟨g,0,none⟩) (st.aV.length+1) aJ) vp/\
  Fr W (w4.setCell ⟨rb,3,none⟩ (.slice (some ⟨g,0,none⟩) (st.aV.length+1) aJ)) rb vr vn vp vr (.slice (some ⟨g,0,none⟩) (st.aV.length+1) aJ) vp:=by
 have hb:=h.hb;have aR:=h.hbt;have hz:=h.hz;have Z:=C.size;simp at Z;have h':Rd (W.alloc o) rb aH top t st vr vn vp:=h.below (bR.alloc h.hz o);have Y:some rb≠vn.ownBlock:=λ e=>by have:=(h.rn.lt rb e.symm).1;omega
 obtain⟨gc,gf⟩:=gH C (k:=rb) (by omega) Y;have D:∀j u,j≠3->W.cell? ⟨rb,j,none⟩=some u->(w4.setCell ⟨rb,3,none⟩ (.slice (some ⟨g,0,none⟩) (st.aV.length+1) aJ)).cell? ⟨rb,j,none⟩=some u:=λ j u hj hu=>by
  rw[LQ (h:=by intro e;injection e;omega),gc];exact hu
 have aO:∀u,W.cell? ⟨rb,3,none⟩=some u->(w4.setCell ⟨rb,3,none⟩ (.slice (some ⟨g,0,none⟩) (st.aV.length+1) aJ)).cell? ⟨rb,3,none⟩=some (.slice (some ⟨g,0,none⟩) (st.aV.length+1) aJ):=λ u hu=>
  MN (u:=u) _ _ _ ((gc 3).trans hu)
 have kp:∀(v:tV)(m sz:Nat)(xs:List tV)(e:TypeId),(W.alloc o).ownsRow aH e sz v m xs->qY vn v->(w4.setCell ⟨rb,3,none⟩ (.slice (some ⟨g,0,none⟩) (st.aV.length+1) aJ)).ownsRow aH e sz v m xs:=λ v m sz xs e hr V=>by
  refine QO (hr.kept C ?_) h.hb _
  cases hv:v.ownBlock with
  | none=>exact .inl rfl
  | some k=>right;intro e;exact V k e.symm hv
 have nw:∀v:tV,(∀k,v.ownBlock=some k->k<top)->qY vn v->qY (.slice (some ⟨g,0,none⟩) (st.aV.length+1) aJ) v:=λ v X V k e1 e2=>by
  have e:g=k:=by simpa[LO]using e1
  subst e;rcases Q with J|J
  ·exact V g J e2
  ·have:=X g e2;omega
 have aL:(w4.setCell ⟨rb,3,none⟩ (.slice (some ⟨g,0,none⟩) (st.aV.length+1) aJ)).ownsRow aH 162 3 (.slice (some ⟨g,0,none⟩) (st.aV.length+1) aJ) (st.aV++[x]).length (xC (st.aV++[x])):=by
  have e:xC (st.aV++[x])=xC st.aV++[.int .i64 x.1,.int .i64 x.2.1,.int .i64 x.2.2]:=by simp[xC]
  rw[e,LP,LR];exact QO U h.hb _
 have tp:∀v:tV,(∀k,v.ownBlock=some k->k<top)->∀k,v.ownBlock=some k->k<w4.heap.size:=λ v X k I=>by have:=X k I;omega
 have tg:∀k,(LI (some ⟨g,0,none⟩) (st.aV.length+1) aJ).ownBlock=some k->k<w4.heap.size:=λ k I=>by
  have e:g=k:=by simpa[LO]using I
  omega
 refine⟨⟨D 0 _ (by omega) h.c0,D 1 _ (by omega) h.c1,D 2 _ (by omega) h.c2,aO _ h.c3,D 4 _ (by omega) h.c4,λ i=>by rw[LY,gf];exact h.fz i,kp _ _ _ _ _ h'.rr h.a1.symm,aL,kp _ _ _ _ _ h'.rp h.a3,h.hb,by omega,by simp[ME],tp _ h.lr,tg,tp _ h.lp,(nw _ h.lr h.a1.symm).symm,h.a2,nw _ h.lp h.a3⟩,?_⟩;refine⟨C.os,C.tape,C.output,by simp[ME];omega,λ k I F=>?_,λ k I F=>?_⟩
 ·rw[MQ _ _ _ _ (by intro e;exact F (.inl e)),C.block k (by simp;omega) (by intro e;exact F (.inr (.inr (.inl e.symm))))];exact MD W o k I
 ·rintro(e|e|e|e)
  ·exact F (.inl e)
  ·exact F (.inr (.inl e))
  ·have e:g=k:=by simpa[LO]using e
   subst e;rcases Q with J|J
   ·exact F (.inr (.inr (.inl J)))
   ·omega
  ·exact F (.inr (.inr (.inr e)))
theorem Rd.moreP{W w4:tW}{t:tB}{st:gS}{vr vn vp:tV}(h:Rd W rb aH top t st vr vn vp){o:Obj}{x:Nat->Bool}{g aJ:Nat}
  (U:w4.ownsRow aH 158 256 (.slice (some ⟨g,0,none⟩) (st.aW.length+1) aJ) (st.aW.length+1) (Z0 st.aW++gQ x))
  (C:(W.alloc o).grownBy w4 vp.ownBlock) (Q:vp.ownBlock=some g\/g=W.heap.size+1) (aT:g<w4.heap.size):
  Rd (w4.setCell ⟨rb,4,none⟩ (.slice (some ⟨g,0,none⟩) (st.aW.length+1) aJ)) rb aH w4.heap.size t {st with aW:=st.aW++[x]} vr vn (.slice (some ⟨g,0,none⟩) (st.aW.length+1) aJ)/\
  Fr W (w4.setCell ⟨rb,4,none⟩ (.slice (some ⟨g,0,none⟩) (st.aW.length+1) aJ)) rb vr vn vp vr vn (.slice (some ⟨g,0,none⟩) (st.aW.length+1) aJ):=by
 have hb:=h.hb;have aR:=h.hbt;have hz:=h.hz;have Z:=C.size;simp at Z;have h':Rd (W.alloc o) rb aH top t st vr vn vp:=h.below (bR.alloc h.hz o);have Y:some rb≠vp.ownBlock:=λ e=>by have:=(h.rp.lt rb e.symm).1;omega
 obtain⟨gc,gf⟩:=gH C (k:=rb) (by omega) Y;have D:∀j u,j≠4->W.cell? ⟨rb,j,none⟩=some u->(w4.setCell ⟨rb,4,none⟩ (.slice (some ⟨g,0,none⟩) (st.aW.length+1) aJ)).cell? ⟨rb,j,none⟩=some u:=λ j u hj hu=>by
  rw[LQ (h:=by intro e;injection e;omega),gc];exact hu
 have aO:∀u,W.cell? ⟨rb,4,none⟩=some u->(w4.setCell ⟨rb,4,none⟩ (.slice (some ⟨g,0,none⟩) (st.aW.length+1) aJ)).cell? ⟨rb,4,none⟩=some (.slice (some ⟨g,0,none⟩) (st.aW.length+1) aJ):=λ u hu=>
  MN (u:=u) _ _ _ ((gc 4).trans hu)
 have kp:∀(v:tV)(m sz:Nat)(xs:List tV)(e:TypeId),(W.alloc o).ownsRow aH e sz v m xs->qY vp v->(w4.setCell ⟨rb,4,none⟩ (.slice (some ⟨g,0,none⟩) (st.aW.length+1) aJ)).ownsRow aH e sz v m xs:=λ v m sz xs e hr V=>by
  refine QO (hr.kept C ?_) h.hb _
  cases hv:v.ownBlock with
  | none=>exact .inl rfl
  | some k=>right;intro e;exact V k e.symm hv
 have nw:∀v:tV,(∀k,v.ownBlock=some k->k<top)->qY vp v->qY (.slice (some ⟨g,0,none⟩) (st.aW.length+1) aJ) v:=λ v X V k e1 e2=>by
  have e:g=k:=by simpa[LO]using e1
  subst e;rcases Q with J|J
  ·exact V g J e2
  ·have:=X g e2;omega
 have aL:(w4.setCell ⟨rb,4,none⟩ (.slice (some ⟨g,0,none⟩) (st.aW.length+1) aJ)).ownsRow aH 158 256 (.slice (some ⟨g,0,none⟩) (st.aW.length+1) aJ) (st.aW++[x]).length (Z0 (st.aW++[x])):=by
  have e:Z0 (st.aW++[x])=Z0 st.aW++gQ x:=by simp[Z0]
  rw[e,LP,LR];exact QO U h.hb _
 have tp:∀v:tV,(∀k,v.ownBlock=some k->k<top)->∀k,v.ownBlock=some k->k<w4.heap.size:=λ v X k I=>by have:=X k I;omega
 have tg:∀k,(LI (some ⟨g,0,none⟩) (st.aW.length+1) aJ).ownBlock=some k->k<w4.heap.size:=λ k I=>by
  have e:g=k:=by simpa[LO]using I
  omega
 refine⟨⟨D 0 _ (by omega) h.c0,D 1 _ (by omega) h.c1,D 2 _ (by omega) h.c2,D 3 _ (by omega) h.c3,aO _ h.c4,λ i=>by rw[LY,gf];exact h.fz i,kp _ _ _ _ _ h'.rr h.a2.symm,kp _ _ _ _ _ h'.rn h.a3.symm,aL,h.hb,by omega,by simp[ME],tp _ h.lr,tp _ h.ln,tg,h.a1,(nw _ h.lr h.a2.symm).symm,(nw _ h.ln h.a3.symm).symm⟩,?_⟩;refine⟨C.os,C.tape,C.output,by simp[ME];omega,λ k I F=>?_,λ k I F=>?_⟩
 ·rw[MQ _ _ _ _ (by intro e;exact F (.inl e)),C.block k (by simp;omega) (by intro e;exact F (.inr (.inr (.inr e.symm))))];exact MD W o k I
 ·rintro(e|e|e|e)
  ·exact F (.inl e)
  ·exact F (.inr (.inl e))
  ·exact F (.inr (.inr (.inl e)))
  ·have e:g=k:=by simpa[LO]using e
   subst e;rcases Q with J|J
   ·exact F (.inr (.inr (.inr J)))
   ·omega
theorem Rd.moreR{W w4:tW}{t:tB}{st:gS}{vr vn vp:tV}(h:Rd W rb aH top t st vr vn vp){o:Obj}{x:(Nat->Bool)×Int×Int}{g aJ:Nat}
  (U:w4.ownsRow aH 119 6 (.slice (some ⟨g,0,none⟩) (st.aX.length+1) aJ) (st.aX.length+1) (D0 st.aX++nH x))
  (C:(W.alloc o).grownBy w4 vr.ownBlock) (Q:vr.ownBlock=some g\/g=W.heap.size+1) (aT:g<w4.heap.size):
  Rd (w4.setCell ⟨rb,2,none⟩ (.slice (some ⟨g,0,none⟩) (st.aX.length+1) aJ)) rb aH w4.heap.size t {st with aX:=st.aX++[x]} (.slice (some ⟨g,0,none⟩) (st.aX.length+1) aJ) vn vp/\
  Fr W (w4.setCell ⟨rb,2,none⟩ (.slice (some ⟨g,0,none⟩) (st.aX.length+1) aJ)) rb vr vn vp (.slice (some ⟨g,0,none⟩) (st.aX.length+1) aJ) vn vp:=by
 have hb:=h.hb;have aR:=h.hbt;have hz:=h.hz;have Z:=C.size;simp at Z;have h':Rd (W.alloc o) rb aH top t st vr vn vp:=h.below (bR.alloc h.hz o);have Y:some rb≠vr.ownBlock:=λ e=>by have:=(h.rr.lt rb e.symm).1;omega
 obtain⟨gc,gf⟩:=gH C (k:=rb) (by omega) Y;have D:∀j u,j≠2->W.cell? ⟨rb,j,none⟩=some u->(w4.setCell ⟨rb,2,none⟩ (.slice (some ⟨g,0,none⟩) (st.aX.length+1) aJ)).cell? ⟨rb,j,none⟩=some u:=λ j u hj hu=>by
  rw[LQ (h:=by intro e;injection e;omega),gc];exact hu
 have aO:∀u,W.cell? ⟨rb,2,none⟩=some u->(w4.setCell ⟨rb,2,none⟩ (.slice (some ⟨g,0,none⟩) (st.aX.length+1) aJ)).cell? ⟨rb,2,none⟩=some (.slice (some ⟨g,0,none⟩) (st.aX.length+1) aJ):=λ u hu=>
  MN (u:=u) _ _ _ ((gc 2).trans hu)
 have kp:∀(v:tV)(m sz:Nat)(xs:List tV)(e:TypeId),(W.alloc o).ownsRow aH e sz v m xs->qY vr v->(w4.setCell ⟨rb,2,none⟩ (.slice (some ⟨g,0,none⟩) (st.aX.length+1) aJ)).ownsRow aH e sz v m xs:=λ v m sz xs e hr V=>by
  refine QO (hr.kept C ?_) h.hb _
  cases hv:v.ownBlock with
  | none=>exact .inl rfl
  | some k=>right;intro e;exact V k e.symm hv
 have nw:∀v:tV,(∀k,v.ownBlock=some k->k<top)->qY vr v->qY (.slice (some ⟨g,0,none⟩) (st.aX.length+1) aJ) v:=λ v X V k e1 e2=>by
  have e:g=k:=by simpa[LO]using e1
  subst e;rcases Q with J|J
  ·exact V g J e2
  ·have:=X g e2;omega
 have aL:(w4.setCell ⟨rb,2,none⟩ (.slice (some ⟨g,0,none⟩) (st.aX.length+1) aJ)).ownsRow aH 119 6 (.slice (some ⟨g,0,none⟩) (st.aX.length+1) aJ) (st.aX++[x]).length (D0 (st.aX++[x])):=by
  have e:D0 (st.aX++[x])=D0 st.aX++nH x:=by simp[D0]
  rw[e,LP,LR];exact QO U h.hb _
 have tp:∀v:tV,(∀k,v.ownBlock=some k->k<top)->∀k,v.ownBlock=some k->k<w4.heap.size:=λ v X k I=>by have:=X k I;omega
 have tg:∀k,(LI (some ⟨g,0,none⟩) (st.aX.length+1) aJ).ownBlock=some k->k<w4.heap.size:=λ k I=>by
  have e:g=k:=by simpa[LO]using I
  omega
 refine⟨⟨D 0 _ (by omega) h.c0,D 1 _ (by omega) h.c1,aO _ h.c2,D 3 _ (by omega) h.c3,D 4 _ (by omega) h.c4,λ i=>by rw[LY,gf];exact h.fz i,aL,kp _ _ _ _ _ h'.rn h.a1,kp _ _ _ _ _ h'.rp h.a2,h.hb,by omega,by simp[ME],tg,tp _ h.ln,tp _ h.lp,nw _ h.ln h.a1,nw _ h.lp h.a2,h.a3⟩,?_⟩;refine⟨C.os,C.tape,C.output,by simp[ME];omega,λ k I F=>?_,λ k I F=>?_⟩
 ·rw[MQ _ _ _ _ (by intro e;exact F (.inl e)),C.block k (by simp;omega) (by intro e;exact F (.inr (.inl e.symm)))];exact MD W o k I
 ·rintro(e|e|e|e)
  ·exact F (.inl e)
  ·have e:g=k:=by simpa[LO]using e
   subst e;rcases Q with J|J
   ·exact F (.inr (.inl J))
   ·omega
  ·exact F (.inr (.inr (.inl e)))
  ·exact F (.inr (.inr (.inr e)))
end
theorem uT(b:Int)(w:tW):QY LG 134 #[.int .i64 b] w λ e w'=>e=.returned (.bool (nT b))/\w'=w:=by
 by_cases o:33<=b
 ·by_cases C:b<=126
  ·have e:nT b=true:=by unfold nT;simp[o,C]
   rw[e];clear e;go_enter func134,ntmps134;go_wp2;go_ret;exact⟨by simp,rfl⟩
  ·have e:nT b=false:=by unfold nT;simp[C]
   rw[e];clear e;go_enter func134,ntmps134;go_wp2;go_ret;exact⟨by simp,rfl⟩
 ·have e:nT b=false:=by unfold nT;simp[o]
  rw[e];clear e;go_enter func134,ntmps134;go_wp2;go_ret;exact⟨rfl,rfl⟩
theorem Tt(b:Int)(w:tW):QY LG 143 #[.int .i64 b] w λ e w'=>e=.returned (.bool (Ff b))/\w'=w:=by
 have e:Ff b=(decide (97<=b)&&decide (b<=122)||(decide (65<=b)&&decide (b<=90))||(decide (48<=b)&&decide (b<=57))):=by
  unfold Ff;rw[OO];simp;omega
 rw[e];clear e;by_cases o:97<=b<;>by_cases C:b<=122<;>by_cases D:65<=b<;>by_cases F:b<=90<;>by_cases I:48<=b<;>by_cases J:b<=57
 all_goals first
  | (exfalso;omega)
  | (simp only[o,C,D,F,I,J,decide_true,decide_false,Bool.and_false,Bool.or_false,Bool.or_true,Bool.and_true]
     go_enter func143,ntmps143;go_wp2;go_ret;exact⟨by simp<;>omega,rfl⟩)
theorem V6(b:Int)(sp:tB)(w:tW)(hs:sp.size<=100):QY LG 128 #[.int .i64 b,.string sp] w λ e w'=>e=.returned (.bool (kV b sp))/\w'=w:=by
 cases hv:nT b with
 | false=>
  have e:kV b sp=false:=by unfold kV;rw[hv];rfl
  rw[e];clear e;go_enter func128,ntmps128;go_wp2_with (go_at_call 134;refine(uT _ _).mono ?_;rintro e w ⟨rfl,rfl⟩);go_ret;exact⟨rfl,rfl⟩
 | true=>
  have e:kV b sp=decide (∀i,i<sp.size->(bt sp i:Int)≠b):=by unfold kV;rw[hv];rfl
  rw[e];clear e;go_enter func128,ntmps128;go_wp2_with (go_at_call 134;refine(uT _ _).mono ?_;rintro e w ⟨rfl,rfl⟩)
  go_loop [5] (λ x=>∃k:Nat,k<=sp.size/\x=.int .i64 (k:Int)/\∀i,i<k->(bt sp i:Int)≠b) (λ x=>sp.size-(QP x).toNat)
  case atStart=>exact⟨0,zL,rfl,λ i h=>absurd h (OQ _)⟩
  case round=>
   obtain⟨k,Z,rfl,D⟩:=hrel;have J:=fZ D;clear D;by_cases F:k<sp.size
   ·have X:=kL sp k F;have Y:=mT sp k;by_cases C:(bt sp k:Int)=b
    ·have Q:QQ (decide (∀i,i<sp.size->(bt sp i:Int)≠b)=false):=by
      unfold QQ;rw[aF];intro h;exact h k F C
     have I:((bt sp k:Int)==b)=true:=beq_iff_eq.2 C;clear C;go_wp2;go_ret;exact⟨by rw[Q.o];rfl,rfl⟩
    ·have I:((bt sp k:Int)==b)=false:=aC.2 C;have U:=fZ C;clear C;go_wp2;go_round
     case rel=>
      refine⟨k+1,F,by go_num,λ i hi=>?_⟩;by_cases e:i=k
      ·rw[e];exact U.o
      ·exact J.o i (by omega)
     case measure=>simp[QP];omega
   ·have V:QQ (decide (∀i,i<sp.size->(bt sp i:Int)≠b)=true):=by
     unfold QQ;rw[aE];intro i hi;exact J.o i (by omega)
    go_wp2;go_ret;exact⟨by rw[V.o];rfl,rfl⟩
theorem wO(t:tB)(st:gS)(rb aH top:Nat)(vr vn vp:tV)(w:tW)(h:Rd w rb aH top t st vr vn vp):
  QY LG 97 #[.pointer (some ⟨rb,0,none⟩)] w λ e w'=>e=.returned (.int .i64 (gF t st.at_))/\∃q,w'=w.drewN q:=by
 have c0:=h.c0;have J:=h.c1;clear h;generalize st.at_=a at*;by_cases F:t.size<=a
 ·rw[jW F];have D:decide ((t.size:Int)<=(a:Int))=true:=by simp;omega
  go_enter func97,ntmps97;go_wp2;go_quiet (fail);go_wp2;go_ret;exact⟨rfl,_,rfl⟩
 ·rw[lK (by omega)];have D:decide ((t.size:Int)<=(a:Int))=false:=by simp;omega
  have o:=kL t a (by omega);have C:=mT t a;have Q:(0:Int)<=(a:Int)/\(a:Int)<(t.size:Int):=by omega
  have I:IntKind.i64.wrap (bt t a:Int)=(bt t a:Int):=IntWalk.i64_in _ (by omega);go_enter func97,ntmps97;go_wp2;go_quiet (fail);go_wp2;go_quiet (fail);go_wp2;go_ret;exact⟨rfl,_,NG _ _ _⟩
theorem K8(c:Nat)(s:tB)(w:tW)(hs:s.size<=1000000):
  QY LG 131 #[.int .u8 (c:Int),.string s] w λ e w'=>e=.returned (.bool (Ib c s))/\∃q,w'=w.drewN q:=by
 have I:QQ (Ib c s=decide (∃i,i<s.size/\bt s i=c)):=rfl;go_enter func131,ntmps131;go_wp2
 go_loopw [5] (λ x wr=>∃i q:Nat,i<=s.size/\x=.int .i64 (i:Int)/\(∀k,k<i->bt s k≠c)/\wr=w.drewN q) (λ x _=>s.size-(QP x).toNat)
 case atStart=>exact⟨0,0,by omega,rfl,λ k h=>by omega,rfl⟩
 case round=>
  obtain⟨i,q,hi,rfl,C,rfl⟩:=hrel;replace C:QQ (∀k,k<i->bt s k≠c):=C;by_cases D:i<s.size
  ·have F:(s[i]'D).toNat=bt s i:=kL s i D;have Z:(0:Int)<=(i:Int)/\(i:Int)<(s.size:Int):=by omega
   by_cases e:bt s i=c
   ·have d:((((s[i]'D).toNat:Nat):Int)==(c:Int))=true:=by rw[F,e];simp
    have U:QQ (Ib c s=true):=by unfold QQ;rw[I.o,aE];exact⟨i,D,e⟩
    clear e F;go_wp2;go_ret;exact⟨by rw[U.o];simp,_,rfl⟩
   ·have d:((((s[i]'D).toNat:Nat):Int)==(c:Int))=false:=by rw[F,aC];omega
    have Q:QQ (∀k,k<i+1->bt s k≠c):=λ k hk=>by
     by_cases V:k=i
     ·rw[V];exact e
     ·exact C.o k (by omega)
    clear e F;go_wp2;go_roundw
    case rel=>exact⟨i+1,_,D,by go_num,Q.o,rfl⟩
    case measure=>simp[QP];omega
  ·have e:i=s.size:=by omega
   subst e;have J:QQ (Ib c s=false):=by
    unfold QQ;rw[I.o,aF];rintro⟨k,X,Y⟩;exact C.o k X Y
   go_wp2;go_ret;exact⟨by rw[J.o];simp,q,rfl⟩
theorem L2(c:Nat)(w:tW)(Q:c<256):
  QY LG 132 #[.int .u8 (c:Int)] w λ e w'=>e=.returned (.bool (nT (c:Int)))/\∃q,w'=w.drewN q:=by
 by_cases I:33<=c
 ·have D:decide ((33:Int)<=(c:Int))=true:=by simp;omega
  by_cases J:c<=126
  ·have F:decide ((c:Int)<=126)=true:=by simp;omega
   have C:QQ (nT (c:Int)=true):=by unfold QQ nT;rw[aE];omega
   go_enter func132,ntmps132;go_wp2;go_ret;exact⟨by rw[C.o];simp,0,rfl⟩
  ·have F:decide ((c:Int)<=126)=false:=by simp;omega
   have C:QQ (nT (c:Int)=false):=by unfold QQ nT;rw[aF];omega
   go_enter func132,ntmps132;go_wp2;go_ret;exact⟨by rw[C.o];simp,0,rfl⟩
 ·have D:decide ((33:Int)<=(c:Int))=false:=by simp;omega
  have C:QQ (nT (c:Int)=false):=by unfold QQ nT;rw[aF];omega
  go_enter func132,ntmps132;go_wp2;go_ret;exact⟨by rw[C.o];simp,0,rfl⟩
def uW(c:Nat):Nat×Bool:=if c=110 then(10,true)else if c=115 then(32,true)else(c,nT (c:Int) && !Ib c B8)
theorem Ah(c:Nat)(w:tW)(Q:c<256):
  QY LG 130 #[.int .u8 (c:Int)] w λ e w'=>e=.returned (.tuple #[.int .u8 ((uW c).1:Int),.bool (uW c).2])/\∃q,w'=w.drewN q:=by
 by_cases C:c=110
 ·have D:QQ (uW c=(10,true)):=by unfold QQ uW;rw[aB C]
  have I:((c:Int)==110)=true:=by rw[C];rfl
  clear C;go_enter func130,ntmps130;go_wp2;go_ret2;exact⟨by rw[D.o];simp,0,rfl⟩
 ·have I:((c:Int)==110)=false:=by rw[aC];omega
  by_cases F:c=115
  ·have D:QQ (uW c=(32,true)):=by unfold QQ uW;rw[aA C,aB F]
   have J:((c:Int)==115)=true:=by rw[F];rfl
   clear C F;go_enter func130,ntmps130;go_wp2;go_ret2;exact⟨by rw[D.o];simp,0,rfl⟩
  ·have J:((c:Int)==115)=false:=by rw[aC];omega
   have D:QQ (uW c=(c,nT (c:Int) && !Ib c B8)):=by unfold QQ uW;rw[aA C,aA F]
   clear C F;go_enter func130,ntmps130;go_wp2_with fail;refine(K8 c B8 _ (by decide)).mono ?_;rintro e w1 ⟨rfl,U,rfl⟩;go_wp2_with fail;refine(L2 c _ Q).mono ?_;rintro e w2 ⟨rfl,V,rfl⟩;generalize Ib c B8=am at*;generalize nT (c:Int)=vi at*
   cases vi<;>cases am
   all_goals
    go_wp2;go_ret2;exact⟨by rw[D.o];simp,_,by first|rfl|(rw[NG])⟩
def qN(s:tB)(i:Nat):Nat×Nat×Bool:=
 if s.size<=i then(0,i,false)else if bt s i=92 then(if s.size<=i+1 then(0,i,false)else((uW (bt s (i+1))).1,i+2,(uW (bt s (i+1))).2))
 else(bt s i,i+1,nT (bt s i:Int) && !Ib (bt s i) Yk)
theorem Hd(s:tB)(i:Nat)(w:tW)(hs:s.size<=1000)(hi:i<=1000):
  QY LG 135 #[.string s,.int .i64 (i:Int)] w λ e w'=>e=.returned (.tuple #[.int .u8 ((qN s i).1:Int),.int .i64 ((qN s i).2.1:Int),.bool (qN s i).2.2])/\∃q,w'=w.drewN q:=by
 by_cases J:s.size<=i
 ·have D:QQ (qN s i=(0,i,false)):=by unfold QQ qN;rw[aB J]
  have Z:decide ((s.size:Int)<=(i:Int))=true:=by simp;omega
  go_enter OL,OF;go_wp2;go_ret3;exact⟨by rw[D.o];simp,0,rfl⟩
 ·have U:i<s.size:=by omega
  have Z:decide ((s.size:Int)<=(i:Int))=false:=by simp;omega
  have hb:(s[i]'U).toNat=bt s i:=kL s i U;have V:=mT s i;have aO:(0:Int)<=(i:Int)/\(i:Int)<(s.size:Int):=by omega
  have I:QQ (qN s i=if bt s i=92 then(if s.size<=i+1 then(0,i,false)else((uW (bt s (i+1))).1,i+2,(uW (bt s (i+1))).2))else(bt s i,i+1,nT (bt s i:Int) && !Ib (bt s i) Yk)):=by unfold QQ qN;rw[aA J]
  generalize bt s i=x at*;by_cases F:x=92
  ·have d2:((x:Int)==92)=true:=by rw[F];rfl
   by_cases X:s.size<=i+1
   ·have D:QQ (qN s i=(0,i,false)):=by unfold QQ;rw[I.o,aB F,aB X]
    have d3:decide ((s.size:Int)<=(i:Int)+1)=true:=by simp;omega
    clear J F I;go_enter OL,OF;go_wp2;go_ret3;exact⟨by rw[D.o];simp,0,rfl⟩
   ·have D:QQ (qN s i=((uW (bt s (i+1))).1,i+2,(uW (bt s (i+1))).2)):=by unfold QQ;rw[I.o,aB F,aA X]
    have C:i+1<s.size:=by omega
    have d3:decide ((s.size:Int)<=(i:Int)+1)=false:=by simp;omega
    have aL:(s[i+1]'C).toNat=bt s (i+1):=kL s (i+1) C;have Q:=mT s (i+1);have Y:(0:Int)<=(i:Int)+1/\(i:Int)+1<(s.size:Int):=by omega
    generalize bt s (i+1)=y at*;clear J F I;go_enter OL,OF;go_wp2_with fail;refine(Ah y _ Q).mono ?_;rintro e w1 ⟨rfl,q1,rfl⟩;generalize uW y=ey at*;obtain⟨e1,e2⟩:=ey;go_wp2;go_ret3;exact⟨by rw[D.o];simp,_,rfl⟩
  ·have d2:((x:Int)==92)=false:=by rw[aC];omega
   have D:QQ (qN s i=(x,i+1,nT (x:Int) && !Ib x Yk)):=by unfold QQ;rw[I.o,aA F]
   clear J F I;go_enter OL,OF;go_wp2_with fail;refine(K8 x Yk _ (by decide)).mono ?_;rintro e w1 ⟨rfl,q1,rfl⟩;go_wp2_with fail;refine(L2 x _ V).mono ?_;rintro e w2 ⟨rfl,q2,rfl⟩;generalize Ib x Yk=am at*;generalize nT (x:Int)=vi at*
   cases vi<;>cases am
   all_goals
    go_wp2;go_ret3;exact⟨by rw[D.o];simp,_,by first|rfl|(rw[NG])⟩
def jS(c:Nat):Int:=if 65<=c/\c<69 then(c:Int)-65 else -1
theorem C7(c:Nat)(w:tW)(Q:c<256):
  QY LG 27 #[.int .u8 (c:Int)] w λ e w'=>e=.returned (.int .i64 (jS c))/\∃q,w'=w.drewN q:=by
 by_cases I:65<=c
 ·obtain⟨k,rfl⟩:∃k,c=k+65:=⟨c-65,by omega⟩
  have D:decide ((k:Int)<0)=false:=by simp
  have U:((k+65:Nat):Int)-65=(k:Int):=by omega
  by_cases J:k<4
  ·have C:QQ (jS (k+65)=(k:Int)):=by unfold QQ jS;rw[aB (by omega)];omega
   have F:decide ((4:Int)<=(k:Int))=false:=by simp;omega
   go_enter func27,ntmps27;go_wp2;go_ret;exact⟨by rw[C.o];simp,0,rfl⟩
  ·have C:QQ (jS (k+65)= -1):=by unfold QQ jS;rw[aA (by omega)]
   have F:decide ((4:Int)<=(k:Int))=true:=by simp;omega
   go_enter func27,ntmps27;go_wp2;go_ret;exact⟨by rw[C.o];simp,0,rfl⟩
 ·have C:QQ (jS c= -1):=by unfold QQ jS;rw[aA (by omega)]
  have D:decide ((c:Int)-65<0)=true:=by simp;omega
  go_enter func27,ntmps27;go_wp2;go_ret;exact⟨by rw[C.o];simp,0,rfl⟩
def S1(c:Nat):Nat:=if c=46 then 0 else if c=45 then 1 else c-65+2
theorem Xt(c:Nat)(w:tW)(C:c=46\/c=45\/(65<=c/\c<69)):
  QY LG 49 #[.int .u8 (c:Int)] w λ e w'=>e=.returned (.int .u8 (S1 c:Int))/\∃q,w'=w.drewN q:=by
 have o:c=46\/c=45\/c=65\/c=66\/c=67\/c=68:=by omega
 rcases o with rfl|rfl|rfl|rfl|rfl|rfl
 all_goals
  go_enter func49,ntmps49;go_wp2;go_ret;exact⟨by simp[S1],0,rfl⟩
theorem D5(D:Nat->Int)(g n aJ:Nat)(x:Int)(w:tW)(Q:x= -1\/(0<=x/\x<n))(h:M3 w g n D):
  QY LG 102 #[.slice (some ⟨g,0,none⟩) n aJ,.int .i64 x] w λ e w'=>e=.returned (.int .i64 (pG D x))/\w'=w:=by
 by_cases C:x= -1
 ·subst C;go_enter func102,ntmps102;go_wp2;go_ret;exact⟨rfl,rfl⟩
 ·have V:(x== -1)=false:=aC.2 C;obtain⟨k,rfl⟩:∃k:Nat,x=(k:Int):=⟨x.toNat,by omega⟩
  have I:k<n:=by omega
  have U:=h k I;have F:QQ (pG D (k:Int)=D k):=by unfold QQ pG;rw[aA C];simp
  have J:=iI k n (by omega)
  clear C Q h;go_enter func102,ntmps102;go_wp2;go_ret;exact⟨by rw[F.o];rfl,rfl⟩
theorem Ry(C:Nat->Int)(g n aJ K top pg I:Nat)(zb tk:Nat->Nat)(nx:Nat->Nat->Int)(s t:Nat)(w:tW)(Z:s<n)(ht:t<n)(hK:K<=300)
  (hr:∀i k,i<n->k<K->nx i k= -1\/(0<=nx i k/\nx i k<n)) (X:Ur w top g n K zb tk nx) (hP:M3 w pg n C):
  QY LG 101 #[.slice (some ⟨g,0,none⟩) n aJ,.slice (some ⟨pg,0,none⟩) n I,.int .i64 s,.int .i64 t] w λ e w'=>e=.returned (.bool (iS C tk nx K s t))/\∃q,w'=w.drewN q:=by
 have p1:=hP s Z;have p2:=hP t ht;have t1:=X.tkc s Z;have t2:=X.tkc t ht;have n1:=X.nxc s Z;have n2:=X.nxc t ht;have bN:=iI s n (by omega)
 have bO:=iI t n (by omega)
 have HS:=fV X;have HP:=fV hP;have HR:=fV hr;clear X hP hr;by_cases U:C s=C t
 ·have aT:(C s !=C t)=false:=by rw[U];simp
  by_cases Y:tk s=tk t
  ·have aW:((tk s:Int) !=(tk t:Int))=false:=by rw[Y];simp
   have V:QQ (iS C tk nx K s t=Co C nx s t K):=by unfold QQ iS;rw[decide_eq_true U,decide_eq_true Y];simp
   generalize C s=a1 at*;generalize C t=a2 at*;generalize tk s=a3 at*;generalize tk t=a4 at*;clear U Y;go_enter func101,ntmps101;go_wp2_with fail;go_quiet (fail);go_wp2_with fail
   go_loopw [41] (λ x wr=>∃(k q:Nat),x=.int .i64 (k:Int)/\k<=K/\wr=w.drewN q/\∀j,j<k->pG C (nx s j)=pG C (nx t j)) (λ x _=>K-(QP x).toNat)
   case atStart=>exact⟨0,nq,rfl,zL,rfl,λ j hj=>absurd hj (OQ _)⟩
   case round=>
    obtain⟨k,q,rfl,hk,rfl,J⟩:=hrel;have HA:=fV J;clear J;by_cases D:k<K
    ·have c1:=HS.o.ldc s k Z D;have c2:=HS.o.ldc t k ht D;have aO:=fV (λ W (hW:M3 W pg n C)=>D5 C pg n I (nx s k) W (HR.o s k Z D) hW);have aR:=fV (λ W (hW:M3 W pg n C)=>D5 C pg n I (nx t k) W (HR.o t k ht D) hW);have HN:=fV (@EW C nx s t K k D);have HL:QQ (pG C (nx s k)=pG C (nx t k)->∀j,j<k+1->pG C (nx s j)=pG C (nx t j)):=λ h j hj=>by
      by_cases e:j=k
      ·rw[e];exact h
      ·exact HA.o j (by omega)
     have bM:=iI k K (by omega)
     have bC:=dT k K (by omega)
     generalize nx s k=x1 at*;generalize nx t k=x2 at*;go_wp2_with fail;refine(aO.o (w.drewN q) HP.o).mono ?_;rintro e w2 ⟨rfl,rfl⟩;go_wp2_with fail;refine(aR.o (w.drewN q) HP.o).mono ?_;rintro e w2 ⟨rfl,rfl⟩;by_cases F:pG C x1=pG C x2
     ·have bK:(pG C x1 !=pG C x2)=false:=by rw[F];simp
      have aL:=fV (HL.o F);generalize pG C x1=y1 at*;generalize pG C x2=y2 at*;clear F;go_wp2;go_roundw
      case rel=>exact⟨k+1,q,by go_num,D,rfl,aL.o⟩
      case measure=>simp[QP];omega
     ·have bK:(pG C x1 !=pG C x2)=true:=by rw[aD];exact F
      have Q:=fV (HN.o F);generalize pG C x1=y1 at*;generalize pG C x2=y2 at*;clear F;go_wp2;go_ret;exact⟨by rw[V.o,Q.o];rfl,_,rfl⟩
    ·have e:k=K:=by omega
     subst e;have Q:QQ (Co C nx s t k=true):=x4 HA.o;have bC:=dF k k (by omega)
     go_wp2;go_ret;exact⟨by rw[V.o,Q.o];rfl,_,rfl⟩
  ·have aW:((tk s:Int) !=(tk t:Int))=true:=by rw[aD];omega
   have V:QQ (iS C tk nx K s t=false):=by unfold QQ iS;rw[decide_eq_false Y];simp
   generalize C s=a1 at*;generalize C t=a2 at*;generalize tk s=a3 at*;generalize tk t=a4 at*;clear U Y;go_enter func101,ntmps101;go_wp2_with fail;go_quiet (fail);go_wp2;go_ret;exact⟨by rw[V.o];rfl,_,rfl⟩
 ·have aT:(C s !=C t)=true:=by rw[aD];exact U
  have V:QQ (iS C tk nx K s t=false):=by unfold QQ iS;rw[decide_eq_false U];simp
  generalize C s=a1 at*;generalize C t=a2 at*;clear U;go_enter func101,ntmps101;go_wp2_with fail;go_quiet (fail);go_wp2;go_ret;exact⟨by rw[V.o];rfl,_,rfl⟩
theorem I0{w:tW}{base':Nat}{e:TypeId}{xs:List tV}(h:w.ownsRow aH e size (.slice (some ⟨g,0,none⟩) n aJ) n xs)(D:base'<=g):w.ownsRow base' e size (.slice (some ⟨g,0,none⟩) n aJ) n xs:=by
 refine⟨h.1,?_⟩;rcases h.2 with I|⟨Q,C,o,J,F,rest⟩
 ·exact .inl I
 ·cases J
  exact .inr ⟨g,aJ,o,rfl,D,rest⟩
def Sw(w:tW)(a b:List Nat)(e:Ending)(w':tW):Prop:=
 ∃o D C F,e=.returned (.tuple #[.slice (some ⟨o,0,none⟩) a.length D,.slice (some ⟨C,0,none⟩) b.length F])/\M3 w' o a.length (iV a)/\M3 w' C b.length (iV b)/\o<w'.heap.size/\C<w'.heap.size/\w.heap.size<=o/\w.heap.size<=C/\Bl w w'
theorem Yl(pt:Nat->Int)(g n aJ K pg cF:Nat)(zb tk:Nat->Nat)(nx:Nat->Nat->Int)(w:tW)(hn:n<=2000)(hK:K<=300)
  (hr:∀i k,i<n->k<K->nx i k= -1\/(0<=nx i k/\nx i k<n)) (hS:Ur w w.heap.size g n K zb tk nx) (hP:M3 w pg n pt) (hW:pg<w.heap.size):
  QY LG 72 #[.slice (some ⟨g,0,none⟩) n aJ,.slice (some ⟨pg,0,none⟩) n cF] w λ e w'=>Sw w (kX n (iS pt tk nx K)).1 (kX n (iS pt tk nx K)).2 e w':=by
 obtain⟨i0,hI,hN,bN,hQ⟩:=QU bU;have HI:QQ (Tryz.prog.info? 3=some i0/\i0.zero=some (.int .i64 0)/\i0.size=1/\i0.bytes=8):=⟨hI,hN,bN,hQ⟩
 clear hI hN bN hQ;have HS:=fV hS;have HP:=fV hP;have HR:=fV hr;clear hS hP hr;go_enter func72,ntmps72;go_wp2_with (first|(at_make;refine QV w rfl _ _ 59 rfl w.heap.size 3 i0 (.int .i64 0) 1 ML HI.o.1 HI.o.2.1 HI.o.2.2.1 .i64 .i64 _ n rfl rfl rfl (by rw[HI.o.2.2.2];omega) (by unfold QX;omega) lR ?_;intro w1 Y aO));obtain⟨Q,EQ⟩:=xE (iS pt tk nx K)
 replace EQ:=fV EQ;have eR:QQ (Bl w w1):=⟨aO.os,aO.tape,aO.output,aO.size,λ k hk=>aO.block k hk (by simp)⟩
 have bN:w.heap.size<w1.heap.size:=by have:=(Y.lt w.heap.size rfl).2;omega
 have gL:=fV (Y.alloc (.cells #[] 3));have eS:=fV (eR.o.alloc (MC bN) (.cells #[] 3));have eT:QQ ((w1.alloc (.cells #[] 3)).ownsRow (w.heap.size+1) 3 1 (.slice (some ⟨w1.heap.size,0,none⟩) 0 0) 0 []):=I0 (K7 w1 3) bN;clear Y aO eR;generalize w1.alloc (.cells #[] 3)=w2 at*;generalize w1.heap.size=g20 at*
 go_loopg [6,7,16] n (λ gk fv sv iv wr=>∃(aK aN:List Nat)(s g2 c2:Nat),fv=.slice (some ⟨w.heap.size,0,none⟩) aK.length n/\sv=.slice (some ⟨g2,0,none⟩) aN.length c2/\iv=.int .i64 (s:Int)/\s+gk=n/\aK.length=s/\aN.length<=100/\
  (∀x∈aN,x<s)/\kX n Q=kH Q gk s aK aN/\wr.ownsRow w.heap.size 3 1 (.slice (some ⟨w.heap.size,0,none⟩) aK.length n) aK.length (oY aK)/\
  wr.ownsRow (w.heap.size+1) 3 1 (.slice (some ⟨g2,0,none⟩) aN.length c2) aN.length (oY aN)/\Bl w wr)
 case atStart=>exact⟨[],[],0,g20,0,rfl,rfl,rfl,by omega,rfl,by simp,λ x hx=>absurd hx (OZ),rfl,gL.o,eT.o,eS.o⟩
 case round=>
  obtain⟨aK,aN,s,g2,c2,rfl,rfl,rfl,nL,hG,eO,hJ,hE,hL,hM,hb⟩:=hrel;have HQ:=fV hE;have aL:=fV hL;have U:=fV hM;have HB:=fV hb;have eM:=fV hJ;have bO:=fV hG;clear hE hL hM hb hJ hG gL eT eS;have hT:w.heap.size<wr.heap.size:=(aL.o.lt _ rfl).2;by_cases hX:s<n
  ·obtain⟨d,rfl⟩:∃d,gk=d+1:=⟨gk-1,by omega⟩
   have hU:=dT s n (by omega)
   have hB:=fV (HS.o.below HB.o lR);have hA:=fV (HP.o.below HB.o hW);have eX:=fV (M3.of_row U.o);go_upto_block 2 with fail
   go_cut [9] from 17 to 51 (λ fv wc=>∃q,fv=.int .i64 ((gW Q aN s aN.length:Nat):Int)/\wc=wr.drewN q)
   case first=>
    go_wp2_with fail
    go_loopg [9] aN.length (λ gj fv wj=>∃(f q:Nat),fv=.int .i64 (f:Int)/\f+gj=aN.length/\wj=wr.drewN q/\gW Q aN s aN.length=gW Q aN s gj)
    case atStart=>exact⟨0,0,rfl,by omega,rfl,rfl⟩
    case round=>
     obtain⟨f,q,rfl,hV,rfl,hH⟩:=hrel;have eL:=fV hH;clear hH;by_cases hF:f<aN.length
     ·obtain⟨j,rfl⟩:∃j,gk=j+1:=⟨gk-1,by omega⟩
      have c1:=eX.o f hF;have nN:=E8 eM.o hF;have HL:QQ (iV aN f=((aN.getD f 0:Nat):Int)):=rfl;rw[HL.o]at c1;have D:= @A8 Q aN s f j hV;generalize aN.getD f 0=x at*;have bM:=Ry pt g n aJ K w.heap.size pg cF zb tk nx x s (wr.drewN q) (by omega) hX hK HR.o (hB.o.drewN q) hA.o;rw[EQ.o]at bM;have eN:decide ((f:Int)<(aN.length:Int))=true:=by simp;omega
      have iN:(0:Int)<=(f:Int)/\(f:Int)<(aN.length:Int):=by omega
      cases hq:Q x s with
      | true=>
       rw[hq]at bM D;rw[aB rfl]at D;have V:QQ (gW Q aN s aN.length=f):=eL.o.trans D;clear D hq;go_wp2_with fail;refine bM.mono ?_;rintro e w3 ⟨rfl,q',rfl⟩;go_wp2;go_meet
       case rel=>exact⟨q+q',by rw[V.o],rfl⟩
      | false=>
       rw[hq]at bM D;rw[aA (by decide)]at D;have V:QQ (gW Q aN s aN.length=gW Q aN s j):=eL.o.trans D;clear D hq;go_wp2_with fail;refine bM.mono ?_;rintro e w3 ⟨rfl,q',rfl⟩;go_wp2;go_roundg j
       case measure=>omega
       case rel=>exact⟨f+1,q+q',by go_num,by omega,rfl,V.o⟩
     ·have e:gk=0:=by omega
      subst e;have eN:decide ((f:Int)<(aN.length:Int))=false:=by simp;omega
      have V:QQ (gW Q aN s aN.length=f):=eL.o.trans (by rw[gW];omega);go_wp2;go_meet
      case rel=>exact⟨q,by rw[V.o],rfl⟩
   case rest=>
    obtain⟨q,rfl,rfl⟩:=hcut;have aW:QQ ((wr.drewN q).ownsRow w.heap.size 3 1 (.slice (some ⟨w.heap.size,0,none⟩) aK.length n) aK.length (oY aK)):=aL.o;have I:QQ ((wr.drewN q).ownsRow (w.heap.size+1) 3 1 (.slice (some ⟨g2,0,none⟩) aN.length c2) aN.length (oY aN)):=U.o;have cP:QQ (Bl w (wr.drewN q)):=⟨HB.o.os,HB.o.tape,HB.o.output,HB.o.size,HB.o.block⟩
    have aR:w.heap.size<(wr.drewN q).heap.size:=hT;have D:kH Q (d+1) s aK aN=if gW Q aN s aN.length=aN.length then
     (if 100<aN.length+1 then(aK,aN++[s])else kH Q d (s+1) (aK++[aN.length]) (aN++[s]))else kH Q d (s+1) (aK++[gW Q aN s aN.length]) aN:=rfl
    have hY:=tN Q aN s aN.length;clear aL U HB hB hA eX;generalize wr.drewN q=wq at*;generalize gW Q aN s aN.length=fp at*;by_cases X:fp=aN.length
    ·rw[aB X]at D;have eN:((fp:Int)==(aN.length:Int))=true:=by rw[X];simp
     have lH:=(I.o.lt g2 rfl).1;by_cases bS:100<aN.length+1
     ·rw[aB bS]at D;have V:QQ (kX n Q=(aK,aN++[s])):=HQ.o.trans D;have hC:decide ((100:Int)<((aN.length+1:Nat):Int))=true:=by simp;omega
      have hD:decide ((100:Int)<(aN.length:Int)+1)=true:=by simp;omega
      clear D X;go_wp2_with (first|(at_builtin;refine gB wq rfl (.tmp 40) (.tmp 42) 59 rfl (w.heap.size+1) 3 (.int .i64 0) 1 8 ML bU rfl (by decide) (by decide) (.slice (some ⟨g2,0,none⟩) aN.length c2) aN.length (oY aN) [.int .i64 (s:Int)] _ rfl I.o _ rfl rfl rfl (by simp[MA]) (by omega) (by omega) ?_;intro g4 cap4 w4 J C bK bT;have aT:=fV ((aW.o.alloc _).kept C (.inr (λ e=>absurd (show w.heap.size=g2 by simpa[LO]using e) (by omega))));have cN:QQ (Bl w w4):=(cP.o.alloc (MC aR) _).grown C (LU (MC aR) (by simp)) (λ k hk=>LU (OB _) (I.o.lt k hk).1);have bC:=fV J;clear J C bK));go_ret2;refine⟨w.heap.size,n,g4,cap4,?_,?_,?_,?_,bT,lR,?_,cN.o⟩
      ·rw[EQ.o,V.o];simp
      ·rw[EQ.o,V.o];exact M3.of_row aT.o
      ·rw[EQ.o,V.o];refine M3.of_row (aH:=w.heap.size+1) (e:=3) (aJ:=cap4) ?_;rw[sC,LP];exact bC.o
      ·exact(aT.o.lt _ rfl).2
      ·have:=(bC.o.lt g4 rfl).1;omega
     ·rw[aA bS]at D;have V:QQ (kX n Q=kH Q d (s+1) (aK++[fp]) (aN++[s])):=by unfold QQ;rw[X];exact HQ.o.trans D
      have hC:decide ((100:Int)<((aN.length+1:Nat):Int))=false:=by simp;omega
      have hD:decide ((100:Int)<(aN.length:Int)+1)=false:=by simp;omega
      clear D X;go_wp2_with (first|(at_builtin;refine gB wq rfl (.tmp 40) (.tmp 42) 59 rfl (w.heap.size+1) 3 (.int .i64 0) 1 8 ML bU rfl (by decide) (by decide) (.slice (some ⟨g2,0,none⟩) aN.length c2) aN.length (oY aN) [.int .i64 (s:Int)] _ rfl I.o _ rfl rfl rfl (by simp[MA]) (by omega) (by omega) ?_;intro g4 cap4 w4 J C bK bT;have aT:=fV ((aW.o.alloc _).kept C (.inr (λ e=>absurd (show w.heap.size=g2 by simpa[LO]using e) (by omega))));have cN:QQ (Bl w w4):=(cP.o.alloc (MC aR) _).grown C (LU (MC aR) (by simp)) (λ k hk=>LU (OB _) (I.o.lt k hk).1);have bC:=fV J;clear J C bK)|(at_builtin;refine lD w4 rfl (.tmp 47) (.tmp 49) 59 rfl w.heap.size 3 (.int .i64 0) 1 8 ML bU w.heap.size aK.length n (oY aK) [.int .i64 (fp:Int)] _ rfl aT.o _ rfl rfl rfl (by simp[MA]) (by have:=bO.o;omega) ?_;intro w6 Z F));go_roundg d
      case measure=>omega
      case rel=>
       have hR:=(aT.o.lt _ rfl).2;refine⟨aK++[fp],aN++[s],s+1,g4,cap4,by simp,by simp,by go_num,by omega,by have:=bO.o;simp;omega,by simp;omega,λ x hx=>?_,V.o,by rw[sC,LP];exact Z,?_,?_⟩
       ·rcases List.mem_append.1 hx with h|h
        ·have:=eM.o x h;omega
        ·rw[OV]at h;omega
       ·rw[sC,LP];exact(bC.o.alloc _).kept F (.inr (by have:=(bC.o.lt g4 rfl).1;simp[LO];omega))
       ·exact(cN.o.alloc (MC hR) _).grown F (LU (MC hR) (by simp)) (λ k hk=>by injection hk;omega)
    ·rw[aA X]at D;have V:QQ (kX n Q=kH Q d (s+1) (aK++[fp]) aN):=HQ.o.trans D;have eN:((fp:Int)==(aN.length:Int))=false:=by rw[aC];omega
     have hC:decide ((100:Int)<(aN.length:Int))=false:=by simp;omega
     clear D X;go_wp2_with (first|(at_builtin;refine lD wq rfl (.tmp 47) (.tmp 49) 59 rfl w.heap.size 3 (.int .i64 0) 1 8 ML bU w.heap.size aK.length n (oY aK) [.int .i64 (fp:Int)] _ rfl aW.o _ rfl rfl rfl (by simp[MA]) (by have:=bO.o;omega) ?_;intro w6 Z F));go_roundg d
     case measure=>omega
     case rel=>
      refine⟨aK++[fp],aN,s+1,g2,c2,by simp,rfl,by go_num,by omega,by have:=bO.o;simp;omega,eO,λ x hx=>by have:=eM.o x hx;omega,V.o,by rw[sC,LP];exact Z,?_,?_⟩
      ·exact(I.o.alloc _).kept F (.inr (by have:=(I.o.lt g2 rfl).1;simp[LO];omega))
      ·exact(cP.o.alloc (MC aR) _).grown F (LU (MC aR) (by simp)) (λ k hk=>by injection hk;omega)
  ·have e:gk=0:=by omega
   subst e;have hU:=dF s n (by omega)
   have V:QQ (kX n Q=(aK,aN)):=HQ.o;go_wp2;go_ret2;refine⟨w.heap.size,n,g2,c2,?_,?_,?_,?_,?_,lR,?_,HB.o⟩
   ·rw[EQ.o,V.o];rfl
   ·rw[EQ.o,V.o];exact M3.of_row aL.o
   ·rw[EQ.o,V.o];exact M3.of_row U.o
   ·exact hT
   ·exact(U.o.lt _ rfl).2
   ·have:=(U.o.lt g2 rfl).1;omega
def Fq(w:tW)(K:Nat)(l:List (Nat×List Int))(e:Ending)(w':tW):Prop:=
 ∃(B:Nat)(zs:List ((Nat×List Int)×Nat)),w.heap.size<=B/\e=.returned (.slice (some ⟨B,0,none⟩) zs.length zs.length)/\zs.map (·.1)=l/\
   w'.ownsRow B 121 2 (.slice (some ⟨B,0,none⟩) zs.length zs.length) zs.length (Jw K zs)/\pN w' (B+1) zs/\Bl w w'
theorem Np(aK aN:List Nat)(g n aJ K pg bN fg eO:Nat)(zb tk:Nat->Nat)(nx:Nat->Nat->Int)(w:tW)(hK:K<=300)(hf:aN.length<=100)(eT:∀x∈aN,x<n)
  (hr:∀i k,i<n->k<K->nx i k= -1\/(0<=nx i k/\nx i k<n)) (hS:Ur w w.heap.size g n K zb tk nx) (hP:M3 w pg n (iV aK)) (eX:pg<w.heap.size) (hF:M3 w fg aN.length (iV aN)) (eS:fg<w.heap.size):
  QY LG 73 #[.slice (some ⟨g,0,none⟩) n aJ,.slice (some ⟨pg,0,none⟩) n bN,.slice (some ⟨fg,0,none⟩) aN.length eO] w λ e w'=>Fq w K (nX tk nx K aK aN) e w':=by
 obtain⟨i0,V,aL,aO,aR⟩:=QU bU;have HI:QQ (Tryz.prog.info? 3=some i0/\i0.zero=some (.int .i64 0)/\i0.size=1/\i0.bytes=8):=⟨V,aL,aO,aR⟩
 clear V aL aO aR;obtain⟨i1,V,aL,aO,aR⟩:=QU cS;have aT:QQ (Tryz.prog.info? 121=some i1/\i1.zero=some (.agg #[.int .i64 0,.slice none 0 0])/\i1.size=2/\i1.bytes=32):=⟨V,aL,aO,aR⟩
 clear V aL aO aR;have HS:=fV hS;have HP:=fV hP;have HR:=fV hr;have HF:=fV hF;have hE:=fV eT;clear hS hP hr hF eT;obtain⟨m,hm⟩:=xE (aN.length)
 rw[hm]at hf ⊢;replace hm:=fV hm;go_enter func73,ntmps73;go_wp2_with (first|(at_make;refine QV w rfl _ _ 110 rfl w.heap.size 121 i1 _ 2 underlying110 aT.o.1 aT.o.2.1 aT.o.2.2.1 .i64 .i64 _ m rfl rfl rfl (by rw[aT.o.2.2.2];omega) (by unfold QX;omega) lR ?_;intro w2 D hg));have bO:QQ (Below w.heap.size w w2):=⟨hg.os,hg.tape,hg.output,hg.size,λ k hk=>hg.block k hk (by simp)⟩
 have bS:=fV D;clear D hg;obtain⟨B,cP⟩:=xE (w.heap.size)
 rw[cP]at bO bS eX eS HS ⊢
 go_loopg [7,19] m (λ gk x iv wr=>∃(zs:List ((Nat×List Int)×Nat)) (k:Nat),x=.slice (some ⟨B,0,none⟩) k m/\iv=.int .i64 (k:Int)/\zs.length=k/\k+gk=m/\zs.map (·.1)=nX tk nx K aK (aN.take k)/\
  wr.ownsRow B 121 2 (.slice (some ⟨B,0,none⟩) k m) k (Jw K zs)/\pN wr (B+1) zs/\Below B w wr)
 case atStart=>exact⟨[],0,rfl,rfl,rfl,by omega,by simp[nX],bS.o,pN.nil _ _,bO.o⟩
 case round=>
  obtain⟨zs,k,rfl,rfl,hA,lH,eR,D,bM,hb⟩:=hrel;have HQ:=fV eR;have HO:=fV D;have HW:=fV bM;have HB:=fV hb;have HX:=fV hA;have hU:B<wr.heap.size:=(D.lt B rfl).2;clear eR D hb hA bM bS bO;by_cases hT:k<m
  ·obtain⟨g',rfl⟩:∃g',gk=g'+1:=⟨gk-1,by omega⟩
   have X:k<aN.length:=by rw[hm.o];exact hT
   have c1:=(HF.o.below HB.o eS) k X;have bC:=E8 hE.o X;have hJ:QQ (nX tk nx K aK (aN.take (k+1))=nX tk nx K aK (aN.take k)++[(tk (aN.getD k 0),(NR K).map λ g=>pG (iV aK) (nx (aN.getD k 0) g))]):=by
    unfold QQ nX;rw[List.take_add_one,LN X,OP,LZ,LN X];rfl
   have HL:QQ (iV aN k=((aN.getD k 0:Nat):Int)):=rfl;rw[HL.o]at c1;generalize aN.getD k 0=s at*;have aW:=fV (HS.o.below HB.o (by omega));have eM:=fV (HP.o.below HB.o eX);have c2:=aW.o.nxc s bC;have hN:=dT k m (by omega)
   have iN:=iI k m (by omega)
   have nL:=iI s n (by omega)
   have hR:g<wr.heap.size:=by have:=aW.o.bg;omega
   clear X;go_wp2_with (first|(at_make;refine QV wr rfl _ _ 59 rfl wr.heap.size 3 i0 (.int .i64 0) 1 ML HI.o.1 HI.o.2.1 HI.o.2.2.1 .i64 .i64 _ K rfl rfl rfl (by rw[HI.o.2.2.2];omega) (by unfold QX;omega) lR ?_;intro w4 Y Q;have J:QQ (Below wr.heap.size wr w4):=(⟨Q.os,Q.tape,Q.output,Q.size,λ k hk=>Q.block k hk (by simp)⟩:Below wr.heap.size wr w4);have c3:=(J.o.cell (p:=⟨g,s*2+1,none⟩) hR).trans c2;clear c1 c2));have bT:=fV Y;have hW:=fV (aW.o.below J.o (by omega));have hV:=fV (eM.o.below J.o (by omega));clear Y Q;obtain⟨C,hC⟩:=xE (wr.heap.size)
   rw[hC]at J bT hU ⊢;clear c3
   go_loopg [10,36] K (λ gj x iv wj=>∃(xs:List Int)(j:Nat),x=.slice (some ⟨C,0,none⟩) j K/\iv=.int .i64 (j:Int)/\j+gj=K/\xs=(NR j).map (λ g=>pG (iV aK) (nx s g))/\
    wj.ownsRow C 3 1 (.slice (some ⟨C,0,none⟩) j K) j (pQ xs)/\Below C wr wj)
   case atStart=>exact⟨[],0,rfl,rfl,by omega,rfl,bT.o,J.o⟩
   case round=>
    obtain⟨xs,j,rfl,rfl,hY,eL,D,hb⟩:=hrel;have cN:=fV eL;have cF:=fV D;have U:=fV hb;have cN:=fV eL;have cF:=fV D;have U:=fV hb;have Z:C<wr.heap.size:=(D.lt C rfl).2;have eN:=fV (aW.o.below hb (by omega));have hH:=fV (eM.o.below hb (by omega));clear eL D hb bT J;by_cases bK:j<K
    ·obtain⟨j',rfl⟩:∃j',gk=j'+1:=⟨gk-1,by omega⟩
     have c5:=eN.o.ldc s j bC bK;have hc:=D5 (iV aK) pg n bN (nx s j) wr (HR.o s j bC bK) hH.o;have hM:QQ ((NR (j+1)).map (λ g=>pG (iV aK) (nx s g))=xs++[pG (iV aK) (nx s j)]):=by unfold QQ;rw[List.range_succ,OP,cN.o];rfl
     generalize nx s j=x1 at*;generalize pG (iV aK) x1=y at*;have hQ:=dT j K (by omega)
     have hX:=iI j K (by omega)
     go_wp2_with fail;refine hc.mono ?_;rintro e w5 ⟨rfl,rfl⟩;go_wp2_with (first|(at_builtin;refine lD w5 rfl _ _ 59 rfl C 3 (.int .i64 0) 1 8 ML bU C j K (pQ xs) [.int .i64 y] _ rfl cF.o _ rfl rfl rfl (by simp[MA]) (by omega) ?_;intro w6 I F));go_roundg j'
     case measure=>omega
     case rel=>
      exact⟨xs++[y],j+1,rfl,by go_num,by omega,hM.o.symm,by rw[tP];exact I,(U.o.alloc (MC Z) _).grown F (LU (MC Z) (by simp)) (λ q hq=>by injection hq;omega)⟩
    ·have e:j=K:=by omega
     subst e;have e2:gk=0:=by omega
     subst e2;have hQ:=dF j j (by omega)
     have c5:=eN.o.tkc s bC;have hG:QQ (wr.ownsRow B 121 2 (.slice (some ⟨B,0,none⟩) k m) k (Jw j zs)):=fV (iH HO.o (λ q hq=>U.o.block q (by simp[LO]at hq;omega)));have hL:QQ (pN wr (B+1) zs):=HW.o.below U.o (by omega);have hD:QQ (Below B w wr):=HB.o.trans (U.o.mono (by omega));have hI:=fV (nV cF.o);generalize tk s=hB at*;go_wp2_with (first|(at_builtin;refine lD wr rfl _ _ 110 rfl B 121 (.agg #[.int .i64 0,.slice none 0 0]) 2 32 underlying110 cS B k m (Jw j zs) [.int .i64 (hB:Int),.slice (some ⟨C,0,none⟩) j j] _ rfl hG.o _ rfl rfl rfl (by simp[MA]) (by omega) ?_;intro w6 I F));go_roundg g'
     case measure=>omega
     case rel=>
      have gL:=F.size;simp at gL;refine⟨zs++[((hB,xs),C)],k+1,rfl,by go_num,by simp[HX.o],by omega,?_,by rw[Nr];exact I,?_,?_⟩
      ·rw[OP,hJ.o,HQ.o,<-cN.o];rfl
      ·refine((hL.o.grown (kA (World.grownBy.refl _ (some B)) _) (by omega)).snoc ⟨by omega,by simp;omega,?_⟩).grown F (by omega);exact fY hI.o (MD wr _ C Z)
      ·exact(hD.o.alloc (by omega) _).grown F (LU (MC (show B<wr.heap.size by omega)) (by simp)) (λ q hq=>by injection hq;omega)
  ·have e:k=m:=by omega
   subst e;have hN:=dF k k (by omega)
   go_wp2;go_ret;have hx:=HX.o;subst hx;refine⟨B,zs,by rw[cP];exact lR,rfl,?_,HO.o,HW.o,by have hh:=HB.o;rw[<-cP]at hh;exact hh⟩;rw[HQ.o,<-hm.o,List.take_length]
end Go.Proofs.YtgjgjgihceijnaaGreat
namespace Go.Stn
variable {l bA:List Nat}{x s n a:Nat}{b aY:Int}
theorem Qx:∀(k m:Nat)(f:Nat->Nat),(∀i,i<m->f i<k)->(∀i j,i<m->j<m->f i=f j->i=j)->m<=k:=by
 intro k
 induction k with
 | zero=>
  intro m f h _;cases m with
  | zero=>exact lR
  | succ n=>have:=h 0 (by omega);omega
 | succ k ih=>
  intro m f h hi
  cases m with
  | zero=>omega
  | succ n=>
   have:=ih n (λ j=>if f j=k then f n else f j) (λ i F=>by
    by_cases e:f i=k
    ·simp only[aB e];have J:=h n (by omega);have Q:f n≠k:=λ U=>by have:=hi i n (by omega) (by omega) (by omega);omega
     omega
    ·simp only[aA e];have:=h i (by omega);omega) (λ i j F I o=>by
    by_cases C:f i=k<;>by_cases D:f j=k
    ·exact hi i j (by omega) (by omega) (by omega)
    ·simp only[aB C,aA D]at o;have:=hi n j (by omega) (by omega) o;omega
    ·simp only[aA C,aB D]at o;have:=hi i n (by omega) (by omega) o;omega
    ·simp only[aA C,aA D]at o;exact hi i j (by omega) (by omega) o)
   omega
theorem gV{i:Nat}(h:i<l.length):(l++[x]).getD i 0=l.getD i 0:=by
 rw[LZ,LZ,MR h]
theorem jD{l:List Nat}{x:Nat}:(l++[x]).getD l.length 0=x:=by
 rw[LZ,MG lR];simp
theorem Lh{q:Nat->Nat->Bool}:∀d,d<=l.length->gW q l s d<l.length->q (l.getD (gW q l s d) 0) s=true:=by
 intro d
 induction d with
 | zero=>intro _ h;rw[gW]at h;omega
 | succ k ih=>
  intro C h;rw[gW]at h ⊢;split
  ·assumption
  ·rename_i o;rw[aA o]at h;exact ih (by omega) h
structure PI(q:Nat->Nat->Bool)(s:Nat)(aK aN:List Nat):Prop where
 len:aK.length=s
 cl:∀x,x<s->aK.getD x 0<aN.length/\(aN.getD (aK.getD x 0) 0=x\/q (aN.getD (aK.getD x 0) 0) x=true)
 rep:∀f,f<aN.length->aN.getD f 0<s/\aK.getD (aN.getD f 0) 0=f
theorem Gt{q:Nat->Nat->Bool}:∀d s aK aN,PI q s aK aN->(kH q d s aK aN).2.length<=100->PI q (s+d) (kH q d s aK aN).1 (kH q d s aK aN).2:=by
 intro d
 induction d with
 | zero=>intro s aK aN h _;exact h
 | succ k ih=>
  intro s aK aN h F;rw[kH]at F ⊢;by_cases V:gW q aN s aN.length=aN.length
  ·rw[aB V]at F ⊢;by_cases D:100<aN.length+1
   ·rw[aB D]at F;simp at F;omega
   ·rw[aA D]at F ⊢;rw[show s+(k+1)=s+1+k by omega];refine ih (s+1) _ _ ⟨by simp[h.len],λ x Y=>?_,λ f J=>?_⟩ F
    ·by_cases e:x=s
     ·subst e;rw[show(aK++[aN.length]).getD x 0=aN.length by have:= @jD aK aN.length;rw[h.len]at this;exact this];refine⟨by simp,.inl jD⟩
     ·have o:x<s:=by omega
      obtain⟨C,I⟩:=h.cl x o;rw[gV (by rw[h.len];exact o),gV C];exact⟨LH C (by simp),I⟩
    ·simp at J;by_cases e:f=aN.length
     ·subst e;rw[jD];refine⟨by omega,?_⟩;have:= @jD aK aN.length;rw[h.len]at this;exact this
     ·have Q:f<aN.length:=by omega
      obtain⟨C,I⟩:=h.rep f Q;rw[gV Q,gV (by rw[h.len];exact C)];exact⟨by omega,I⟩
  ·rw[aA V]at F ⊢;have U:gW q aN s aN.length<aN.length:=by have:=tN q aN s aN.length;omega
   have X:=Lh _ lR U;rw[show s+(k+1)=s+1+k by omega];refine ih (s+1) _ _ ⟨by simp[h.len],λ x Y=>?_,λ f J=>?_⟩ F
   ·by_cases e:x=s
    ·subst e;rw[show(aK++[gW q aN x aN.length]).getD x 0=gW q aN x aN.length by have:= @jD aK (gW q aN x aN.length);rw[h.len]at this;exact this];exact⟨U,.inr X⟩
    ·have o:x<s:=by omega
     obtain⟨C,I⟩:=h.cl x o;rw[gV (by rw[h.len];exact o)];exact⟨C,I⟩
   ·obtain⟨C,I⟩:=h.rep f J;rw[gV (by rw[h.len];exact C)];exact⟨by omega,I⟩
theorem V5{n:Nat}{q:Nat->Nat->Bool}(h:(kX n q).2.length<=100):PI q n (kX n q).1 (kX n q).2:=by
 have:=Gt (q:=q) n 0 [] [] ⟨rfl,λ x C=>by omega,λ f o=>by simp at o⟩ h;rw[MJ]at this;exact this
def Bc(n:Nat)(bA:List Nat)(o:Nat):Prop:=bA.length=n/\∀f,f<o->∃s,s<n/\bA.getD s 0=f
theorem R0{n:Nat}{q:Nat->Nat->Bool}(h:(kX n q).2.length<=100):Bc n (kX n q).1 (kX n q).2.length:=by
 have o:=V5 h;exact⟨o.len,λ f C=>⟨_,(o.rep f C).1,(o.rep f C).2⟩⟩
theorem Dh{o:Nat}{q:Nat->Nat->Bool}(D:Bc n bA o)(U:∀s t,q s t=true->bA.getD s 0=bA.getD t 0)(h:(kX n q).2.length<=100):o<=(kX n q).2.length:=by
 have I:=V5 h;refine Qx _ _ (λ f=>if hf:f<o then(kX n q).1.getD (NM (D.2 f hf)) 0 else 0) (λ i hi=>?_) (λ i j hi F Q=>?_)
 ·simp only[dif_pos hi];exact(I.cl _ (MT (D.2 i hi)).1).1
 ·simp only[dif_pos hi,dif_pos F]at Q;have V:=MT (D.2 i hi);have X:=MT (D.2 j F);generalize NM (D.2 i hi)=a at*;generalize NM (D.2 j F)=b at*;have ha:=(I.cl a V.1).2;have J:=(I.cl b X.1).2;rw[<-Q]at J;have Y:bA.getD ((kX n q).2.getD ((kX n q).1.getD a 0) 0) 0=bA.getD a 0:=by
   rcases ha with C|C
   ·rw[C]
   ·exact U _ _ C
  have Z:bA.getD ((kX n q).2.getD ((kX n q).1.getD a 0) 0) 0=bA.getD b 0:=by
   rcases J with C|C
   ·rw[C]
   ·exact U _ _ C
  rw[<-V.2,<-X.2,<-Y,<-Z]
theorem zW{tk:Nat->Nat}{nx:Nat->Nat->Int}{K t:Nat}(h:iS (iV bA) tk nx K s t=true):bA.getD s 0=bA.getD t 0:=by
 unfold iS at h;simp only[OH,aE]at h;have:=h.1;unfold iV at this;omega
def zC(n:Nat)(tk:Nat->Nat)(nx:Nat->Nat->Int)(K:Nat):Option (List (Nat×List Int)):=
 (tS n tk nx K 102 (MV n 0) 0).map λ x=>nX tk nx K x.1 x.2
def Ea(t:tB)(b:Int)(st:gS):gS:=if gG t b st=true then iO st else st
theorem kQ{t:tB}{st:gS}(h:gG t b st=true):Ea t b st=iO st:=by unfold Ea;rw[aB h]
theorem mH{t:tB}{st:gS}(h:gG t b st=false):Ea t b st=st:=by unfold Ea;rw[aA (by rw[h];decide)]
theorem CU{t:tB}(h:nT (gF t a)=true):a<t.size:=by
 unfold nT at h;rw[aE]at h;rcases OK a t.size with o|o
 ·exact o
 ·rw[jW o]at h;omega
theorem AX{t sp:tB}(h:kV (gF t a) sp=true):a<t.size:=by
 unfold kV at h;rw[OH]at h;exact CU h.1
theorem iG(st:gS):(iO st).at_=st.at_+1:=rfl
theorem Tg{t:tB}{st:gS}(h:st.at_<=t.size):st.at_<=(uH t st).2.2.at_/\(uH t st).2.2.at_<=t.size:=by
 unfold uH;by_cases o:gG t 110 st=true
 ·rw[aB o];have:=iW (by omega) o;simp only[iG];omega
 ·rw[aA o];by_cases C:gG t 115 st=true
  ·rw[aB C];have:=iW (by omega) C;simp only[iG];omega
  ·rw[aA C];by_cases D:nT (gF t st.at_)=true/\Ff (gF t st.at_)=false
   ·rw[aB D];have:=CU D.1;simp only[iG];omega
   ·rw[aA D];exact⟨lR,h⟩
theorem wT{t sp:tB}{st:gS}(h:st.at_<=t.size):st.at_<=(gC t sp st).2.2.at_/\(gC t sp st).2.2.at_<=t.size:=by
 unfold gC;by_cases o:gG t 92 st=true
 ·rw[aB o];have:=iW (by omega) o;have:=Tg (t:=t) (st:=iO st) (by rw[iG];omega);rw[iG]at this;omega
 ·rw[aA o];by_cases C:kV (gF t st.at_) sp=true
  ·rw[aB C];have:=AX C;simp only[iG];omega
  ·rw[aA C];exact⟨lR,h⟩
theorem o5{t:tB}{st:gS}(h:(uH t st).2.1=true):st.at_<(uH t st).2.2.at_:=by
 unfold uH at h⊢;by_cases o:gG t 110 st=true
 ·rw[aB o];simp only[iG];omega
 ·rw[aA o]at h ⊢;by_cases C:gG t 115 st=true
  ·rw[aB C];simp only[iG];omega
  ·rw[aA C]at h ⊢;by_cases D:nT (gF t st.at_)=true/\Ff (gF t st.at_)=false
   ·rw[aB D];simp only[iG];omega
   ·rw[aA D]at h;simp at h
theorem Ak{t sp:tB}{st:gS}(h:(gC t sp st).2.1=true):st.at_<(gC t sp st).2.2.at_:=by
 unfold gC at h⊢;by_cases o:gG t 92 st=true
 ·rw[aB o]at h ⊢;have:=o5 h;rw[iG]at this;omega
 ·rw[aA o]at h ⊢;by_cases C:kV (gF t st.at_) sp=true
  ·rw[aB C];simp only[iG];omega
  ·rw[aA C]at h;simp at h
theorem zB{t:tB}{f:Nat->Bool}{st:gS}(h:st.at_<=t.size):st.at_<=(gY t f st).2.2.at_/\(gY t f st).2.2.at_<=t.size:=by
 have F:=wT (sp:=kJ) h;obtain⟨X,J,Q,o⟩:∃b I s,gC t kJ st=(b,I,s):=⟨_,_,_,rfl⟩
 rw[o]at F
 cases J with
 | false=>rw[uN o];exact F
 | true=>
  cases hn:gG t 45 Q with
  | false=>rw[uO o hn];exact F
  | true=>
   have Y:=iW (by omega) hn;have U:=wT (sp:=kJ) (st:=iO Q) (t:=t) (by rw[iG];omega);obtain⟨b2,D,s2,C⟩:∃b I s,gC t kJ (iO Q)=(b,I,s):=⟨_,_,_,rfl⟩
   rw[C,iG]at U;simp only at F U;by_cases V:D=false\/b2<X
   ·rw[pZ o hn C V];simp only;omega
   ·have Z:D=true:=by cases D<;>simp_all
    subst Z;rw[uP o hn C (by simp at V;omega)];simp only;omega
theorem Mg{t:tB}{f:Nat->Bool}{st:gS}(h:(gY t f st).2.1=true):st.at_<(gY t f st).2.2.at_:=by
 have F:= @Ak t kJ st;obtain⟨X,J,Q,o⟩:∃b I s,gC t kJ st=(b,I,s):=⟨_,_,_,rfl⟩
 rw[o]at F
 cases J with
 | false=>rw[uN o]at h;simp at h
 | true=>
  have F:=F rfl
  cases hn:gG t 45 Q with
  | false=>rw[uO o hn];exact F
  | true=>
   have Y:=iW (by omega) hn;have U:=wT (sp:=kJ) (st:=iO Q) (t:=t) (by rw[iG];omega);obtain⟨b2,D,s2,C⟩:∃b I s,gC t kJ (iO Q)=(b,I,s):=⟨_,_,_,rfl⟩
   rw[C,iG]at U;simp only at F U;by_cases V:D=false\/b2<X
   ·rw[pZ o hn C V]at h;simp at h
   ·have Z:D=true:=by cases D<;>simp_all
    subst Z;rw[uP o hn C (by simp at V;omega)];simp only;omega
theorem wN{t:tB}{st:gS}(h:st.at_<=t.size):st.at_<=(gE t st).2.2.at_/\(gE t st).2.2.at_<=t.size:=by
 unfold gE;by_cases o:65<=gF t st.at_/\gF t st.at_<69
 ·rw[aB o];have:st.at_<t.size:=by
   rcases OK st.at_ t.size with C|C
   ·exact C
   ·rw[jW C]at o;omega
  simp only[iG];omega
 ·rw[aA o];exact⟨lR,h⟩
theorem Oq{t:tB}{st:gS}(h:st.at_<=t.size):st.at_<=(jP t st).2.2.at_/\(jP t st).2.2.at_<=t.size:=by
 unfold jP;by_cases o:gG t 46 st=true
 ·rw[aB o];have:=iW (by omega) o;simp only[iG];omega
 ·rw[aA o];by_cases C:gG t 45 st=true
  ·rw[aB C];have:=iW (by omega) C;simp only[iG];omega
  ·rw[aA C];have:=wN h;split<;>exact this
def kM(a b:gS):Prop:=b.aX=a.aX/\b.aV=a.aV/\b.aW=a.aW
theorem kM.refl(a:gS):kM a a:=⟨rfl,rfl,rfl⟩
theorem kM.adv(a:gS):kM a (Go.Stn.iO a):=⟨rfl,rfl,rfl⟩
theorem kM.trans{a b c:gS}(h:kM a b)(k:kM b c):kM a c:=⟨k.1.trans h.1,k.2.1.trans h.2.1,k.2.2.trans h.2.2⟩
theorem Vu(t:tB)(st:gS):kM st (uH t st).2.2:=by
 unfold uH;by_cases o:gG t 110 st=true
 ·rw[aB o];exact kM.adv st
 ·rw[aA o];by_cases C:gG t 115 st=true
  ·rw[aB C];exact kM.adv st
  ·rw[aA C];split
   ·exact kM.adv st
   ·exact kM.refl st
theorem zK(t sp:tB)(st:gS):kM st (gC t sp st).2.2:=by
 unfold gC;by_cases o:gG t 92 st=true
 ·rw[aB o];exact(kM.adv st).trans (Vu t _)
 ·rw[aA o];split
  ·exact kM.adv st
  ·exact kM.refl st
theorem Q2(t:tB)(f:Nat->Bool)(st:gS):kM st (gY t f st).2.2:=by
 have F:=zK t kJ st;obtain⟨Y,Q,I,o⟩:∃b J s,gC t kJ st=(b,J,s):=⟨_,_,_,rfl⟩
 rw[o]at F
 cases Q with
 | false=>rw[uN o];exact F
 | true=>
  cases hn:gG t 45 I with
  | false=>rw[uO o hn];exact F
  | true=>
   have U:=zK t kJ (iO I);obtain⟨b2,D,s2,C⟩:∃b J s,gC t kJ (iO I)=(b,J,s):=⟨_,_,_,rfl⟩
   rw[C]at U;have V:=(F.trans (kM.adv I)).trans U;by_cases X:D=false\/b2<Y
   ·rw[pZ o hn C X];exact V
   ·have Z:D=true:=by cases D<;>simp_all
    subst Z;rw[uP o hn C (by simp at X;omega)];exact V
theorem Jn(t:tB):∀(n:Nat)(f:Nat->Bool)(o:Bool)(st:gS),kM st (mZ t n f o st).2.2:=by
 intro n
 induction n with
 | zero=>intro f o st;exact kM.refl st
 | succ e ih=>
  intro f o st;rw[mZ];split
  ·exact kM.refl st
  ·split
   ·exact kM.adv st
   ·exact(Q2 t f st).trans (ih _ _ _)
theorem Hk(t:tB)(st:gS):kM st (rW t st).2.2:=(Q2 t gK st).trans (Jn t _ _ _ _)
theorem Yg(t:tB)(st:gS):kM st (rH t st).2.2:=by
 unfold rH;by_cases o:gG t 94 st=true
 ·rw[aB o];have:=(kM.adv st).trans (Hk t (iO st));split<;>exact this
 ·rw[aA o];have:=Hk t st;split<;>exact this
theorem xU(t:tB)(st:gS):kM st (hO t st).2.2:=by
 unfold hO;by_cases o:gG t 91 st=true
 ·rw[aB o];exact(kM.adv st).trans (Yg t _)
 ·rw[aA o];by_cases C:gG t 46 st=true
  ·rw[aB C];exact kM.adv st
  ·rw[aA C];have:=zK t kK st;split<;>exact this
def rK(x:Int×Int×Int)(st:gS):gS:= {st with aV:=st.aV++[x]}
def b7(f:Nat->Bool)(st:gS):gS:= {st with aW:=st.aW++[f]}
def rA(t:tB)(st:gS):Int×Bool×gS:=
 if(hO t st).2.1=true then(((hO t st).2.2.aV.length:Int),true,rK (0,((hO t st).2.2.aW.length:Int),0) (b7 (hO t st).1 (hO t st).2.2))
 else(0,false,(hO t st).2.2)
def mS(t:tB)(st:gS):Bool:=
 decide (gF t st.at_=40\/gF t st.at_=91\/gF t st.at_=46\/gF t st.at_=92)||kV (gF t st.at_) kK
def jR(t:tB)(ex:gS->Int×Bool×gS)(st:gS):Int×Bool×gS:=
 if gG t 40 st=true then
  (if(ex (iO st)).2.1=true/\gG t 41 (ex (iO st)).2.2=true then((ex (iO st)).1,true,iO (ex (iO st)).2.2)else(0,false,(ex (iO st)).2.2))
 else rA t st
def mD(p:Int):Int:=if p=63 then 3 else if p=43 then 4 else if p=42 then 5 else 0
def jE(t:tB)(ex:gS->Int×Bool×gS)(st:gS):Int×Bool×gS:=
 if(jR t ex st).2.1=true then
  (if mD (gF t (jR t ex st).2.2.at_)=0 then((jR t ex st).1,true,(jR t ex st).2.2)
   else(((jR t ex st).2.2.aV.length:Int),true,rK (mD (gF t (jR t ex st).2.2.at_),(jR t ex st).1,0) (iO (jR t ex st).2.2)))
 else(0,false,(jR t ex st).2.2)
def nM(t:tB)(ex:gS->Int×Bool×gS):Nat->Int->Bool->gS->Int×Bool×gS
 | 0,aY,_,st=>(aY,false,st)
 | n+1,aY,ok,st=>
  if ok=false then(aY,false,st)
  else if mS t st=false then(aY,true,st)
  else nM t ex n ((jE t ex st).2.2.aV.length:Int) (jE t ex st).2.1 (rK (1,aY,(jE t ex st).1) (jE t ex st).2.2)
def mI(t:tB)(ex:gS->Int×Bool×gS)(st:gS):Int×Bool×gS:=
 nM t ex (t.size+1) (jE t ex st).1 (jE t ex st).2.1 (jE t ex st).2.2
def kE(t:tB)(ex:gS->Int×Bool×gS):Nat->Int->Bool->gS->Int×Bool×gS
 | 0,aY,_,st=>(aY,false,st)
 | n+1,aY,ok,st=>
  if ok=false then(aY,false,st)
  else if gG t 124 st=false then(aY,true,st)
  else kE t ex n ((mI t ex (iO st)).2.2.aV.length:Int) (mI t ex (iO st)).2.1 (rK (2,aY,(mI t ex (iO st)).1) (mI t ex (iO st)).2.2)
def lG(t:tB):Nat->gS->Int×Bool×gS
 | 0,st=>(0,false,st)
 | f+1,st=>kE t (lG t f) (t.size+1) (mI t (lG t f) st).1 (mI t (lG t f) st).2.1 (mI t (lG t f) st).2.2
def Gr(t:tB)(a b:gS):Prop:=a.at_<=b.at_/\b.at_<=t.size/\b.aV.length+3*a.at_<=a.aV.length+3*b.at_/\b.aW.length+a.at_<=a.aW.length+b.at_
def IZ(t:tB)(a b:gS):Prop:=(b.aV.length+1+3*a.at_<=a.aV.length+3*b.at_/\a.at_<b.at_/\b.at_<=t.size/\b.aW.length+a.at_<=a.aW.length+b.at_)\/
 (b.aV.length=a.aV.length/\b.at_=a.at_/\b.aW.length=a.aW.length/\b.at_<=t.size)
theorem Gr.refl{t:tB}{a:gS}(h:a.at_<=t.size):Gr t a a:=⟨lR,h,lR,lR⟩
theorem Gr.trans{t:tB}{a b c:gS}(h:Gr t a b)(k:Gr t b c):Gr t a c:=by
 obtain⟨C,D,F,I⟩:=h;obtain⟨J,o,Q,U⟩:=k;exact⟨by omega,o,by omega,by omega⟩
theorem IZ.gr{t:tB}{a b:gS}(h:IZ t a b):Gr t a b:=by
 rcases h with⟨D,F,C,o⟩|⟨D,F,C,o⟩
 ·exact⟨by omega,C,by omega,o⟩
 ·exact⟨by omega,o,by omega,by omega⟩
theorem Sd{t:tB}:∀(n:Nat)(f:Nat->Bool)(o:Bool)(st:gS),st.at_<=t.size->st.at_<=(mZ t n f o st).2.2.at_/\(mZ t n f o st).2.2.at_<=t.size:=by
 intro n
 induction n with
 | zero=>intro f o st h;exact⟨lR,h⟩
 | succ e ih=>
  intro f o st h;rw[mZ];split
  ·exact⟨lR,h⟩
  ·split
   ·rename_i D;have:=iW (by omega) D;simp only[iG];omega
   ·have C:=zB (f:=f) h;have F:=ih (gY t f st).1 (gY t f st).2.1 (gY t f st).2.2 C.2;omega
theorem Uk{t:tB}{st:gS}(h:st.at_<=t.size):st.at_<=(rW t st).2.2.at_/\(rW t st).2.2.at_<=t.size:=by
 have o:=zB (f:=gK) h;have C:=Sd (t:=t) (t.size+1) (gY t gK st).1 (gY t gK st).2.1 (gY t gK st).2.2 o.2;unfold rW;omega
theorem Jo{t:tB}{st:gS}(h:st.at_<=t.size):st.at_<=(rH t st).2.2.at_/\(rH t st).2.2.at_<=t.size:=by
 unfold rH;by_cases o:gG t 94 st=true
 ·rw[aB o];have C:=iW (by omega) o;have:=Uk (t:=t) (st:=iO st) (by rw[iG];omega);rw[iG]at this;split<;>(simp only;omega)
 ·rw[aA o];have:=Uk (t:=t) h;split<;>exact this
theorem Kf{t:tB}{st:gS}(h:st.at_<=t.size):st.at_<=(hO t st).2.2.at_/\(hO t st).2.2.at_<=t.size:=by
 unfold hO;by_cases o:gG t 91 st=true
 ·rw[aB o];have D:=iW (by omega) o;have:=Jo (t:=t) (st:=iO st) (by rw[iG];omega);rw[iG]at this;omega
 ·rw[aA o];by_cases C:gG t 46 st=true
  ·rw[aB C];have:=iW (by omega) C;simp only[iG];omega
  ·rw[aA C];have:=wT (sp:=kK) h;split<;>exact this
theorem Hx{t:tB}{st:gS}(o:mS t st=true)(hn:gG t 40 st=false):st.at_<(hO t st).2.2.at_:=by
 unfold hO;by_cases C:gG t 91 st=true
 ·rw[aB C];have Q:=iW (by omega) C;have:=Jo (t:=t) (st:=iO st) (by rw[iG];omega);rw[iG]at this;omega
 ·rw[aA C];by_cases F:gG t 46 st=true
  ·rw[aB F];simp only[iG];omega
  ·rw[aA F];have I:st.at_<(gC t kK st).2.2.at_:=by
    unfold gC;by_cases D:gG t 92 st=true
    ·rw[aB D];have Q:=iW (by omega) D;have:=Tg (t:=t) (st:=iO st) (by rw[iG];omega);rw[iG]at this;omega
    ·rw[aA D];have J:kV (gF t st.at_) kK=true:=by
      unfold mS at o;rw[Bool.or_eq_true,aE]at o;rcases o with(e|e|e|e)|e
      ·unfold gG at hn;rw[aF]at hn;exact absurd e hn
      ·unfold gG at C;rw[aE]at C;exact absurd e C
      ·unfold gG at F;rw[aE]at F;exact absurd e F
      ·unfold gG at D;rw[aE]at D;exact absurd e D
      ·exact e
     rw[aB J];simp only[iG];omega
   split<;>exact I
theorem Kb{t:tB}{a b:gS}(h:kM a b)(F:a.at_<=b.at_)(o:b.at_<=t.size):IZ t a b:=by
 have C:b.aV.length=a.aV.length:=by rw[h.2.1]
 have D:b.aW.length=a.aW.length:=by rw[h.2.2]
 by_cases e:a.at_=b.at_
 ·exact .inr ⟨C,e.symm,D,o⟩
 ·exact .inl ⟨by omega,by omega,o,by omega⟩
theorem Ep{t:tB}{st:gS}(o:(hO t st).2.1=true):st.at_<(hO t st).2.2.at_:=by
 unfold hO at o⊢;by_cases C:gG t 91 st=true
 ·rw[aB C];have I:=iW (by omega) C;have:=Jo (t:=t) (st:=iO st) (by rw[iG];omega);rw[iG]at this;omega
 ·rw[aA C]at o ⊢;by_cases F:gG t 46 st=true
  ·rw[aB F];simp only[iG];omega
  ·rw[aA F]at o ⊢;by_cases D:(gC t kK st).2.1=true
   ·rw[aB D];exact Ak D
   ·rw[aA D]at o;simp at o
theorem Xd{t:tB}{st:gS}(h:st.at_<=t.size):IZ t st (rA t st).2.2:=by
 have C:=Kf h;have D:=xU t st;have I:(hO t st).2.2.aV.length=st.aV.length:=by rw[D.2.1]
 have J:(hO t st).2.2.aW.length=st.aW.length:=by rw[D.2.2]
 unfold rA;by_cases o:(hO t st).2.1=true
 ·have F:=Ep o;rw[aB o];left;refine⟨?_,F,C.2,?_⟩
  ·simp only[rK,b7,LP,LR];omega
  ·simp only[rK,b7,LP,LR];omega
 ·rw[aA o];exact Kb D C.1 C.2
def Bg(t:tB)(ex:gS->Int×Bool×gS):Prop:=∀st,st.at_<=t.size->Gr t st (ex st).2.2
theorem Hs{t:tB}{a b:gS}(h:Gr t (iO a) b):IZ t a b:=by
 obtain⟨I,J,o,C⟩:=h;rw[iG]at I o C;have D:(iO a).aV=a.aV:=rfl;have F:(iO a).aW=a.aW:=rfl;rw[D]at o;rw[F]at C;exact .inl ⟨by omega,by omega,J,by omega⟩
theorem Kp{t:tB}{ex:gS->Int×Bool×gS}(F:Bg t ex){st:gS}(h:st.at_<=t.size):IZ t st (jR t ex st).2.2:=by
 unfold jR;by_cases o:gG t 40 st=true
 ·rw[aB o];have I:=iW (by omega) o;have hg:=F (iO st) (by rw[iG];omega);split
  ·rename_i C;have D:=iW (by omega) C.2;refine Hs (hg.trans ⟨by rw[iG];omega,by rw[iG];omega,?_,?_⟩)
   ·show(ex (iO st)).2.2.aV.length+3*(ex (iO st)).2.2.at_<=(ex (iO st)).2.2.aV.length+3*(iO (ex (iO st)).2.2).at_;rw[iG];omega
   ·show(ex (iO st)).2.2.aW.length+(ex (iO st)).2.2.at_<=(ex (iO st)).2.2.aW.length+(iO (ex (iO st)).2.2).at_;rw[iG];omega
  ·exact Hs hg
 ·rw[aA o];exact Xd h
theorem z5{t:tB}(h:mD (gF t a)≠0):a<t.size:=by
 rcases OK a t.size with o|o
 ·exact o
 ·rw[jW o]at h;exact absurd rfl h
theorem F5{t:tB}{ex:gS->Int×Bool×gS}(U:Bg t ex){st:gS}(h:st.at_<=t.size):IZ t st (jE t ex st).2.2:=by
 have hg:=Kp U h;unfold jE;split
 ·split
  ·exact hg
  ·rename_i Q;have V:=z5 Q;left;have o:(rK (mD (gF t (jR t ex st).2.2.at_),(jR t ex st).1,0) (iO (jR t ex st).2.2)).aV.length=(jR t ex st).2.2.aV.length+1:=by simp[rK,iO]
   have C:(rK (mD (gF t (jR t ex st).2.2.at_),(jR t ex st).1,0) (iO (jR t ex st).2.2)).aW=(jR t ex st).2.2.aW:=rfl;have D:(rK (mD (gF t (jR t ex st).2.2.at_),(jR t ex st).1,0) (iO (jR t ex st).2.2)).at_=(jR t ex st).2.2.at_+1:=rfl;simp only[o,C,D];rcases hg with⟨F,I,J,g4⟩|⟨F,I,J,g4⟩
   ·exact⟨by omega,by omega,by omega,by omega⟩
   ·exact⟨by omega,by omega,by omega,by omega⟩
 ·exact hg
theorem Di{t:tB}{ex:gS->Int×Bool×gS}(I:Bg t ex){st:gS}(F:mS t st=true):st.at_<(jE t ex st).2.2.at_:=by
 have D:st.at_<(jR t ex st).2.2.at_:=by
  unfold jR;by_cases o:gG t 40 st=true
  ·rw[aB o];have J:=iW (by omega) o;have hg:=(I (iO st) (by rw[iG];omega)).1;rw[iG]at hg;split
   ·simp only[iG];omega
   ·simp only;omega
  ·rw[aA o];have C:=Hx F (by simpa using o);unfold rA;split
   ·exact C
   ·exact C
 unfold jE;split
 ·split
  ·exact D
  ·show st.at_<(jR t ex st).2.2.at_+1;omega
 ·exact D
theorem Oi{t:tB}{ex:gS->Int×Bool×gS}(I:Bg t ex):∀(n:Nat)(aY:Int)(C:Bool)(st:gS),st.at_<=t.size->Gr t st (nM t ex n aY C st).2.2:=by
 intro n
 induction n with
 | zero=>intro aY C st h;exact Gr.refl h
 | succ e ih=>
  intro aY C st h;rw[nM];split
  ·exact Gr.refl h
  ·split
   ·exact Gr.refl h
   ·rename_i o;have o:mS t st=true:=by simpa using o
    have U:=Di I o;have hg:=F5 I h;have F:Gr t st (rK (1,aY,(jE t ex st).1) (jE t ex st).2.2):=by
     rcases hg with⟨J,Q,D,g4⟩|⟨J,Q,D,g4⟩
     ·exact⟨by show st.at_<=(jE t ex st).2.2.at_;omega,D,by simp only[rK,LP,LR];omega,g4⟩
     ·omega
    exact F.trans (ih _ _ _ F.2.1)
theorem M5{t:tB}{ex:gS->Int×Bool×gS}(o:Bg t ex){st:gS}(h:st.at_<=t.size):Gr t st (mI t ex st).2.2:=by
 have hg:=(F5 o h).gr;exact hg.trans (Oi o _ _ _ _ hg.2.1)
theorem Lf{t:tB}{ex:gS->Int×Bool×gS}(F:Bg t ex):∀(n:Nat)(aY:Int)(o:Bool)(st:gS),st.at_<=t.size->Gr t st (kE t ex n aY o st).2.2:=by
 intro n
 induction n with
 | zero=>intro aY o st h;exact Gr.refl h
 | succ e ih=>
  intro aY o st h;rw[kE];split
  ·exact Gr.refl h
  ·split
   ·exact Gr.refl h
   ·rename_i U;have V:=iW (by omega) (show gG t 124 st=true by simpa using U);have hg:=Hs (M5 F (st:=iO st) (by rw[iG];omega));have D:Gr t st (rK (2,aY,(mI t ex (iO st)).1) (mI t ex (iO st)).2.2):=by
     have Q:=(M5 F (st:=iO st) (by rw[iG];omega)).1;rw[iG]at Q;rcases hg with⟨I,J,C,g4⟩|⟨I,J,C,g4⟩
     ·exact⟨by show st.at_<=(mI t ex (iO st)).2.2.at_;omega,C,by simp only[rK,LP,LR];omega,g4⟩
     ·omega
    exact D.trans (ih _ _ _ D.2.1)
theorem Cf(t:tB):∀f,Bg t (lG t f):=by
 intro f
 induction f with
 | zero=>intro st h;exact Gr.refl h
 | succ e ih=>
  intro st h;have hg:=M5 ih h;exact hg.trans (Lf ih _ _ _ _ hg.2.1)
theorem Et(t:tB)(ex:gS->Int×Bool×gS)(n:Nat)(aY:Int)(st:gS):nM t ex n aY false st=(aY,false,st):=by cases n<;>rfl
theorem Hy{t:tB}{ex:gS->Int×Bool×gS}{st:gS}(h:mS t st=false):nM t ex (n+1) aY true st=(aY,true,st):=by
 rw[nM,aA (by decide),aB h]
theorem Hz{t:tB}{ex:gS->Int×Bool×gS}{st:gS}(h:mS t st=true):
  nM t ex (n+1) aY true st=nM t ex n ((jE t ex st).2.2.aV.length:Int) (jE t ex st).2.1 (rK (1,aY,(jE t ex st).1) (jE t ex st).2.2):=by
 rw[nM,aA (by decide),aA (by rw[h];decide)]
theorem Cd(t:tB)(ex:gS->Int×Bool×gS)(n:Nat)(aY:Int)(st:gS):kE t ex n aY false st=(aY,false,st):=by cases n<;>rfl
theorem Fb{t:tB}{ex:gS->Int×Bool×gS}{st:gS}(h:gG t 124 st=false):kE t ex (n+1) aY true st=(aY,true,st):=by
 rw[kE,aA (by decide),aB h]
theorem Fc{t:tB}{ex:gS->Int×Bool×gS}{st:gS}(h:gG t 124 st=true):
  kE t ex (n+1) aY true st=kE t ex n ((mI t ex (iO st)).2.2.aV.length:Int) (mI t ex (iO st)).2.1 (rK (2,aY,(mI t ex (iO st)).1) (mI t ex (iO st)).2.2):=by
 rw[kE,aA (by decide),aA (by rw[h];decide)]
def sX(f:Nat->Bool)(k:Int):Nat->Bool:=λ i=>if(i:Int)=k then true else f i
def nD(t:tB):Nat->(Nat->Bool)->Int->gS->(Nat->Bool)×Bool×gS
 | 0,f,_,st=>(f,false,st)
 | n+1,f,aZ,st=>
  if(gE t st).2.1=false then(f,true,(gE t st).2.2)
  else if(gE t st).1<=aZ then(f,false,(gE t st).2.2)
  else nD t n (sX f (gE t st).1) (gE t st).1 (gE t st).2.2
def iU(t:tB)(st:gS):(Nat->Bool)×Bool×gS:=
 if(gE t st).2.1=false then(gK,false,(gE t st).2.2)
 else nD t 5 (sX gK (gE t st).1) (gE t st).1 (gE t st).2.2
def IN(f:Nat->Bool):tV:= .agg #[.bool (f 0),.bool (f 1),.bool (f 2),.bool (f 3)]
theorem vS(t:tB)(st:gS):kM st (gE t st).2.2:=by
 unfold gE;split
 ·exact kM.adv st
 ·exact kM.refl st
theorem Il{t:tB}:∀(n:Nat)(f:Nat->Bool)(aZ:Int)(st:gS),st.at_<=t.size->kM st (nD t n f aZ st).2.2/\st.at_<=(nD t n f aZ st).2.2.at_/\(nD t n f aZ st).2.2.at_<=t.size:=by
 intro n
 induction n with
 | zero=>intro f aZ st h;exact⟨kM.refl st,lR,h⟩
 | succ e ih=>
  intro f aZ st h;have o:=vS t st;have C:=wN h;rw[nD];split
  ·exact⟨o,C⟩
  ·split
   ·exact⟨o,C⟩
   ·have D:=ih (sX f (gE t st).1) (gE t st).1 (gE t st).2.2 C.2;exact⟨o.trans D.1,by omega,D.2.2⟩
theorem Do{t:tB}{st:gS}(h:st.at_<=t.size):kM st (iU t st).2.2/\st.at_<=(iU t st).2.2.at_/\(iU t st).2.2.at_<=t.size:=by
 have o:=vS t st;have C:=wN h;unfold iU;split
 ·exact⟨o,C⟩
 ·have D:=Il (t:=t) 5 (sX gK (gE t st).1) (gE t st).1 (gE t st).2.2 C.2;exact⟨o.trans D.1,by omega,D.2.2⟩
def DP(x:(Nat->Bool)×Int×Int)(st:gS):gS:= {st with aX:=st.aX++[x]}
def F7(t:tB)(f:Nat->Bool)(root:Int)(st:gS):Bool×gS:=
 if(jP t st).2.1=false then(false,(jP t st).2.2)else(true,DP (f,(jP t st).1,root) (jP t st).2.2)
def F8(t:tB)(f:Nat->Bool)(st:gS):Bool×gS:=
 if(lG t (t.size+1) st).2.1=false then(false,(lG t (t.size+1) st).2.2)
 else if gG t 32 (lG t (t.size+1) st).2.2=false then(false,(lG t (t.size+1) st).2.2)
 else F7 t f (lG t (t.size+1) st).1 (iO (lG t (t.size+1) st).2.2)
def nI(t:tB)(st:gS):Bool×gS:=
 if(iU t st).2.1=false then(false,(iU t st).2.2)
 else if gG t 32 (iU t st).2.2=false then(false,(iU t st).2.2)
 else F8 t (iU t st).1 (iO (iU t st).2.2)
end Go.Stn
namespace Go.Proofs.YtgjgjgihceijnaaGreat
open Go.RowKit Go.Stn
variable {x:Operand}{ty:TypeId}{gd:Option (Nat×Bool)}{a:Act}{b:Nat}
theorem F1(n:Nat):(madeCells (OJ .i64 0).cells (n*1)).toList=(MV n (0:Nat)).map (λ(_:Nat)=>OJ .i64 0):=by
 have h:∀i:Nat,(OJ .i64 0).cells[i%(OJ .i64 0).cells.size]! =OJ .i64 0:=by
  intro i;have e:i%(OJ .i64 0).cells.size=0:=by simp[PA,Nat.mod_one]
  rw[e];simp[PA]
 unfold madeCells;rw[Nat.mul_one];simp only[h,Array.toList_map,Array.toList_range];rw[List.map_replicate,List.eq_replicate_iff];exact⟨by simp,by intro b o;simp at o;exact o.2.symm⟩
theorem Um{w:tW}{top o g n K:Nat}{zb tk:Nat->Nat}{nx:Nat->Nat->Int}(h:Ur w top g n K zb tk nx)(C:top<=o):Ur w o g n K zb tk nx:=
 ⟨h.tkc,h.nxc,h.ldc,LH h.bg C,λ s D=>LH (h.bz s D) C⟩
def Zp(w:tW)(K:Nat):Option (List (Nat×List Int))->Ending->tW->Prop
 | none,e,w'=>e=.returned (.tuple #[.slice none 0 0,.bool false])/\Bl w w'
 | some l,e,w'=>∃v,Fq w K l (.returned v) w'/\e=.returned (.tuple #[v,.bool true])
theorem Sg(g n aJ K:Nat)(zb tk:Nat->Nat)(nx:Nat->Nat->Int)(w:tW)(hn:n<=2000)(hK:K<=300)
  (hr:∀i k,i<n->k<K->nx i k= -1\/(0<=nx i k/\nx i k<n)) (hS:Ur w w.heap.size g n K zb tk nx):
  QY LG 40 #[.slice (some ⟨g,0,none⟩) n aJ] w λ e w'=>Zp w K (zC n tk nx K) e w':=by
 obtain⟨i0,bS,eN,aO,eO⟩:=QU bU;have HI:QQ (Tryz.prog.info? 3=some i0/\i0.zero=some (.int .i64 0)/\i0.size=1/\i0.bytes=8):=⟨bS,eN,aO,eO⟩
 clear bS eN aO eO;have HS:=fV hS;have HR:=fV hr;clear hS hr;go_enter func40,ntmps40;go_wp2_with (first|(at_make;refine wpList_make_full w rfl _ _ 59 rfl w.heap.size 3 i0 (.int .i64 0) 1 ML HI.o.1 HI.o.2.1 HI.o.2.2.1 .i64 .i64 _ _ n rfl rfl rfl rfl (by rw[HI.o.2.2.2];omega) (by unfold QX;omega) lR ?_;intro w1 X hg));have V:QQ (M3 w1 w.heap.size n (iV (MV n 0))):=λ i hi=>by
  have h1:=X.cells rfl i (.int .i64 0) (by
   rw[F1,NZ,OI,aB hi];rfl)
  have e:iV (MV n 0) i=0:=by unfold iV;rw[LZ,OI,aB hi];rfl
  rw[e];by_cases hj:i=0
  ·subst hj;simpa[Addr.add]using h1
  ·simpa[Addr.add,hj]using h1
 have aT:QQ (Bl w w1):=⟨hg.os,hg.tape,hg.output,hg.size,λ k hk=>hg.block k hk (by simp)⟩
 have aO:w.heap.size<w1.heap.size:=(X.lt w.heap.size rfl).2;clear X hg;obtain⟨MP,Z⟩:=xE (tS n tk nx K 102 (MV n 0) 0)
 have aW:QQ (zC n tk nx K=MP.map λ x=>nX tk nx K x.1 x.2):=by unfold QQ zC;rw[Z]
 replace Z:=fV Z
 go_loopg [4,5] 102 (λ gk pv cv wr=>∃(bA:List Nat)(C pg Y:Nat),pv=.slice (some ⟨pg,0,none⟩) n Y/\cv=.int .i64 (C:Int)/\C<=100/\102<=C+gk/\Bc n bA C/\MP=tS n tk nx K gk bA C/\
  M3 wr pg n (iV bA)/\pg<wr.heap.size/\Bl w wr)
 case atStart=>exact⟨MV n 0,0,w.heap.size,n,rfl,rfl,by omega,by omega,⟨by simp,λ f hf=>by omega⟩,Z.o.symm,V.o,aO,aT.o⟩
 case round=>
  obtain⟨bA,C,pg,Y,rfl,rfl,hc,hL,eL,bM,cP,hH,hb⟩:=hrel;have HQ:=fV bM;have HN:=fV cP;have HB:=fV hb;have eX:=fV eL;clear bM cP hb eL V aT;obtain⟨f,rfl⟩:∃f,gk=f+1:=⟨gk-1,by omega⟩
  have bK:=fV (HS.o.below HB.o lR);have eM:=Yl (iV bA) g n aJ K pg Y zb tk nx wr hn hK HR.o (Um bK.o HB.o.size) HN.o hH;have aR:=Gu (iS (iV bA) tk nx K) n 0 [] [];have I:=λ h=>Dh (q:=iS (iV bA) tk nx K) eX.o (λ s t=>zW) h
  have Q:=λ h=> @R0 n (iS (iV bA) tk nx K) h
  have D:=λ h=> @V5 n (iS (iV bA) tk nx K) h
  have J:tS n tk nx K (f+1) bA C=if 100<(kX n (iS (iV bA) tk nx K)).2.length then none
   else if(kX n (iS (iV bA) tk nx K)).2.length=C then some (kX n (iS (iV bA) tk nx K))
   else tS n tk nx K f (kX n (iS (iV bA) tk nx K)).1 (kX n (iS (iV bA) tk nx K)).2.length:=rfl
  have gL:QQ (kH (iS (iV bA) tk nx K) n 0 [] []=kX n (iS (iV bA) tk nx K)):=rfl;rw[gL.o]at aR;generalize kX n (iS (iV bA) tk nx K)=PP at*;obtain⟨aK,aN⟩:=PP;simp only at*;have hM:aN.length<=2000:=by have:=aR.1;simp at this;omega
  go_wp2_with fail;refine eM.mono ?_;rintro e w3 ⟨g1,c1,g2,c2,rfl,bT,cF,eR,hJ,hP,hQ,aL⟩;have V:=fV bT;have eS:=fV cF;have U:=fV (HB.o.trans (aL.mono HB.o.size));have hE:=fV (Um (bK.o.below aL HB.o.size) (LU HB.o.size aL.size));clear bT cF aL eM aR;by_cases h1:100<aN.length
  ·have HE:QQ (MP=none):=by unfold QQ;rw[HQ.o,J,aB h1]
   have hF:decide ((100:Int)<(aN.length:Int))=true:=by simp;omega
   clear J I Q D;go_wp2;go_ret2;rw[aW.o,HE.o];exact⟨rfl,U.o⟩
  ·have hF:decide ((100:Int)<(aN.length:Int))=false:=by simp;omega
   rw[aA h1]at J;have D:=D (by omega);have F:=D.len;by_cases h2:aN.length=C
   ·rw[aB h2]at J;have HE:QQ (MP=some (aK,aN)):=by unfold QQ;rw[HQ.o,J]
    have hG:((aN.length:Int)==(C:Int))=true:=by rw[h2];simp
    have bN:∀x∈aN,x<n:=λ x hx=>by
     obtain⟨i,hi,rfl⟩:=List.mem_iff_getElem.1 hx;have:=(D.rep i hi).1;rw[LZ,LN hi]at this;exact this
    have cN:M3 w3 g1 n (iV aK):=by have:=V.o;rw[F]at this;exact this
    have bO:=Np aK aN g n aJ K g1 c1 g2 c2 zb tk nx w3 hK (by omega) bN HR.o hE.o cN eR eS.o hJ;rw[F];clear J I Q D h2 bN cN F;go_wp2_with fail;refine bO.mono ?_;rintro e w4 ⟨B,zs,q1,rfl,q3,q4,q5,q6⟩;have hA:=fV q3;have hB:=fV q4;have hC:=fV q5;have hD:=fV (U.o.trans (q6.mono U.o.size));have hI:w.heap.size<=B:=LU U.o.size q1;clear q1 q3 q4 q5 q6 bO;go_wp2;go_ret2;rw[aW.o,HE.o];exact⟨.slice (some ⟨B,0,none⟩) zs.length zs.length,⟨B,zs,hI,rfl,hA.o,hB.o,hC.o,hD.o⟩,rfl⟩
   ·rw[aA h2]at J;have HE:QQ (MP=tS n tk nx K f aK aN.length):=HQ.o.trans J;have hG:((aN.length:Int)==(C:Int))=false:=by rw[aC];omega
    have hN:=I (by omega);have bC:=fV (Q (by omega));have eT:QQ (M3 w3 g1 n (iV aK)):=by have:=V.o;rw[F]at this;exact this
    rw[F];clear J I Q D F;go_wp2;go_roundg f
    case measure=>omega
    case rel=>exact⟨aK,aN.length,g1,c1,rfl,rfl,by omega,by omega,bC.o,HE.o,eT.o,eR,U.o⟩
def Eo(w:tW)(rb aH:Nat)(t:tB)(vr vn vp:tV)(st:gS)(w':tW):Prop:=w.grownBy w' (some rb)/\Rd w' rb aH w'.heap.size t st vr vn vp
theorem kR(t:tB)(st:gS)(b:Int)(rb aH:Nat)(vr vn vp:tV)(w:tW)(U:t.size<=120)(I:st.at_<=t.size)(h:Rd w rb aH w.heap.size t st vr vn vp):
  QY LG 66 #[.pointer (some ⟨rb,0,none⟩),.int .i64 b] w λ e w'=>e=.returned (.bool (gG t b st))/\Eo w rb aH t vr vn vp (Ea t b st) w':=by
 cases hb:gG t b st with
 | true=>
  rw[kQ hb];have D:(gF t st.at_ !=b)=false:=by unfold gG at hb;rw[aE]at hb;rw[hb];simp
  go_enter func66,ntmps66;go_wp2_with fail;refine(wO t st rb aH w.heap.size vr vn vp _ h).mono ?_;rintro e w1 ⟨rfl,q,rfl⟩;have C:=fZ (h.drewN q).raise;have F:QQ (w.grownBy (w.drewN q) (some rb)):=jZ (World.grownBy.refl _ _) q;generalize w.drewN q=w1 at*;clear h;have J:=C.o.c1;have Q:=C.o.fz 1;go_wp2;go_ret;exact⟨rfl,lP F.o _ _,C.o.adv.raise⟩
 | false=>
  rw[mH hb];have D:(gF t st.at_ !=b)=true:=by unfold gG at hb;rw[aF]at hb;rw[aD];exact hb
  go_enter func66,ntmps66;go_wp2_with fail;refine(wO t st rb aH w.heap.size vr vn vp _ h).mono ?_;rintro e w1 ⟨rfl,q,rfl⟩;go_wp2;go_ret;exact⟨rfl,jZ (World.grownBy.refl _ _) q,(h.drewN q).raise⟩
theorem uU{t:tB}{st:gS}(h:st.at_<t.size):(iO st).at_<=t.size:=h
theorem EJ(t:tB)(st:gS)(rb aH:Nat)(vr vn vp:tV)(w:tW)(ht:t.size<=120)(X:st.at_<=t.size)(h:Rd w rb aH w.heap.size t st vr vn vp):
  QY LG 142 #[.pointer (some ⟨rb,0,none⟩)] w λ e w'=>e=.returned (.tuple #[.int .i64 (uH t st).1,.bool (uH t st).2.1])/\Eo w rb aH t vr vn vp (uH t st).2.2 w':=by
 cases h1:gG t 110 st with
 | true=>
  have J:QQ (uH t st=(10,true,iO st)):=by unfold QQ uH;rw[aB h1]
  go_enter func142,ntmps142;go_wp2_with fail;refine(kR t st 110 rb aH vr vn vp _ ht X h).mono ?_;rintro e w1 ⟨rfl,hr⟩;rw[kQ h1]at hr;rw[h1];go_wp2;go_ret2;rw[J.o];exact⟨rfl,hr⟩
 | false=>
  have n1:¬(gG t 110 st=true):=by rw[h1];decide
  have aO:=fZ h1;go_enter func142,ntmps142;go_wp2_with fail;refine(kR t st 110 rb aH vr vn vp _ ht X h).mono ?_;rintro e w1 ⟨rfl,Z,U⟩;rw[mH h1]at U;rw[h1];have F:=fZ Z;clear h Z;go_wp2_with fail;refine(kR t st 115 rb aH vr vn vp _ ht X U).mono ?_;rintro e w2 ⟨rfl,Q,C⟩
  cases h2:gG t 115 st with
  | true=>
   have J:QQ (uH t st=(32,true,iO st)):=by unfold QQ uH;rw[aA n1,aB h2]
   rw[kQ h2]at C;have aL:=fZ C;have I:=fZ (gD F.o Q);clear C Q U F;go_wp2;go_ret2;rw[J.o];exact⟨rfl,I.o,aL.o⟩
  | false=>
   have n2:¬(gG t 115 st=true):=by rw[h2];decide
   rw[mH h2]at C;have I:=fZ (gD F.o Q);clear Q U F;go_wp2_with fail;refine(wO t st rb aH _ vr vn vp _ C).mono ?_;rintro e Y ⟨rfl,q,rfl⟩;have D:=fZ (C.drewN q).raise;have V:=fZ (jZ I.o q);clear I C;generalize w2.drewN q=Y at*;have c1:=D.o.c1;have f1:=D.o.fz 1
   cases hv:nT (gF t st.at_)with
   | false=>
    have J:QQ (uH t st=(0,false,st)):=by unfold QQ uH;rw[aA n1,aA n2,aA (by rw[hv];simp)]
    clear n1 n2;go_wp2_with (go_at_call 134;refine(uT _ _).mono ?_;rintro e Y ⟨rfl,rfl⟩);go_ret2;rw[J.o];exact⟨rfl,V.o,D.o⟩
   | true=>
    cases hl:Ff (gF t st.at_)with
    | true=>
     have J:QQ (uH t st=(0,false,st)):=by unfold QQ uH;rw[aA n1,aA n2,aA (by rw[hl];simp)]
     clear n1 n2;go_wp2_with (first|(go_at_call 134;refine(uT _ _).mono ?_;rintro e Y ⟨rfl,rfl⟩)|(go_at_call 143;refine(Tt _ _).mono ?_;rintro e Y ⟨rfl,rfl⟩));go_ret2;rw[J.o];exact⟨rfl,V.o,D.o⟩
    | false=>
     have J:QQ (uH t st=(gF t st.at_,true,iO st)):=by unfold QQ uH;rw[aA n1,aA n2,aB ⟨hv,hl⟩]
     clear n1 n2;go_wp2_with (first|(go_at_call 134;refine(uT _ _).mono ?_;rintro e Y ⟨rfl,rfl⟩)|(go_at_call 143;refine(Tt _ _).mono ?_;rintro e Y ⟨rfl,rfl⟩));go_ret2;rw[J.o];exact⟨rfl,lP V.o _ _,D.o.adv.raise⟩
theorem L6(t sp:tB)(st:gS)(rb aH:Nat)(vr vn vp:tV)(w:tW)(ht:t.size<=120)(V:sp.size<=100)(U:st.at_<=t.size)(h:Rd w rb aH w.heap.size t st vr vn vp):
  QY LG 139 #[.pointer (some ⟨rb,0,none⟩),.string sp] w λ e w'=>e=.returned (.tuple #[.int .i64 (gC t sp st).1,.bool (gC t sp st).2.1])/\Eo w rb aH t vr vn vp (gC t sp st).2.2 w':=by
 cases h1:gG t 92 st with
 | true=>
  have Q:QQ (gC t sp st=uH t (iO st)):=by unfold QQ gC;rw[aB h1]
  have Y:=iW (by omega) h1;go_enter func139,ntmps139;go_wp2_with fail;refine(kR t st 92 rb aH vr vn vp _ ht U h).mono ?_;rintro e w1 ⟨rfl,F,C⟩;rw[kQ h1]at C;rw[h1];go_wp2_with fail;refine(EJ t (iO st) rb aH vr vn vp _ ht (uU Y) C).mono ?_;rintro e w2 ⟨rfl,X,Z⟩;go_wp2;go_ret2;rw[Q.o];exact⟨rfl,gD F X,Z⟩
 | false=>
  have n1:¬(gG t 92 st=true):=by rw[h1];decide
  go_enter func139,ntmps139;go_wp2_with fail;refine(kR t st 92 rb aH vr vn vp _ ht U h).mono ?_;rintro e w1 ⟨rfl,F,C⟩;rw[mH h1]at C;rw[h1];have I:=fZ F;clear h F;go_wp2_with fail;refine(wO t st rb aH _ vr vn vp _ C).mono ?_;rintro e w2 ⟨rfl,q,rfl⟩;have D:=fZ (C.drewN q).raise;have J:=fZ (jZ I.o q);clear I C;generalize w1.drewN q=w2 at*;have c1:=D.o.c1;have f1:=D.o.fz 1
  cases hp:kV (gF t st.at_) sp with
  | true=>
   have Q:QQ (gC t sp st=(gF t st.at_,true,iO st)):=by unfold QQ gC;rw[aA n1,aB hp]
   clear n1;go_wp2_with (go_at_call 128;refine(V6 _ _ _ V).mono ?_;rintro e w2 ⟨rfl,rfl⟩);go_ret2;rw[Q.o];exact⟨rfl,lP J.o _ _,D.o.adv.raise⟩
  | false=>
   have Q:QQ (gC t sp st=(0,false,st)):=by unfold QQ gC;rw[aA n1,aA (by rw[hp];decide)]
   clear n1;go_wp2_with (go_at_call 128;refine(V6 _ _ _ V).mono ?_;rintro e w2 ⟨rfl,rfl⟩);go_ret2;rw[Q.o];exact⟨rfl,J.o,D.o⟩
theorem K0(t:tB)(st:gS)(rb aH:Nat)(vr vn vp:tV)(w:tW)(Y:t.size<=120)(Q:st.at_<=t.size)(h:Rd w rb aH w.heap.size t st vr vn vp):
  QY LG 113 #[.pointer (some ⟨rb,0,none⟩)] w λ e w'=>e=.returned (.tuple #[.int .i64 (gE t st).1,.bool (gE t st).2.1])/\Eo w rb aH t vr vn vp (gE t st).2.2 w':=by
 have U:=C5 t st.at_;go_enter func113,ntmps113;go_wp2_with fail;refine(wO t st rb aH _ vr vn vp _ h).mono ?_;rintro e w2 ⟨rfl,q,rfl⟩;have C:=fZ (h.drewN q).raise;have D:QQ (w.grownBy (w.drewN q) (some rb)):=jZ (World.grownBy.refl _ _) q;clear h;generalize w.drewN q=w2 at*;have V:=C.o.c1;have X:=C.o.fz 1;by_cases I:65<=gF t st.at_
 ·by_cases J:gF t st.at_<69
  ·have F:QQ (gE t st=(gF t st.at_-65,true,iO st)):=by unfold QQ gE;rw[aB ⟨I,J⟩]
   go_wp2;go_ret2;rw[F.o];exact⟨rfl,lP D.o _ _,C.o.adv.raise⟩
  ·have F:QQ (gE t st=(0,false,st)):=by unfold QQ gE;rw[aA (by omega)]
   go_wp2;go_ret2;rw[F.o];exact⟨rfl,D.o,C.o⟩
 ·have F:QQ (gE t st=(0,false,st)):=by unfold QQ gE;rw[aA (by omega)]
  go_wp2;go_ret2;rw[F.o];exact⟨rfl,D.o,C.o⟩
theorem xX(t:tB)(st:gS):0<=(gE t st).1/\(gE t st).1<=3:=by
 unfold gE;split
 ·simp only;omega
 ·simp
theorem Ot(t:tB)(st:gS)(rb aH:Nat)(vr vn vp:tV)(w:tW)(ht:t.size<=120)(I:st.at_<=t.size)(h:Rd w rb aH w.heap.size t st vr vn vp):
  QY LG 96 #[.pointer (some ⟨rb,0,none⟩)] w λ e w'=>e=.returned (.tuple #[.int .i64 (jP t st).1,.bool (jP t st).2.1])/\Eo w rb aH t vr vn vp (jP t st).2.2 w':=by
 cases h1:gG t 46 st with
 | true=>
  have U:QQ (jP t st=(0,true,iO st)):=by unfold QQ jP;rw[aB h1]
  go_enter func96,ntmps96;go_wp2_with fail;refine(kR t st 46 rb aH vr vn vp _ ht I h).mono ?_;rintro e w1 ⟨rfl,hr⟩;rw[kQ h1]at hr;rw[h1];go_wp2;go_ret2;rw[U.o];exact⟨rfl,hr⟩
 | false=>
  have n1:¬(gG t 46 st=true):=by rw[h1];decide
  go_enter func96,ntmps96;go_wp2_with fail;refine(kR t st 46 rb aH vr vn vp _ ht I h).mono ?_;rintro e w1 ⟨rfl,Y,Q⟩;rw[mH h1]at Q;rw[h1];have D:=fZ Y;clear h Y;go_wp2_with fail;refine(kR t st 45 rb aH vr vn vp _ ht I Q).mono ?_;rintro e w2 ⟨rfl,J,C⟩
  cases h2:gG t 45 st with
  | true=>
   have U:QQ (jP t st=(1,true,iO st)):=by unfold QQ jP;rw[aA n1,aB h2]
   rw[kQ h2]at C;have aO:=fZ C;have F:=fZ (gD D.o J);clear C J Q D;go_wp2;go_ret2;rw[U.o];exact⟨rfl,F.o,aO.o⟩
  | false=>
   have n2:¬(gG t 45 st=true):=by rw[h2];decide
   rw[mH h2]at C;have F:=fZ (gD D.o J);clear J Q D;have aR:=xX t st;go_wp2_with fail;refine(K0 t st rb aH vr vn vp _ ht I C).mono ?_;rintro e w3 ⟨rfl,Z,aL⟩;have X:=fZ aL;have V:=fZ (gD F.o Z);clear C F aL Z
   cases hl:(gE t st).2.1 with
   | true=>
    have U:QQ (jP t st=((gE t st).1+2,true,(gE t st).2.2)):=by unfold QQ jP;rw[aA n1,aA n2,aB hl]
    clear n1 n2;generalize gE t st=L at*;go_wp2;go_ret2;rw[U.o];exact⟨rfl,V.o,X.o⟩
   | false=>
    have U:QQ (jP t st=(0,false,(gE t st).2.2)):=by unfold QQ jP;rw[aA n1,aA n2,aA (by rw[hl];decide)]
    clear n1 n2;generalize gE t st=L at*;go_wp2;go_ret2;rw[U.o];exact⟨rfl,V.o,X.o⟩
theorem Hl:kJ.size<=100:=by decide
theorem zJ(t sp:tB)(st:gS):0<=(gC t sp st).1/\(gC t sp st).1<=255:=by
 have J:=C5 t st.at_;have I:=C5 t (iO st).at_;unfold gC;by_cases F:gG t 92 st=true
 ·rw[aB F];unfold uH;by_cases a1:gG t 110 (iO st)=true
  ·rw[aB a1];simp
  ·rw[aA a1];by_cases D:gG t 115 (iO st)=true
   ·rw[aB D];simp
   ·rw[aA D];by_cases C:nT (gF t (iO st).at_)=true/\Ff (gF t (iO st).at_)=false
    ·rw[aB C];have:=C.1;unfold nT at this;rw[aE]at this;simp only;omega
    ·rw[aA C];simp
 ·rw[aA F];by_cases o:kV (gF t st.at_) sp=true
  ·rw[aB o];unfold kV at o;rw[OH]at o;have:=o.1;unfold nT at this;rw[aE]at this;simp only;omega
  ·rw[aA o];simp
theorem lO{w X:tW}{rb aH:Nat}{t:tB}{st st':gS}{vr vn vp:tV}(h:Rd w rb aH w.heap.size t st vr vn vp)(D:Rd X rb aH X.heap.size t st' vr vn vp)(hg:w.grownBy X (some rb))(b o:Nat)(vs:List tV)(C:w.heap.size<=b):
  Eo w rb aH t vr vn vp st' (X.setCells b o vs):=
 ⟨oJ hg b o vs C,((h.retop D hg.size).below (fX vs o X b bR C)).raise⟩
theorem KO(f:Nat->Bool)(t:tB)(st:gS)(rb aH:Nat)(vr vn vp:tV)(w:tW)(h:Rd w rb aH w.heap.size t st vr vn vp):
  QQ (Rd ((w.alloc (.cells (gQ f).toArray 158)).alloc (.cells LD 158)) rb aH ((w.alloc (.cells (gQ f).toArray 158)).alloc (.cells LD 158)).heap.size t st vr vn vp)/\
  QQ (((w.alloc (.cells (gQ f).toArray 158)).alloc (.cells LD 158)).rangeAt w.heap.size 0 (gQ f))/\
  QQ (((w.alloc (.cells (gQ f).toArray 158)).alloc (.cells LD 158)).there (w.heap.size+1) 0 256)/\
  QQ (w.grownBy ((w.alloc (.cells (gQ f).toArray 158)).alloc (.cells LD 158)) (some rb))/\
  ((w.alloc (.cells (gQ f).toArray 158)).alloc (.cells LD 158)).heap.size=w.heap.size+2:=by
 refine⟨?_,NQ (zG w (gQ f) 158) _,iD _ LD 158 _ 256 bW (by simp),kA (kA (World.grownBy.refl _ _) _) _,by simp⟩;exact(h.below ((bR.alloc lR _).alloc (by simp) _)).raise
theorem Cx(t:tB)(f:Nat->Bool)(st:gS)(rb aH:Nat)(vr vn vp:tV)(w:tW)(ht:t.size<=120)(hB:st.at_<=t.size)(h:Rd w rb aH w.heap.size t st vr vn vp):
  QY LG 141 #[.pointer (some ⟨rb,0,none⟩),.agg (gQ f).toArray] w λ e w'=>
   e=.returned (.tuple #[.agg (gQ (gY t f st).1).toArray,.bool (gY t f st).2.1])/\Eo w rb aH t vr vn vp (gY t f st).2.2 w':=by
 obtain⟨eX,eS,hA,eT,hG⟩:=KO f t st rb aH vr vn vp w h;have hP:rb<w.heap.size:=by have:=h.hb;have:=h.hbt;omega
 go_enter func141,ntmps141;go_wp2_with fail;generalize (w.alloc (.cells (gQ f).toArray 158)).alloc (.cells LD 158)=W0 at*;obtain⟨I,hL,D,eN⟩:∃b ok s,gC t kJ st=(b,ok,s):=⟨_,_,_,rfl⟩
 have X:=zJ t kJ st;have V:=(wT (t:=t) (sp:=kJ) hB).2;have bO:=L6 t kJ st rb aH vr vn vp W0 ht Hl hB eX.o;rw[eN]at bO X V;have Q:=fZ eN;clear eN;simp only at bO X V;refine bO.mono ?_;rintro e w1 ⟨rfl,Z,hE⟩;have cP:=fZ hE;have cF:=fZ (gD eT.o Z);have bT:=fZ (fY eS.o (Z.block w.heap.size (by omega) (by intro e;injection e;omega)));have bM:=fZ (gJ hA.o (Z.block (w.heap.size+1) (by omega) (by intro e;injection e;omega)));have hH:w.heap.size+2<=w1.heap.size:=by have:=Z.size;omega
 clear hE Z eX eS hA eT hG bO
 cases hL with
 | false=>
  have HE:QQ (gY t f st=(f,false,D)):=uN Q.o;go_wp2_with (first|(refine QR rfl 158 (.tmp 3) rfl w.heap.size 0 rfl (gQ f) _ bT.o LJ rfl (by rw[gM];exact bJ) ?_)|(refine QS rfl 158 (.tmp 4) (.tmp 16) rfl (w.heap.size+1) 0 (gQ f).toArray rfl rfl (by rw[iJ];exact bM.o) (by rw[iJ];exact bJ) (QT (mB _)) ?_));refine jH NB (w.heap.size+1) 0 (gQ f) _ (.bool false) rfl rfl ?_ LJ rfl (by rw[gM];exact bJ) rfl ?_
  ·exact LF _ _ _ _ (by rw[gM];exact bM.o)
  ·rw[HE.o];exact⟨rfl,lO h cP.o cF.o _ _ _ (by omega)⟩
 | true=>
  go_wp2_with fail;refine(kR t D 45 rb aH vr vn vp _ ht V cP.o).mono ?_;rintro e w2 ⟨rfl,aL,J⟩;have aW:=fZ (gD cF.o aL);have aR:=fZ (fY bT.o (aL.block w.heap.size (by omega) (by intro e;injection e;omega)));have bN:=fZ (gJ bM.o (aL.block (w.heap.size+1) (by omega) (by intro e;injection e;omega)));have hI:w.heap.size+2<=w2.heap.size:=by have:=aL.size;omega
  clear cP cF bT bM aL hH
  cases hn:gG t 45 D with
  | false=>
   rw[mH hn]at J;have gL:=fZ J;clear J;have HE:QQ (gY t f st=(jI f I I,true,D)):=uO Q.o hn;go_wp2_with (first|(refine QR rfl 158 (.tmp 3) rfl w.heap.size 0 rfl (gQ f) _ aR.o LJ rfl (by rw[gM];exact bJ) ?_)|fail);refine(Ej f I I _).mono ?_;rintro e w9 ⟨rfl,C⟩;have eL:=fZ (((gL.o).below (C.mono lR)).raise);have cN:=fZ (gD aW.o (iQ C lR (some rb)));have U:=fZ (sG bN.o C (by omega));have hJ:=C.size;clear C gL aW bN aR;go_wp2_with (first|(refine QS rfl 158 (.tmp 4) (.tmp 23) rfl (w.heap.size+1) 0 (gQ (jI f I I)).toArray rfl rfl (by rw[iJ];exact U.o) (by rw[iJ];exact bJ) (QT (mB _)) ?_));refine jH NB (w.heap.size+1) 0 (gQ (jI f I I)) _ (.bool true) rfl rfl ?_ LJ rfl (by rw[gM];exact bJ) rfl ?_
   ·exact LF _ _ _ _ (by rw[gM];exact U.o)
   ·rw[HE.o];exact⟨rfl,lO h eL.o cN.o _ _ _ (by omega)⟩
  | true=>
   rw[kQ hn]at J;have hK:=iW (by omega) hn;have hC:(iO D).at_<=t.size:=uU hK;obtain⟨b2,hM,eR,eO⟩:∃b ok s,gC t kJ (iO D)=(b,ok,s):=⟨_,_,_,rfl⟩
   have Y:=zJ t kJ (iO D);have bS:=L6 t kJ (iO D) rb aH vr vn vp w2 ht Hl hC J;rw[eO]at bS Y;have eM:=fZ eO;clear eO;simp only at bS Y;go_wp2_with fail;refine bS.mono ?_;rintro e w3 ⟨rfl,aO,hF⟩;have bK:=fZ hF;have bC:=fZ (gD aW.o aO);have aT:=fZ (fY aR.o (aO.block w.heap.size (by omega) (by intro e;injection e;omega)));have F:=fZ (gJ bN.o (aO.block (w.heap.size+1) (by omega) (by intro e;injection e;omega)));have hN:w.heap.size+2<=w3.heap.size:=by have:=aO.size;omega
   clear hF aO J aW aR bN hI bS
   cases hM with
   | false=>
    have HE:QQ (gY t f st=(f,false,eR)):=pZ Q.o hn eM.o (.inl rfl);go_wp2_with (first|(refine QR rfl 158 (.tmp 3) rfl w.heap.size 0 rfl (gQ f) _ aT.o LJ rfl (by rw[gM];exact bJ) ?_)|(refine QS rfl 158 (.tmp 4) (.tmp 36) rfl (w.heap.size+1) 0 (gQ f).toArray rfl rfl (by rw[iJ];exact F.o) (by rw[iJ];exact bJ) (QT (mB _)) ?_));refine jH NB (w.heap.size+1) 0 (gQ f) _ (.bool false) rfl rfl ?_ LJ rfl (by rw[gM];exact bJ) rfl ?_
    ·exact LF _ _ _ _ (by rw[gM];exact F.o)
    ·rw[HE.o];exact⟨rfl,lO h bK.o bC.o _ _ _ (by omega)⟩
   | true=>
    by_cases hD:b2<I
    ·have HE:QQ (gY t f st=(f,false,eR)):=pZ Q.o hn eM.o (.inr hD);go_wp2_with (first|(refine QR rfl 158 (.tmp 3) rfl w.heap.size 0 rfl (gQ f) _ aT.o LJ rfl (by rw[gM];exact bJ) ?_)|(refine QS rfl 158 (.tmp 4) (.tmp 36) rfl (w.heap.size+1) 0 (gQ f).toArray rfl rfl (by rw[iJ];exact F.o) (by rw[iJ];exact bJ) (QT (mB _)) ?_));refine jH NB (w.heap.size+1) 0 (gQ f) _ (.bool false) rfl rfl ?_ LJ rfl (by rw[gM];exact bJ) rfl ?_
     ·exact LF _ _ _ _ (by rw[gM];exact F.o)
     ·rw[HE.o];exact⟨rfl,lO h bK.o bC.o _ _ _ (by omega)⟩
    ·have HE:QQ (gY t f st=(jI f I b2,true,eR)):=uP Q.o hn eM.o hD;go_wp2_with (first|(refine QR rfl 158 (.tmp 3) rfl w.heap.size 0 rfl (gQ f) _ aT.o LJ rfl (by rw[gM];exact bJ) ?_)|fail);refine(Ej f I b2 _).mono ?_;rintro e w9 ⟨rfl,C⟩;have eL:=fZ (((bK.o).below (C.mono lR)).raise);have cN:=fZ (gD bC.o (iQ C lR (some rb)));have U:=fZ (sG F.o C (by omega));have hJ:=C.size;clear C bK bC F aT;go_wp2_with (first|(refine QS rfl 158 (.tmp 4) (.tmp 40) rfl (w.heap.size+1) 0 (gQ (jI f I b2)).toArray rfl rfl (by rw[iJ];exact U.o) (by rw[iJ];exact bJ) (QT (mB _)) ?_));refine jH NB (w.heap.size+1) 0 (gQ (jI f I b2)) _ (.bool true) rfl rfl ?_ LJ rfl (by rw[gM];exact bJ) rfl ?_
     ·exact LF _ _ _ _ (by rw[gM];exact U.o)
     ·rw[HE.o];exact⟨rfl,lO h eL.o cN.o _ _ _ (by omega)⟩
theorem cU:LD=(gQ gK).toArray:=by kernel_rfl
theorem dB:Tryz.zeroCells158.toList=gQ gK:=by rw[cU]
theorem cZ:Tryz.zeroCells158.all (·.oneCell')=true:=by kernel_rfl
theorem GJ(t:tB)(st:gS)(rb aH:Nat)(vr vn vp:tV)(w:tW)(ht:t.size<=120)(hF:st.at_<=t.size)(h:Rd w rb aH w.heap.size t st vr vn vp):
  QY LG 137 #[.pointer (some ⟨rb,0,none⟩)] w λ e w'=>
   e=.returned (.tuple #[.agg (gQ (rH t st).1).toArray,.bool (rH t st).2.1])/\Eo w rb aH t vr vn vp (rH t st).2.2 w':=by
 have rT:rb<w.heap.size:=by have:=h.hb;have:=h.hbt;omega
 have eS:=fZ (h.below (bR.alloc lR (.cells LD 158))).raise;have hA:=fZ (iD w LD 158 _ 256 bW rfl);have eM:QQ (w.grownBy (w.alloc (.cells LD 158)) (some rb)):=kA (World.grownBy.refl _ _) _;have hP:(w.alloc (.cells LD 158)).heap.size=w.heap.size+1:=by simp
 go_enter func137,ntmps137;go_wp2_with fail;generalize w.alloc (.cells LD 158)=W0 at*;refine(kR t st 94 rb aH vr vn vp _ ht hF eS.o).mono ?_;rintro e w1 ⟨rfl,aR,cN⟩;have eN:=fZ (gD eM.o aR);have hB:=fZ (gJ hA.o (aR.block w.heap.size (by omega) (by intro e;injection e;omega)));have hQ:w.heap.size+1<=w1.heap.size:=by have:=aR.size;omega
 clear eS hA eM hP aR;obtain⟨C,D⟩:=xE (Ea t 94 st)
 obtain⟨o,ho⟩:=xE (gG t 94 st)
 have aW:C.at_<=t.size:=by
  rw[<-D];unfold Ea;split
  ·rename_i hq;exact iW (by omega) hq
  ·exact hF
 have HP:QQ (rH t st=if o=true then(if(rW t C).2.1=true then((λ i=> !((rW t C).1 i)),true,(rW t C).2.2)else(gK,false,(rW t C).2.2))else(if(rW t C).2.1=true then((rW t C).1,true,(rW t C).2.2)else(gK,false,(rW t C).2.2))):=by
  unfold QQ rH;rw[<-D,<-ho];by_cases hq:gG t 94 st=true
  ·rw[kQ hq,aB hq,aB hq]
  ·rw[mH (by simpa using hq),aA hq,aA hq]
 rw[D]at cN;rw[ho];clear D ho;have bT:=Cx t gK C rb aH vr vn vp w1 ht aW cN;have hm:=zB (f:=gK) aW;have hY:QQ (rW t C=mZ t (t.size+1) (gY t gK C).1 (gY t gK C).2.1 (gY t gK C).2.2):=rfl;generalize gY t gK C=M at*;obtain⟨X,nN,qR⟩:=M;simp only at bT hm;go_wp2_with fail;rw[cU];refine bT.mono ?_;rintro e w2 ⟨rfl,aT,hM⟩;have eO:=fZ (gD eN.o aT);have hC:=fZ (gJ hB.o (aT.block w.heap.size (by omega) (by intro e;injection e;omega)));have rL:w.heap.size+1<=w2.heap.size:=by have:=aT.size;omega
 have aL:=fZ (iD w2 LD 158 _ 256 bW rfl);have eT:=fZ hM;clear eN hB hQ aT cN hM bT;go_wp2_with (first|(refine QS rfl 158 (.tmp 5) (.tmp 13) rfl w2.heap.size 0 (gQ X).toArray rfl rfl (by rw[iJ];exact aL.o) (by rw[iJ];exact bJ) (QT (mB _)) ?_));have eX:=fZ (((h.retop eT.o (by omega)).below (bR.alloc (by omega) (.cells LD 158))).below (fX (gQ X) 0 _ w2.heap.size (MO w.heap.size _) (by omega)));have eR:=fZ (oJ (kA eO.o (.cells LD 158)) w2.heap.size 0 (gQ X) (by omega));have cP:=fZ (LF (w2.alloc (.cells LD 158)) w2.heap.size 0 (gQ X) (by rw[gM];exact aL.o));have gL:=fZ (MY aL.o w2.heap.size 0 (gQ X));have hD:=fZ (MY (OD hC.o (.cells LD 158)) w2.heap.size 0 (gQ X));have nL:w2.heap.size<((w2.alloc (.cells LD 158)).setCells w2.heap.size 0 (gQ X)).heap.size:=by
  have:=(fX (gQ X) 0 (w2.alloc (.cells LD 158)) w2.heap.size (MO 0 _) zL).size;simp at this;omega
 generalize hB2:w2.heap.size=B2 at*;generalize (w2.alloc (.cells LD 158)).setCells B2 0 (gQ X)=X0 at*;clear hB2 eT eO hC aL
 go_loopg [6] (t.size+1) (λ gk x wr=>∃(f:Nat->Bool)(ok:Bool)(s:gS),x=.bool ok/\s.at_<=t.size/\(ok=true->t.size-s.at_<gk)/\rW t C=mZ t gk f ok s/\
  Rd wr rb aH w.heap.size t s vr vn vp/\wr.rangeAt B2 0 (gQ f)/\wr.there B2 0 256/\wr.there w.heap.size 0 256/\w.grownBy wr (some rb)/\B2<wr.heap.size)
 case atStart=>exact⟨X,nN,qR,rfl,hm.2,λ _=>by omega,hY.o,eX.o,cP.o,gL.o,hD.o,eR.o,nL⟩
 case round=>
  obtain⟨f,ok,s,rfl,bS,hI,hK,hr,hf,hR,hz,hg,hH⟩:=hrel;have HL:=fZ hK;have HR:=fZ hr;have HF:=fZ hf;have HT:=fZ hR;have HZ:=fZ hz;have HG:=fZ hg;clear hK hr hf hR hz hg eX eR cP gL hD
  cases ok with
  | false=>
   have Y:rW t C=(f,false,s):=HL.o.trans (yA t gk f s);have HE:QQ (rH t st=(gK,false,s)):=by
    unfold QQ;rw[HP.o,Y];cases o<;>rfl
   clear Y;go_wp2_with (first|(refine QS rfl 158 (.tmp 2) (.tmp 29) rfl w.heap.size 0 LD rfl rfl (by rw[bW];exact HZ.o) (by rw[bW];exact bJ) cZ ?_));refine jH OR w.heap.size 0 (gQ gK) _ (.bool false) rfl rfl ?_ LJ rfl (by rw[gM];exact bJ) rfl ?_
   ·rw[dB];exact LF _ _ _ _ (by rw[gM];exact HZ.o)
   ·rw[HE.o];exact⟨rfl,lO h HR.o.raise HG.o _ _ _ lR⟩
  | true=>
   have eL:=fZ (hI rfl);clear hI;obtain⟨g',hJ⟩:∃g',gk=g'+1:=⟨gk-1,by have:=eL.o;omega⟩
   have Z:=fZ hJ;clear hJ;go_wp2_with fail;refine(kR t s 93 rb aH vr vn vp _ ht bS HR.o.raise).mono ?_;rintro e w3 ⟨rfl,I,J⟩;have U:=fZ (gD HG.o I);have Q:=fZ (fY HF.o (I.block B2 hH (by intro e;injection e;omega)));have bM:=fZ (gJ HT.o (I.block B2 hH (by intro e;injection e;omega)));have F:=fZ (gJ HZ.o (I.block w.heap.size (by omega) (by intro e;injection e;omega)));have bC:B2<w3.heap.size:=by have:=I.size;omega
   clear HG HF HT HZ I
   cases hn:gG t 93 s with
   | true=>
    rw[kQ hn]at J;have bK:=fZ J;have Y:rW t C=(f,true,iO s):=by rw[HL.o,Z.o];exact R8 hn
    clear J HR
    cases o with
    | true=>
     have HE:QQ (rH t st=((λ i=> !(f i)),true,iO s)):=by unfold QQ;rw[HP.o,Y];rfl
     clear Y;go_wp2_with (first|(refine QR rfl 158 (.tmp 5) rfl B2 0 rfl (gQ f) _ Q.o LJ rfl (by rw[gM];exact bJ) ?_)|fail);refine(Tv f _).mono ?_;rintro e w9 ⟨rfl,aO⟩;have hX:=fZ ((bK.o.below aO).raise);have hV:=fZ (gD U.o (iQ aO lR (some rb)));have hE:=fZ (sG F.o aO (by omega));clear aO bK U F Q bM;go_wp2_with (first|(refine QS rfl 158 (.tmp 2) (.tmp 32) rfl w.heap.size 0 (gQ λ i=> !(f i)).toArray rfl rfl (by rw[iJ];exact hE.o) (by rw[iJ];exact bJ) (QT (mB _)) ?_));refine jH OR w.heap.size 0 (gQ λ i=> !(f i)) _ (.bool true) rfl rfl ?_ LJ rfl (by rw[gM];exact bJ) rfl ?_
     ·exact LF _ _ _ _ (by rw[gM];exact hE.o)
     ·rw[HE.o];exact⟨rfl,lO h hX.o.raise hV.o _ _ _ lR⟩
    | false=>
     have HE:QQ (rH t st=(f,true,iO s)):=by unfold QQ;rw[HP.o,Y];rfl
     clear Y;go_wp2_with (first|(refine QR rfl 158 (.tmp 5) rfl B2 0 rfl (gQ f) _ Q.o LJ rfl (by rw[gM];exact bJ) ?_)|(refine QS rfl 158 (.tmp 2) (.tmp 33) rfl w.heap.size 0 (gQ f).toArray rfl rfl (by rw[iJ];exact F.o) (by rw[iJ];exact bJ) (QT (mB _)) ?_));refine jH OR w.heap.size 0 (gQ f) _ (.bool true) rfl rfl ?_ LJ rfl (by rw[gM];exact bJ) rfl ?_
     ·exact LF _ _ _ _ (by rw[gM];exact F.o)
     ·rw[HE.o];exact⟨rfl,lO h bK.o.raise U.o _ _ _ lR⟩
   | false=>
    rw[mH hn]at J;have Y:rW t C=mZ t g' (gY t f s).1 (gY t f s).2.1 (gY t f s).2.2:=by rw[HL.o,Z.o];exact R9 hn
    have cF:=Cx t f s rb aH vr vn vp w3 ht bS J;have hL:=zB (f:=f) bS;have bO:= @Mg t f s;generalize gY t f s=M at*;obtain⟨f5,qL,s5⟩:=M;simp only at cF hL bO;have HS:=fZ Y;clear Y;go_wp2_with (first|(refine QR rfl 158 (.tmp 5) rfl B2 0 rfl (gQ f) _ Q.o LJ rfl (by rw[gM];exact bJ) ?_)|fail);refine cF.mono ?_;rintro e w5 ⟨rfl,V,hN⟩;have hU:=fZ (gD U.o V);have bN:=fZ (gJ bM.o (V.block B2 bC (by intro e;injection e;omega)));have iN:=fZ (gJ F.o (V.block w.heap.size (by omega) (by intro e;injection e;omega)));have rO:B2<w5.heap.size:=by have:=V.size;omega
    have hW:=fZ hN;have hT:=fZ bO;clear V hN U Q bM F bC J cF HR bO;go_wp2_with (first|(refine QS rfl 158 (.tmp 5) (.tmp 25) rfl B2 0 (gQ f5).toArray rfl rfl (by rw[iJ];exact bN.o) (by rw[iJ];exact bJ) (QT (mB _)) ?_));go_roundg g'
    case measure=>have:=Z.o;omega
    case rel=>
     have hG:=fX (gQ f5) 0 w5 B2 (MO w.heap.size _) (by omega);refine⟨f5,qL,s5,rfl,hL.2,λ lH=>?_,HS.o,(h.retop hW.o (by omega)).below hG,?_,?_,?_,oJ hU.o B2 0 (gQ f5) (by omega),?_⟩
     ·have a1:=hT.o lH;have a2:=eL.o;have a3:=Z.o;omega
     ·exact LF _ _ _ _ (by rw[gM];exact bN.o)
     ·exact MY bN.o _ _ _
     ·exact MY iN.o _ _ _
     ·have:=hG.size;omega
theorem Eb:kK.size<=100:=by decide
theorem Ki(t:tB)(st:gS)(rb aH:Nat)(vr vn vp:tV)(w:tW)(ht:t.size<=120)(bK:st.at_<=t.size)(h:Rd w rb aH w.heap.size t st vr vn vp):
  QY LG 136 #[.pointer (some ⟨rb,0,none⟩)] w λ e w'=>
   e=.returned (.tuple #[.agg (gQ (hO t st).1).toArray,.bool (hO t st).2.1])/\Eo w rb aH t vr vn vp (hO t st).2.2 w':=by
 have eX:rb<w.heap.size:=by have:=h.hb;have:=h.hbt;omega
 have bS:=fZ (h.below (bR.alloc lR (.cells LD 158))).raise;have bT:=fZ (iD w LD 158 _ 256 bW rfl);have bO:QQ (w.grownBy (w.alloc (.cells LD 158)) (some rb)):=kA (World.grownBy.refl _ _) _;have cP:(w.alloc (.cells LD 158)).heap.size=w.heap.size+1:=by simp
 go_enter func136,ntmps136;go_wp2_with fail;generalize w.alloc (.cells LD 158)=W0 at*;refine(kR t st 91 rb aH vr vn vp _ ht bK bS.o).mono ?_;rintro e w1 ⟨rfl,aL,Q⟩;have V:=fZ (gD bO.o aL);have Y:=fZ (gJ bT.o (aL.block w.heap.size (by omega) (by intro e;injection e;omega)));have eL:w.heap.size+1<=w1.heap.size:=by have:=aL.size;omega
 clear bS bT bO cP aL
 cases h1:gG t 91 st with
 | true=>
  rw[kQ h1]at Q;have eO:=iW (by omega) h1;have HE:QQ (hO t st=rH t (iO st)):=by unfold QQ hO;rw[aB h1]
  have bM:=GJ t (iO st) rb aH vr vn vp w1 ht (uU eO) Q;generalize rH t (iO st)=M at*;obtain⟨f2,eR,gL⟩:=M;simp only at bM;go_wp2_with fail;refine bM.mono ?_;rintro e w2 ⟨rfl,F,D⟩;have J:=fZ (gD V.o F);have I:=fZ (gJ Y.o (F.block w.heap.size (by omega) (by intro e;injection e;omega)));have X:=fZ D;clear V Y Q F D bM;go_wp2_with (first|(refine QS rfl 158 (.tmp 2) (.tmp 10) rfl w.heap.size 0 (gQ f2).toArray rfl rfl (by rw[iJ];exact I.o) (by rw[iJ];exact bJ) (QT (mB _)) ?_));refine jH NO w.heap.size 0 (gQ f2) _ (.bool eR) rfl rfl ?_ LJ rfl (by rw[gM];exact bJ) rfl ?_
  ·exact LF _ _ _ _ (by rw[gM];exact I.o)
  ·rw[HE.o];exact⟨rfl,lO h X.o.raise J.o _ _ _ lR⟩
 | false=>
  have n1:¬(gG t 91 st=true):=by rw[h1];decide
  rw[mH h1]at Q;go_wp2_with fail;refine(kR t st 46 rb aH vr vn vp _ ht bK Q).mono ?_;rintro e w2 ⟨rfl,F,D⟩;have J:=fZ (gD V.o F);have I:=fZ (gJ Y.o (F.block w.heap.size (by omega) (by intro e;injection e;omega)));have eM:w.heap.size+1<=w2.heap.size:=by have:=F.size;omega
  clear V Y Q F eL
  cases h2:gG t 46 st with
  | true=>
   rw[kQ h2]at D;have X:=fZ D;have HE:QQ (hO t st=((λ i=> !(gK i)),true,iO st)):=by unfold QQ hO;rw[aA n1,aB h2]
   clear D n1;go_wp2_with fail;rw[cU];refine(Tv gK _).mono ?_;rintro e w9 ⟨rfl,C⟩;have bC:=fZ ((X.o.below C).raise);have aT:=fZ (gD J.o (iQ C lR (some rb)));have U:=fZ (sG I.o C (by omega));clear C X J I;go_wp2_with (first|(refine QS rfl 158 (.tmp 2) (.tmp 15) rfl w.heap.size 0 (gQ λ i=> !(gK i)).toArray rfl rfl (by rw[iJ];exact U.o) (by rw[iJ];exact bJ) (QT (mB _)) ?_));refine jH NO w.heap.size 0 (gQ λ i=> !(gK i)) _ (.bool true) rfl rfl ?_ LJ rfl (by rw[gM];exact bJ) rfl ?_
   ·exact LF _ _ _ _ (by rw[gM];exact U.o)
   ·rw[HE.o];exact⟨rfl,lO h bC.o.raise aT.o _ _ _ lR⟩
  | false=>
   have n2:¬(gG t 46 st=true):=by rw[h2];decide
   rw[mH h2]at D;have cF:=zJ t kK st;have bN:=L6 t kK st rb aH vr vn vp w2 ht Eb bK D;have HY:QQ ((gC t kK st).2.1=true->hO t st=(jI gK (gC t kK st).1 (gC t kK st).1,true,(gC t kK st).2.2)):=by
    intro hq;unfold hO;rw[aA n1,aA n2,aB hq]
   have HN:QQ ((gC t kK st).2.1=false->hO t st=(gK,false,(gC t kK st).2.2)):=by
    intro hq;unfold hO;rw[aA n1,aA n2,aA (by rw[hq];decide)]
   generalize gC t kK st=M at*;obtain⟨b3,eS,eN⟩:=M;simp only at bN cF HY HN;clear n1 n2;go_wp2_with fail;refine bN.mono ?_;rintro e w3 ⟨rfl,aO,cN⟩;have aR:=fZ (gD J.o aO);have Z:=fZ (gJ I.o (aO.block w.heap.size (by omega) (by intro e;injection e;omega)));have aW:=fZ cN;have eT:w.heap.size+1<=w3.heap.size:=by have:=aO.size;omega
   clear J I D aO cN bN eM
   cases eS with
   | false=>
    have HE:QQ (hO t st=(gK,false,eN)):=HN.o rfl;go_wp2_with (first|(refine QS rfl 158 (.tmp 2) (.tmp 23) rfl w.heap.size 0 LD rfl rfl (by rw[bW];exact Z.o) (by rw[bW];exact bJ) cZ ?_));refine jH NO w.heap.size 0 (gQ gK) _ (.bool false) rfl rfl ?_ LJ rfl (by rw[gM];exact bJ) rfl ?_
    ·rw[dB];exact LF _ _ _ _ (by rw[gM];exact Z.o)
    ·rw[HE.o];exact⟨rfl,lO h aW.o.raise aR.o _ _ _ lR⟩
   | true=>
    have HE:QQ (hO t st=(jI gK b3 b3,true,eN)):=HY.o rfl;go_wp2_with fail;rw[cU];refine(Ej gK b3 b3 _).mono ?_;rintro e w9 ⟨rfl,C⟩;have bC:=fZ ((aW.o.below C).raise);have aT:=fZ (gD aR.o (iQ C lR (some rb)));have U:=fZ (sG Z.o C (by omega));clear C aW aR Z;go_wp2_with (first|(refine QS rfl 158 (.tmp 2) (.tmp 27) rfl w.heap.size 0 (gQ (jI gK b3 b3)).toArray rfl rfl (by rw[iJ];exact U.o) (by rw[iJ];exact bJ) (QT (mB _)) ?_));refine jH NO w.heap.size 0 (gQ (jI gK b3 b3)) _ (.bool true) rfl rfl ?_ LJ rfl (by rw[gM];exact bJ) rfl ?_
    ·exact LF _ _ _ _ (by rw[gM];exact U.o)
    ·rw[HE.o];exact⟨rfl,lO h bC.o.raise aT.o _ _ _ lR⟩
theorem fI:(Tryz.prog.info? 162).map (λ i=>(i.zero,i.size,i.bytes))=some (some (.agg #[.int .i64 0,.int .i64 0,.int .i64 0]),3,24):=by kernel_rfl
theorem E1(t:tB)(st:gS)(x y z:Int)(rb aH:Nat)(vr vn vp:tV)(w:tW)(h:Rd w rb aH w.heap.size t st vr vn vp)(hn:st.aV.length<=100000):
  QY LG 115 #[.pointer (some ⟨rb,0,none⟩),.agg #[.int .i64 x,.int .i64 y,.int .i64 z]] w λ e w'=>e=.returned (.int .i64 st.aV.length)/\Fp w rb aH t vr vn vp (rK (x,y,z) st) w':=by
 have D:=fZ (h.below (bR.alloc lR (.cells #[.int .i64 x,.int .i64 y,.int .i64 z] 162)));have U:=fZ ((MO w.heap.size w).alloc lR (.cells #[.int .i64 x,.int .i64 y,.int .i64 z] 162));have g0:(w.alloc (.cells #[.int .i64 x,.int .i64 y,.int .i64 z] 162)).cell? ⟨w.heap.size,0,none⟩=some (.int .i64 x):=by rw[NK];rfl
 have g1:(w.alloc (.cells #[.int .i64 x,.int .i64 y,.int .i64 z] 162)).cell? ⟨w.heap.size,1,none⟩=some (.int .i64 y):=by rw[NK];rfl
 have g2:(w.alloc (.cells #[.int .i64 x,.int .i64 y,.int .i64 z] 162)).cell? ⟨w.heap.size,2,none⟩=some (.int .i64 z):=by rw[NK];rfl
 have Y:(w.alloc (.cells #[.int .i64 x,.int .i64 y,.int .i64 z] 162)).heap.size=w.heap.size+1:=by simp
 go_enter func115,ntmps115;go_wp2_with fail;generalize w.alloc (.cells #[.int .i64 x,.int .i64 y,.int .i64 z] 162)=W at*;have Z:=D.o.c3;have aL:rb<w.heap.size:=by have:=h.hb;have:=h.hbt;omega
 have V:aH<=W.heap.size:=by have:=h.hbt;omega
 have F:some rb≠vn.ownBlock:=λ e=>by have:=h.rn.lt rb e.symm;have:=h.hb;omega
 have f3:=D.o.fz 3;go_region_law ((refine sF W.drew rfl (.tmp 10) (.tmp 12) 41 rfl aH 162 (.agg #[.int .i64 0,.int .i64 0,.int .i64 0]) 3 24 underlying41 fI rfl (by decide) (by decide) vn st.aV.length (xC st.aV) [.int .i64 x,.int .i64 y,.int .i64 z] _ (by simp[Act.eval]) D.o.rn _ rfl (by simp[Act.eval]) rfl (by simp[MA]) (by omega) V ?_;intro g4 cap4 w4 I C J Q;have m3:=((gH C (k:=rb) (by show rb<W.heap.size;omega) F).1 3).trans Z;have n3:=((gH C (k:=rb) (by show rb<W.heap.size;omega) F).2 3).trans f3;have X:=fZ (D.o.drew.moreN (x:=(x,y,z)) I C J Q)))
 all_goals
  go_wp2;go_ret;refine⟨?_,_,_,_,X.o.1.raise,(Fr.of_grown (iQ U.o lR (some rb))).trans X.o.2.of_drew⟩
  first|rfl|(simp;done)|(congr 2;omega)
section
theorem Vv(f:Nat->Bool)(o:Array tV)(h:o.size=256):Instr.fill (λ i=>some (i*256,256)) o [(0,.agg (gQ f).toArray)]=some (gQ f).toArray:=by
 have C:=Go.Great.fill_whole (s:=256) (by decide) [.agg (gQ f).toArray] o (λ v D=>by rw[OV]at D;subst D;exact iJ f) (by simp[h]);have e:([Value.agg (gQ f).toArray].flatMap λ v=>v.cells.toList).toArray=(gQ f).toArray:=by simp[PA]
 rw[e]at C;exact C
def Bn(v:tV):Array tV:=match v with
 | .agg cs=>cs
 | _=> #[]
def Lp(v:tV):Prop:=∃f,v=.agg (gQ f).toArray
theorem dG:(Tryz.prog.info? 158).map (λ i=>(i.zero,i.size,i.bytes))=some (some (.agg LD),256,256):=by kernel_rfl
theorem dQ{d:Option Tmp}{p:String}{C:Array Edge}{X:tW}{K:Act->tW->Prop}{Q:Exit->Act->tW->Prop}
  (h:Lp (a.eval x)):
  Oper.wp LG {dst:=d,op:= .buildSlice 42 1 #[(0,x)],type:=ty,pos:=p,after:=C,guard:=gd} a X K Q=K (a.put d (.slice (some ⟨X.heap.size,0,none⟩) 1 1)) (X.alloc (.cells (Bn (a.eval x)) 158)):=by
 obtain⟨f,D⟩:=h;obtain⟨i,hi,I,o,J⟩:=QU dG;have F:=run_buildSlice (P:=LG) X 42 158 1 #[(0,.agg (gQ f).toArray)] (gQ f).toArray i _ underlying42 hi I (by rw[o];decide) (by rw[o];decide)
  (by rw[o];exact Vv f _ (by simp))
 unfold Oper.wp execOp;simp only[OY,PF,PH,D,Sem.run_bind,F,Result.andThen_ok,Bn]
 rfl
def Ov(X:tW)(v:tV):Nat->Bool:=match v with
 | .pointer (some a)=>T4 X a.block
 | _=>λ _=>false
def Gq(X:tW)(v:tV):Prop:=∃B,v=.pointer (some ⟨B,0,none⟩)/\Po X B
theorem eE{d:Option Tmp}{p:String}{o:Array Edge}{X:tW}{K:Act->tW->Prop}{Q:Exit->Act->tW->Prop}
  (h:Gq X (a.eval x)):
  Oper.wp LG {dst:=d,op:= .load 158 x,type:=ty,pos:=p,after:=o,guard:=gd} a X K Q=K (a.put d (.agg (gQ (Ov X (a.eval x))).toArray)) X:=by
 obtain⟨B,F,C⟩:=h;have D:=QW (P:=LG) X B 0 158 (gQ (T4 X B)) _ C LJ rfl (by rw[gM];exact bJ);unfold Oper.wp execOp;simp only[F,Instr.loadAt,Instr.sureAddr,Sem.run_bind,Sem.run_pure,Result.andThen_ok,D,Ov]
 rfl
attribute [local go_sem] Bn
attribute [local go_sem ↓] Go.wp_at_zero Go.wp_at_succ dQ eE
theorem Xe(t:tB)(st:gS)(rb aH:Nat)(vr vn vp:tV)(w:tW)(ht:t.size<=120)(eT:st.at_<=t.size)(h:Rd w rb aH w.heap.size t st vr vn vp)(hn:st.aV.length<=1000)(hB:st.aW.length<=1000):
  QY LG 133 #[.pointer (some ⟨rb,0,none⟩)] w λ e w'=>e=.returned (.tuple #[.int .i64 (rA t st).1,.bool (rA t st).2.1])/\Fp w rb aH t vr vn vp (rA t st).2.2 w':=by
 have hL:rb<w.heap.size:=by have:=h.hb;have:=h.hbt;omega
 have Z:=Ki t st rb aH vr vn vp w ht eT h;have hY:(hO t st).2.1=true->rA t st=(((hO t st).2.2.aV.length:Int),true,rK (0,((hO t st).2.2.aW.length:Int),0) (b7 (hO t st).1 (hO t st).2.2)):=λ hq=>by unfold rA;rw[aB hq]
 have hN:(hO t st).2.1=false->rA t st=(0,false,(hO t st).2.2):=λ hq=>by unfold rA;rw[aA (by rw[hq];decide)]
 have Q:=xU t st;generalize hO t st=M at*;obtain⟨f,ok,F⟩:=M;simp only at Z hY hN Q;have hJ:F.aV.length<=1000:=by rw[Q.2.1];exact hn
 have hK:F.aW.length<=1000:=by rw[Q.2.2];exact hB
 clear Q;have HY:=fZ hY;have HN:=fZ hN;clear hY hN;go_enter func133,ntmps133;go_wp2_with fail;refine Z.mono ?_;rintro e w1 ⟨rfl,J,bT⟩;have Y:=fZ (iD w1 LD 158 _ 256 bW rfl);have I:=J.size;clear Z;have D:=fZ (((h.retop bT I).below (bR.alloc (by omega) (.cells LD 158))).below (fX (gQ f) 0 _ w1.heap.size (MO w.heap.size _) (by omega)));have aR:=fZ (oJ (kA J (.cells LD 158)) w1.heap.size 0 (gQ f) (by omega));have cP:=fZ (LF (w1.alloc (.cells LD 158)) w1.heap.size 0 (gQ f) (by rw[gM];exact Y.o));have eS:QQ (w1.heap.size<((w1.alloc (.cells LD 158)).setCells w1.heap.size 0 (gQ f)).heap.size):=by
  unfold QQ;have:=(fX (gQ f) 0 (w1.alloc (.cells LD 158)) w1.heap.size (MO 0 _) zL).size;simp at this;omega
 have eN:=fZ J;clear J bT;go_upto_region 2 with(first|(refine xR rfl 158 (.tmp 4) (.tmp 10) rfl w1.heap.size 0 f ?_ ?_ ?_ bJ ?_;rfl;rfl;exact Y.o))
 generalize (w1.alloc (.cells LD 158)).setCells w1.heap.size 0 (gQ f)=X at*;have aO:QQ (w.heap.size<=w1.heap.size):=I;clear Y eN I;generalize w1.heap.size=B1 at*
 cases ok with
 | false=>
  have HE:=fZ (HN.o rfl);go_wp2;go_ret2;rw[HE.o];exact⟨rfl,_,_,_,D.o.raise,Fr.of_grown aR.o⟩
 | true=>
  have HE:=fZ (HY.o rfl);obtain⟨av,cv,hC⟩:=gA D.o.rp;subst hC;have c4:=D.o.c4;have f4:=D.o.fz 4;go_wp2_with fail;have V:some rb≠(LI av F.aW.length cv).ownBlock:=λ e=>by have:=D.o.rp.lt rb e.symm;have:=h.hb;omega
  have eX:aH<=X.heap.size:=by have:=D.o.hbt;have:=D.o.hz;omega
  have hG:Lp (.agg (gQ f).toArray):=⟨f,rfl⟩
  have cN:rb<X.heap.size:=by have:=D.o.hz;omega
  have hu:=LJ;have hi:(Tryz.prog.info? 158).map (·.size)=some (gQ f).length:=by rw[gM];exact bJ
  have gL:=gM f;have hA:=mB f;have hF:=cP.o;have bC:B1<X.heap.size:=eS.o;have aT:some B1≠(LI av F.aW.length cv).ownBlock:=λ e=>by have:=D.o.lp B1 e.symm;have:=aO.o;omega
  have hD:rb≠B1:=by have:=aO.o;omega
  obtain⟨U,bN⟩:=Wc (X:=X.drew) (B:=B1) (f:=f) hF;have hI:Gq X.drew (.pointer (some ⟨B1,0,none⟩)):=⟨B1,rfl,bN⟩
  have hH:gQ (Ov X.drew (.pointer (some ⟨B1,0,none⟩)))=gQ f:=U;clear U bN hu hi gL hA;go_region_law ((refine sF X.drew rfl (.tmp 25) (.tmp 27) 42 rfl aH 158 (.agg LD) 256 256 underlying42 dG bW (by decide) (by decide) _ F.aW.length (Z0 F.aW) (gQ f) _ (by simp[Act.eval]) D.o.rp _ rfl (by simp[Act.eval]) (gM f) (mB f) (by omega) eX ?_;intro g4 cap4 w4 aL C bK bS;have m3:=((gH C (k:=rb) cN V).1 4).trans c4;have n3:=((gH C (k:=rb) cN V).2 4).trans f4;have hE:w4.rangeAt B1 0 (gQ f):=λ j v hv=>((gH C (k:=B1) bC aT).1 (0+j)).trans (hF j v hv);have HM:=fZ (D.o.drew.moreP (x:=f) aL C bK bS)))
  all_goals
   have bO:=HM.o.1.raise;have eO:=fZ bO;have eL:=fZ ((Fr.of_grown aR.o).trans HM.o.2.of_drew);clear bO;generalize w4.setCell ⟨rb,4,none⟩ (.slice (some ⟨g4,0,none⟩) (F.aW.length+1) cap4)=w5 at*;go_wp2_with fail;refine(E1 t (b7 f F) 0 (F.aW.length:Int) 0 rb aH _ _ _ w5 eO.o (by show F.aV.length<=100000;omega)).mono ?_;rintro e w6 ⟨rfl,hQ,hM,hP,cF,bM⟩;have eR:=fZ cF;have eM:=fZ (eL.o.trans bM);clear cF bM;go_wp2;go_ret2;rw[HE.o];exact⟨rfl,_,_,_,eR.o,eM.o⟩
end
def zQ(st:gS):Prop:=st.aV.length<=3*st.at_/\st.aW.length<=st.at_
theorem zQ.gr{t:tB}{a b:gS}(h:zQ a)(g:Gr t a b):zQ b:=by
 obtain⟨F,I⟩:=h;obtain⟨o,C,D,g4⟩:=g;exact⟨by omega,by omega⟩
theorem zQ.adv{a:gS}(h:zQ a):zQ (Go.Stn.iO a):=by
 obtain⟨o,C⟩:=h;refine⟨?_,?_⟩
 ·show a.aV.length<=3*(a.at_+1);omega
 ·show a.aW.length<=a.at_+1;omega
def vI(o:Nat)(t:tB)(F:gS->Int×Bool×gS)(st:gS):Prop:=
 ∀(rb aH:Nat)(vr vn vp:tV)(w:tW),st.at_<=t.size->zQ st->Rd w rb aH w.heap.size t st vr vn vp->
  QY LG o #[.pointer (some ⟨rb,0,none⟩)] w λ e w'=>e=.returned (.tuple #[.int .i64 (F st).1,.bool (F st).2.1])/\Fp w rb aH t vr vn vp (F st).2.2 w'
theorem Ko(t:tB)(st:gS)(rb aH:Nat)(vr vn vp:tV)(w:tW)(h:Rd w rb aH w.heap.size t st vr vn vp):
  QY LG 122 #[.pointer (some ⟨rb,0,none⟩)] w λ e w'=>e=.returned (.bool (mS t st))/\∃q,w'=w.drewN q:=by
 have Q:QQ (mS t st=(decide (gF t st.at_=40\/gF t st.at_=91\/gF t st.at_=46\/gF t st.at_=92)||kV (gF t st.at_) kK)):=rfl;go_enter func122,ntmps122;go_wp2_with fail;refine(wO t st rb aH w.heap.size vr vn vp _ h).mono ?_;rintro e w1 ⟨rfl,q,rfl⟩;clear h;generalize gF t st.at_=p at*;by_cases D:p=40
 ·have C:QQ (mS t st=true):=by unfold QQ;rw[Q.o];simp[D]
  have U:(p==40)=true:=beq_iff_eq.2 D;clear D;go_wp2_with fail;go_ret;exact⟨by rw[C.o];rfl,q,rfl⟩
 have U:(p==40)=false:=aC.2 D;by_cases F:p=91
 ·have C:QQ (mS t st=true):=by unfold QQ;rw[Q.o];simp[F]
  have b2:(p==91)=true:=beq_iff_eq.2 F;clear D F;go_wp2_with fail;go_ret;exact⟨by rw[C.o];rfl,q,rfl⟩
 have b2:(p==91)=false:=aC.2 F;by_cases I:p=46
 ·have C:QQ (mS t st=true):=by unfold QQ;rw[Q.o];simp[I]
  have V:(p==46)=true:=beq_iff_eq.2 I;clear D F I;go_wp2_with fail;go_ret;exact⟨by rw[C.o];rfl,q,rfl⟩
 have V:(p==46)=false:=aC.2 I;by_cases J:p=92
 ·have C:QQ (mS t st=true):=by unfold QQ;rw[Q.o];simp[J]
  have X:(p==92)=true:=beq_iff_eq.2 J;clear D F I J;go_wp2_with fail;go_ret;exact⟨by rw[C.o];rfl,q,rfl⟩
 have X:(p==92)=false:=aC.2 J;have C:QQ (mS t st=kV p kK):=by unfold QQ;rw[Q.o];simp[D,F,I,J]
 clear D F I J;go_wp2_with fail;refine(V6 p kK _ Eb).mono ?_;rintro e w2 ⟨rfl,rfl⟩;go_wp2;go_ret;exact⟨by rw[C.o];rfl,q,rfl⟩
theorem d8(t:tB)(ex:gS->Int×Bool×gS)(st:gS)(ht:t.size<=120)(hx:Bg t ex)(bM:gG t 40 st=true->vI 95 t ex (iO st)):
  vI 127 t (jR t ex) st:=by
 intro rb aH vr vn vp w aL U h
 cases h1:gG t 40 st with
 | false=>
  have V:QQ (jR t ex st=rA t st):=by unfold QQ jR;rw[aA (by rw[h1];decide)]
  have hf:=U;obtain⟨cP,aR⟩:=hf;go_enter func127,ntmps127;go_wp2_with fail;refine(kR t st 40 rb aH vr vn vp _ ht aL h).mono ?_;rintro e w1 ⟨rfl,I,C⟩;rw[mH h1]at C;rw[h1];have X:=fZ I;go_wp2_with fail;refine(Xe t st rb aH vr vn vp _ ht aL C (by omega) (by omega)).mono ?_;rintro e w2 ⟨rfl,cF,bS,bT,D,Q⟩;have Y:=fZ D;have J:=fZ ((Fr.of_grown X.o).trans Q);clear D Q C I;go_wp2;go_ret2;rw[V.o];exact⟨rfl,_,_,_,Y.o,J.o⟩
 | true=>
  have bO:=iW (by omega) h1;have hq:=bM h1;have aT:=hx (iO st) (uU bO);have HY:QQ ((ex (iO st)).2.1=true/\gG t 41 (ex (iO st)).2.2=true->jR t ex st=((ex (iO st)).1,true,iO (ex (iO st)).2.2)):=by
   intro hc;unfold jR;rw[aB h1,aB hc]
  have HN:QQ (¬((ex (iO st)).2.1=true/\gG t 41 (ex (iO st)).2.2=true)->jR t ex st=(0,false,(ex (iO st)).2.2)):=by
   intro hc;unfold jR;rw[aB h1,aA hc]
  go_enter func127,ntmps127;go_wp2_with fail;refine(kR t st 40 rb aH vr vn vp _ ht aL h).mono ?_;rintro e w1 ⟨rfl,I,C⟩;rw[kQ h1]at C;rw[h1];have aO:=hq rb aH vr vn vp w1 (uU bO) U.adv C;have X:=fZ I;clear I hq bM;generalize ex (iO st)=M at*;obtain⟨n2,cN,aW⟩:=M;simp only at aO aT HY HN;have bK:aW.at_<=t.size:=aT.2.1;go_wp2_with fail;refine aO.mono ?_;rintro e w2 ⟨rfl,cF,bS,bT,D,aR⟩;have J:=fZ ((Fr.of_grown X.o).trans aR);clear aR aO C aT
  cases cN with
  | false=>
   have V:=fZ (HN.o (by simp));have Y:=fZ D;clear D;go_wp2_with fail;go_ret2;rw[V.o];exact⟨rfl,_,_,_,Y.o,J.o⟩
  | true=>
   go_wp2_with fail;refine(kR t aW 41 rb aH cF bS bT _ ht bK D).mono ?_;rintro e w3 ⟨rfl,bN,F⟩;have bC:=fZ (J.o.trans (Fr.of_grown bN));clear bN D
   cases h3:gG t 41 aW with
   | true=>
    rw[kQ h3]at F;have Z:=fZ F;have V:=fZ (HY.o (by simp[h3]));clear F;go_wp2;go_ret2;rw[V.o];exact⟨rfl,_,_,_,Z.o,bC.o⟩
   | false=>
    rw[mH h3]at F;have Z:=fZ F;have V:=fZ (HN.o (by rw[h3];simp));clear F;go_wp2;go_ret2;rw[V.o];exact⟨rfl,_,_,_,Z.o,bC.o⟩
theorem z7{p:Int}(o:p≠63)(C:p≠43)(D:p≠42):mD p=0:=by unfold mD;rw[aA o,aA C,aA D]
theorem Gx(t:tB)(ex:gS->Int×Bool×gS)(st:gS)(ht:t.size<=120)(hx:Bg t ex)(bT:gG t 40 st=true->vI 95 t ex (iO st)):
  vI 121 t (jE t ex) st:=by
 intro rb aH vr vn vp w bS aO h;have bK:=d8 t ex st ht hx bT rb aH vr vn vp w bS aO h;have aL:=(Kp hx bS).gr;have HN:QQ ((jR t ex st).2.1=false->jE t ex st=(0,false,(jR t ex st).2.2)):=by
  intro hc;unfold jE;rw[aA (by rw[hc];decide)]
 have HP:QQ ((jR t ex st).2.1=true->mD (gF t (jR t ex st).2.2.at_)=0->jE t ex st=((jR t ex st).1,true,(jR t ex st).2.2)):=by
  intro hc hm;unfold jE;rw[aB hc,aB hm]
 have HM:QQ ((jR t ex st).2.1=true->mD (gF t (jR t ex st).2.2.at_)≠0->jE t ex st=(((jR t ex st).2.2.aV.length:Int),true,rK (mD (gF t (jR t ex st).2.2.at_),(jR t ex st).1,0) (iO (jR t ex st).2.2))):=by
  intro hc hm;unfold jE;rw[aB hc,aA hm]
 have bO:=fZ (aO.gr aL);clear bT;generalize jR t ex st=M at*;obtain⟨n1,eO,F⟩:=M;simp only at bK aL HN HP HM bO;have eR:F.at_<=t.size:=aL.2.1;clear aL;go_enter func121,ntmps121;go_wp2_with fail;refine bK.mono ?_;rintro e w1 ⟨rfl,Q,I,J,X,cF⟩;have aR:=fZ cF;clear cF bK
 cases eO with
 | false=>
  have Y:=fZ (HN.o rfl);have eN:=fZ X;clear X;go_wp2;go_ret2;rw[Y.o];exact⟨rfl,_,_,_,eN.o,aR.o⟩
 | true=>
  go_wp2_with fail;refine(wO t F rb aH _ Q I J _ X).mono ?_;rintro e w2 ⟨rfl,q,rfl⟩;have Z:=fZ (X.drewN q).raise;have bN:QQ (Fr w (w1.drewN q) rb vr vn vp Q I J):=aR.o.trans (Fr.of_grown (jZ (World.grownBy.refl _ _) q));clear X aR;generalize w1.drewN q=w2 at*;have eM:=fZ (HP.o (by simp));have aW:=fZ (HM.o (by simp));clear HP HM HN;generalize hp:gF t F.at_=p at*;clear hp;have c1:=Z.o.c1;have f1:=Z.o.fz 1;have bM:F.aV.length<=100000:=by have:=bO.o.1;omega
  by_cases hm:p=63\/p=43\/p=42
  ·have bC:=fZ Z.o.adv.raise;have aT:QQ (Fr w (w2.setCell ⟨rb,1,none⟩ (.int .i64 ((F.at_:Int)+1))) rb vr vn vp Q I J):=bN.o.trans (Fr.of_grown (lP (World.grownBy.refl _ _) _ _));rcases hm with rfl|rfl|rfl
   ·have Y:=fZ (aW.o (by decide));go_wp2_with fail;refine(E1 t (iO F) 3 n1 0 rb aH Q I J _ bC.o bM).mono ?_;rintro e w3 ⟨rfl,eL,cN,cP,D,C⟩;have V:=fZ D;have U:=fZ (aT.o.trans C);clear D C;go_wp2;go_ret2;rw[Y.o];exact⟨rfl,_,_,_,V.o,U.o⟩
   ·have Y:=fZ (aW.o (by decide));go_wp2_with fail;refine(E1 t (iO F) 4 n1 0 rb aH Q I J _ bC.o bM).mono ?_;rintro e w3 ⟨rfl,eL,cN,cP,D,C⟩;have V:=fZ D;have U:=fZ (aT.o.trans C);clear D C;go_wp2;go_ret2;rw[Y.o];exact⟨rfl,_,_,_,V.o,U.o⟩
   ·have Y:=fZ (aW.o (by decide));go_wp2_with fail;refine(E1 t (iO F) 5 n1 0 rb aH Q I J _ bC.o bM).mono ?_;rintro e w3 ⟨rfl,eL,cN,cP,D,C⟩;have V:=fZ D;have U:=fZ (aT.o.trans C);clear D C;go_wp2;go_ret2;rw[Y.o];exact⟨rfl,_,_,_,V.o,U.o⟩
  ·have h1:p≠63:=λ e=>hm (.inl e)
   have h2:p≠43:=λ e=>hm (.inr (.inl e))
   have h3:p≠42:=λ e=>hm (.inr (.inr e))
   have Y:=fZ (eM.o (z7 h1 h2 h3));have b1:(p==63)=false:=aC.2 h1;have b2:(p==43)=false:=aC.2 h2;have b3:(p==42)=false:=aC.2 h3;clear hm h1 h2 h3;go_wp2;go_ret2;rw[Y.o];exact⟨rfl,_,_,_,Z.o,bN.o⟩
theorem Ta(t:tB)(ex:gS->Int×Bool×gS)(st:gS)(ht:t.size<=120)(hx:Bg t ex)(bK:∀s,st.at_<=s.at_->gG t 40 s=true->vI 95 t ex (iO s)):
  vI 114 t (mI t ex) st:=by
 intro rb aH vr vn vp w cP Z h;have aW:=Gx t ex st ht hx (bK st lR) rb aH vr vn vp w cP Z h;have Q:=(F5 hx cP).gr;have aT:=fZ (Z.gr Q);have HA:QQ (mI t ex st=nM t ex (t.size+1) (jE t ex st).1 (jE t ex st).2.1 (jE t ex st).2.2):=rfl;have hD:=fZ bK;clear bK;generalize jE t ex st=M at*;obtain⟨n1,hM,bN⟩:=M;simp only at aW Q aT HA;have eL:bN.at_<=t.size:=Q.2.1;have gL:st.at_<=bN.at_:=Q.1;clear Q;go_enter func114,ntmps114;go_wp2_with fail;refine aW.mono ?_;rintro e w1 ⟨rfl,hV,hP,hS,hA,eN⟩;have bT:=fZ hA;have bO:=fZ eN;clear eN aW hA;go_wp2_with fail
 go_loopg [4,5] (t.size+1) (λ gk x y wr=>∃(aY:Int)(ok:Bool)(s:gS)(J F I:tV),x=.int .i64 aY/\y=.bool ok/\st.at_<=s.at_/\s.at_<=t.size/\zQ s/\(ok=true->t.size-s.at_<gk)/\mI t ex st=nM t ex gk aY ok s/\
  Rd wr rb aH wr.heap.size t s J F I/\Fr w wr rb vr vn vp J F I)
 case atStart=>exact⟨n1,hM,bN,hV,hP,hS,rfl,rfl,gL,eL,aT.o,λ _=>by omega,HA.o,bT.o,bO.o⟩
 case round=>
  obtain⟨aY,ok,s,J,F,I,rfl,rfl,hK,cN,eS,eT,cF,hr,hf⟩:=hrel;have HL:=fZ cF;have HF:=fZ hf;have aO:=fZ eS;have aR:=fZ eT;clear cF hf eS eT bT bO aT HA
  cases ok with
  | false=>
   have HE:QQ (mI t ex st=(aY,false,s)):=HL.o.trans (Et t ex gk aY s);have HR:=fZ hr;clear hr;go_wp2;go_ret2;rw[HE.o];exact⟨rfl,_,_,_,HR.o,HF.o⟩
  | true=>
   obtain⟨g',eX⟩:∃g',gk=g'+1:=⟨gk-1,by have:=aR.o rfl;omega⟩
   have V:=fZ eX;clear eX;have hH:QQ (t.size-s.at_<gk):=aR.o rfl;clear aR;go_wp2_with fail;refine(Ko t s rb aH J F I _ hr).mono ?_;rintro e w3 ⟨rfl,q,rfl⟩;have Y:=(hr.drewN q).raise;have aL:QQ (Fr w (wr.drewN q) rb vr vn vp J F I):=HF.o.trans (Fr.of_grown (jZ (World.grownBy.refl _ _) q));clear hr HF;generalize wr.drewN q=w3 at*
   cases hp:mS t s with
   | false=>
    have HE:QQ (mI t ex st=(aY,true,s)):=by unfold QQ;rw[HL.o,V.o];exact Hy hp
    have hF:=fZ Y;clear Y;go_wp2;go_ret2;rw[HE.o];exact⟨rfl,_,_,_,hF.o,aL.o⟩
   | true=>
    have U:mI t ex st=nM t ex g' ((jE t ex s).2.2.aV.length:Int) (jE t ex s).2.1 (rK (1,aY,(jE t ex s).1) (jE t ex s).2.2):=by rw[HL.o,V.o];exact Hz hp
    have bC:=Gx t ex s ht hx (hD.o s hK) rb aH J F I w3 cN aO.o Y;have X:=F5 hx cN;have hJ:=Di hx hp;have HS:=fZ U;clear U;generalize jE t ex s=M at*;obtain⟨n4,hN,C⟩:=M;simp only at bC X hJ HS;have bM:=X.gr;have eM:C.at_<=t.size:=bM.2.1;have D:zQ C:=aO.o.gr bM;have hL:C.aV.length<=100000:=by have:=D.1;omega
    have hI:QQ (zQ (rK (1,aY,n4) C)):=by
     have h2:=D.2;have h1:=aO.o.1;refine⟨?_,h2⟩;show(C.aV++[(1,aY,n4)]).length<=3*C.at_;rw[LP,LR];rcases X with⟨g1,g2,g3,g4⟩|⟨g1,g2,g3,g4⟩
     ·omega
     ·omega
    clear X bM D;go_wp2_with fail;refine bC.mono ?_;rintro e w4 ⟨rfl,hW,hQ,hT,hB,eO⟩;have bS:=fZ (aL.o.trans eO);clear eO bC Y aL;go_wp2_with fail;refine(E1 t C 1 aY n4 rb aH hW hQ hT _ hB hL).mono ?_;rintro e w5 ⟨rfl,hX,hR,hU,hC,eR⟩;have hG:=fZ hC;have hE:=fZ (bS.o.trans eR);clear hC eR hB bS;go_wp2_with fail;go_roundg g'
    case measure=>have:=V.o;omega
    case rel=>
     refine⟨_,hN,rK (1,aY,n4) C,hX,hR,hU,rfl,rfl,?_,eM,hI.o,λ _=>?_,HS.o,hG.o,hE.o⟩
     ·show st.at_<=C.at_;omega
     ·show t.size-C.at_<g';have a1:=hH.o;have a2:=V.o;omega
theorem JS(t:tB)(ex:gS->Int×Bool×gS)(st:gS)(ht:t.size<=120)(hx:Bg t ex)(bK:∀s,st.at_<=s.at_->gG t 40 s=true->vI 95 t ex (iO s)):
  vI 95 t (λ st=>kE t ex (t.size+1) (mI t ex st).1 (mI t ex st).2.1 (mI t ex st).2.2) st:=by
 intro rb aH vr vn vp w cN Z h;show QY _ _ _ _ λ e w'=>e=.returned (.tuple #[.int .i64 (kE t ex (t.size+1) (mI t ex st).1 (mI t ex st).2.1 (mI t ex st).2.2).1,.bool (kE t ex (t.size+1) (mI t ex st).1 (mI t ex st).2.1 (mI t ex st).2.2).2.1])/\Fp w rb aH t vr vn vp (kE t ex (t.size+1) (mI t ex st).1 (mI t ex st).2.1 (mI t ex st).2.2).2.2 w'
 have aW:=Ta t ex st ht hx bK rb aH vr vn vp w cN Z h;have V:=M5 hx cN;have aT:=fZ (Z.gr V);generalize hA:kE t ex (t.size+1) (mI t ex st).1 (mI t ex st).2.1 (mI t ex st).2.2=A;have HA:=fZ hA.symm;clear hA;have hF:=fZ bK;clear bK;generalize mI t ex st=M at*;obtain⟨n1,hQ,bN⟩:=M;simp only at aW V aT HA;have cP:bN.at_<=t.size:=V.2.1;have gL:st.at_<=bN.at_:=V.1;clear V;go_enter func95,ntmps95;go_wp2_with fail;refine aW.mono ?_;rintro e w1 ⟨rfl,hY,hS,hV,hC,eM⟩;have bT:=fZ hC;have bO:=fZ eM;clear eM aW hC;go_wp2_with fail
 go_loopg [4,5] (t.size+1) (λ gk x y wr=>∃(aY:Int)(ok:Bool)(s:gS)(U J Q:tV),x=.int .i64 aY/\y=.bool ok/\st.at_<=s.at_/\s.at_<=t.size/\zQ s/\(ok=true->t.size-s.at_<gk)/\A=kE t ex gk aY ok s/\
  Rd wr rb aH wr.heap.size t s U J Q/\Fr w wr rb vr vn vp U J Q)
 case atStart=>exact⟨n1,hQ,bN,hY,hS,hV,rfl,rfl,gL,cP,aT.o,λ _=>by omega,HA.o,bT.o,bO.o⟩
 case round=>
  obtain⟨aY,ok,s,U,J,Q,rfl,rfl,nL,hM,eR,eS,cF,hr,hf⟩:=hrel;have HL:=fZ cF;have HF:=fZ hf;have aO:=fZ eR;have aR:=fZ eS;clear cF hf eR eS bT bO aT HA
  cases ok with
  | false=>
   have HE:QQ (A=(aY,false,s)):=HL.o.trans (Cd t ex gk aY s);have HR:=fZ hr;clear hr;go_wp2;go_ret2;rw[HE.o];exact⟨rfl,_,_,_,HR.o,HF.o⟩
  | true=>
   obtain⟨g',eT⟩:∃g',gk=g'+1:=⟨gk-1,by have:=aR.o rfl;omega⟩
   have Y:=fZ eT;clear eT;have hJ:QQ (t.size-s.at_<gk):=aR.o rfl;clear aR;go_wp2_with fail;refine(kR t s 124 rb aH U J Q _ ht hM hr).mono ?_;rintro e w3 ⟨rfl,eX,I⟩;have aL:QQ (Fr w w3 rb vr vn vp U J Q):=HF.o.trans (Fr.of_grown eX);clear hr HF eX
   cases hp:gG t 124 s with
   | false=>
    have HE:QQ (A=(aY,true,s)):=by unfold QQ;rw[HL.o,Y.o];exact Fb hp
    rw[mH hp]at I;have hH:=fZ I;clear I;go_wp2;go_ret2;rw[HE.o];exact⟨rfl,_,_,_,hH.o,aL.o⟩
   | true=>
    have hB:=iW (by omega) hp;rw[kQ hp]at I;have X:A=kE t ex g' ((mI t ex (iO s)).2.2.aV.length:Int) (mI t ex (iO s)).2.1 (rK (2,aY,(mI t ex (iO s)).1) (mI t ex (iO s)).2.2):=by rw[HL.o,Y.o];exact Fc hp
    have bC:=Ta t ex (iO s) ht hx (λ x hP=>hF.o x (by rw[iG]at hP;omega)) rb aH U J Q w3 (uU hB) aO.o.adv I;have F:=M5 hx (uU hB);have bM:=Hs F;have HS:=fZ X;clear X;have hL:s.at_+1<=(mI t ex (iO s)).2.2.at_:=by have:=F.1;rw[iG]at this;exact this
    generalize mI t ex (iO s)=M at*;obtain⟨n4,hR,C⟩:=M;simp only at bC bM hL HS F;have eL:C.at_<=t.size:=F.2.1;have D:zQ C:=aO.o.adv.gr F;have hN:C.aV.length<=100000:=by have:=D.1;omega
    have hK:QQ (zQ (rK (2,aY,n4) C)):=by
     have h2:=D.2;have h1:=aO.o.1;refine⟨?_,h2⟩;show(C.aV++[(2,aY,n4)]).length<=3*C.at_;rw[LP,LR];rcases bM with⟨g1,g2,g3,g4⟩|⟨g1,g2,g3,g4⟩
     ·omega
     ·omega
    clear bM F D;go_wp2_with fail;refine bC.mono ?_;rintro e w4 ⟨rfl,iN,hT,hW,hD,eN⟩;have bS:=fZ (aL.o.trans eN);clear eN bC I aL;go_wp2_with fail;refine(E1 t C 2 aY n4 rb aH iN hT hW _ hD hN).mono ?_;rintro e w5 ⟨rfl,lH,hU,hX,hE,eO⟩;have hI:=fZ hE;have hG:=fZ (bS.o.trans eO);clear hE eO hD bS;go_wp2_with fail;go_roundg g'
    case measure=>have:=Y.o;omega
    case rel=>
     refine⟨_,hR,rK (2,aY,n4) C,lH,hU,hX,rfl,rfl,?_,eL,hK.o,λ _=>?_,HS.o,hI.o,hG.o⟩
     ·show st.at_<=C.at_;omega
     ·show t.size-C.at_<g';have a1:=hJ.o;have a2:=Y.o;omega
theorem o6(t:tB)(C:t.size<=120):∀(f:Nat)(st:gS),t.size-st.at_<f->vI 95 t (lG t f) st:=by
 intro f
 induction f with
 | zero=>intro st h;omega
 | succ e ih=>
  intro st h;exact JS t (lG t e) st C (Cf t e) (λ s D o=>ih (iO s) (by have:=iW (by omega) o;rw[iG];omega))
structure qV(w:tW)(b:Nat)(f:Nat->Bool):Prop where
 c0:w.cell? ⟨b,0,none⟩=some (.bool (f 0))
 c1:w.cell? ⟨b,1,none⟩=some (.bool (f 1))
 c2:w.cell? ⟨b,2,none⟩=some (.bool (f 2))
 c3:w.cell? ⟨b,3,none⟩=some (.bool (f 3))
 z:∀i,w.frozen? ⟨b,i,none⟩=false
theorem qV.block{w w':tW}{f:Nat->Bool}(h:qV w b f)(o:w'.heap[b]?=w.heap[b]?):qV w' b f:=
 ⟨(LK (w:=w) (a:=⟨b,0,none⟩) o).trans h.c0,(LK (w:=w) (a:=⟨b,1,none⟩) o).trans h.c1,(LK (w:=w) (a:=⟨b,2,none⟩) o).trans h.c2,(LK (w:=w) (a:=⟨b,3,none⟩) o).trans h.c3,λ i=>(NI (w:=w) (a:=⟨b,i,none⟩) o).trans (h.z i)⟩
theorem qV.new(w:tW)(b:Nat)(o:b=w.heap.size):qV (w.alloc (.cells #[.bool false,.bool false,.bool false,.bool false] 117)) b gK:=
 ⟨(LM _ _ b 0 o).trans rfl,(LM _ _ b 1 o).trans rfl,(LM _ _ b 2 o).trans rfl,(LM _ _ b 3 o).trans rfl,λ i=>NH _ _ b i o⟩
theorem qV.alloc{w:tW}{f:Nat->Bool}(h:qV w b f)(C:b<w.heap.size)(o:Obj):qV (w.alloc o) b f:=
 ⟨(MI o b 0 C).trans h.c0,(MI o b 1 C).trans h.c1,(MI o b 2 C).trans h.c2,(MI o b 3 C).trans h.c3,λ i=>(OG o b i C).trans (h.z i)⟩
theorem qV.there{w:tW}{f:Nat->Bool}(h:qV w b f):w.there b 0 4:=by
 intro j o;rw[MJ];refine⟨?_,h.z j⟩
 match j,o with
 | 0,_=>rw[h.c0];rfl
 | 1,_=>rw[h.c1];rfl
 | 2,_=>rw[h.c2];rfl
 | 3,_=>rw[h.c3];rfl
def xI(f:Nat->Bool):List tV:= [.bool (f 0),.bool (f 1),.bool (f 2),.bool (f 3)]
theorem cA:(Tryz.prog.info? 117).map (·.size)=some 4:=by kernel_rfl
theorem oB{P:Program}{ops:Array Oper}{rest:List Oper}{op:Oper}{w:tW}{Q:Exit->Act->tW->Prop}(o:op.guard=none)(ty:TypeId)(x y:Operand)(C:op.op=.store ty x y)
  (b:Nat) (f g:Nat->Bool) (F:a.eval x=.pointer (some ⟨b,0,none⟩)) (I:a.eval y=IN f) (D:qV w b g) (hi:(P.info? ty).map (·.size)=some 4)
  (h:wpList P ops Q rest (a.put op.dst undef) (w.setCells b 0 (xI f))):wpList P ops Q (op::rest) a w:=
 QS o ty x y C b 0 (xI f).toArray F I D.there hi (by simp[xI,MA]) h
theorem GG(f:Nat->Bool)(k:Nat):sX f (k:Int) k=true:=by unfold sX;rw[aB rfl]
theorem GH(f:Nat->Bool)(k i:Nat)(h:i≠k):sX f (k:Int) i=f i:=by unfold sX;rw[aA (by omega)]
theorem qV.set{w:tW}{f:Nat->Bool}(h:qV w b f){n:Int}(I:0<=n)(J:n<=3):qV (w.setCell ⟨b,n.toNat,none⟩ (.bool true)) b (sX f n):=by
 obtain⟨k,rfl⟩:∃k:Nat,n=(k:Int):=⟨n.toNat,by omega⟩
 rw[NC];have F:(w.cell? ⟨b,k,none⟩).isSome=true:=by have:=(h.there k (by omega)).1;rw[MJ]at this;exact this
 have e:∀i,i<4->w.cell? ⟨b,i,none⟩=some (.bool (f i))->(w.setCell ⟨b,k,none⟩ (.bool true)).cell? ⟨b,i,none⟩=some (.bool (sX f k i)):=by
  intro i hi D;by_cases o:i=k
  ·subst o;rw[GG,NY _ _ _ F]
  ·rw[GH f k i o,LQ (w:=w) (a:=⟨b,k,none⟩) (b:=⟨b,i,none⟩) (v:= .bool true) (h:=by intro e;exact o (by injection e with _ C _;exact C.symm)),D]
 exact⟨e 0 (by omega) h.c0,e 1 (by omega) h.c1,e 2 (by omega) h.c2,e 3 (by omega) h.c3,λ i=>by rw[LY];exact h.z i⟩
theorem qV.other{w:tW}{f:Nat->Bool}(h:qV w b f)(c i:Nat)(v:tV)(o:b≠c):qV (w.setCell ⟨c,i,none⟩ v) b f:=
 h.block (MQ w ⟨c,i,none⟩ v b o)
theorem pI{a w:tW}{r:Option Nat}(h:a.grownBy w r){b:Nat}(D:a.heap.size<=b)(i:Nat)(v:tV):a.grownBy (w.setCell ⟨b,i,none⟩ v) r:=
 ⟨h.os,h.tape,h.output,by have:=h.size;simp[ME];omega,λ k o C=>(MQ w ⟨b,i,none⟩ v k (by show k≠b;omega)).trans (h.block k o C)⟩
theorem Vk(t:tB)(st:gS)(rb aH:Nat)(vr vn vp:tV)(w:tW)(ht:t.size<=120)(eO:st.at_<=t.size)(h:Rd w rb aH w.heap.size t st vr vn vp):
  QY LG 94 #[.pointer (some ⟨rb,0,none⟩)] w λ e w'=>
   e=.returned (.tuple #[IN (iU t st).1,.bool (iU t st).2.1])/\Eo w rb aH t vr vn vp (iU t st).2.2 w':=by
 have hb:=xX t st;have hl:=wN (t:=t) eO;have hT:rb<w.heap.size:=by have:=h.hb;have:=h.hbt;omega
 have Y:QQ (iU t st=if(gE t st).2.1=false then(gK,false,(gE t st).2.2)else nD t 5 (sX gK (gE t st).1) (gE t st).1 (gE t st).2.2):=rfl;have aW:QQ (Bl w ((w.alloc (.cells #[.bool false,.bool false,.bool false,.bool false] 117)).alloc (.cells #[.bool false,.bool false,.bool false,.bool false] 117))):=(bR.alloc lR _).alloc (by simp) _;have eL:QQ (qV ((w.alloc (.cells #[.bool false,.bool false,.bool false,.bool false] 117)).alloc (.cells #[.bool false,.bool false,.bool false,.bool false] 117)) w.heap.size gK):=by
  exact(qV.new w _ rfl).alloc (by simp) _
 have cP:QQ (qV ((w.alloc (.cells #[.bool false,.bool false,.bool false,.bool false] 117)).alloc (.cells #[.bool false,.bool false,.bool false,.bool false] 117)) (w.heap.size+1) gK):=by
  exact qV.new _ _ (by simp)
 have hA:((w.alloc (.cells #[.bool false,.bool false,.bool false,.bool false] 117)).alloc (.cells #[.bool false,.bool false,.bool false,.bool false] 117)).heap.size=w.heap.size+2:=by simp
 go_enter func94,ntmps94;go_wp2_with fail;generalize (w.alloc (.cells #[.bool false,.bool false,.bool false,.bool false] 117)).alloc (.cells #[.bool false,.bool false,.bool false,.bool false] 117)=W0 at*;refine(K0 t st rb aH vr vn vp _ ht eO (h.below aW.o).raise).mono ?_;rintro e w1 ⟨rfl,V,eT⟩;have D:=fZ (eL.o.block (V.block w.heap.size (by omega) (by intro e;injection e;omega)));have C:=fZ (cP.o.block (V.block (w.heap.size+1) (by omega) (by intro e;injection e;omega)));have bC:=fZ (gD (iQ aW.o lR (some rb)) V);have aT:w.heap.size+2<=w1.heap.size:=by have:=V.size;omega
 have aL:=fZ eT;clear eT aW eL cP hA V;generalize gE t st=M at*;obtain⟨n1,hN,bO⟩:=M;simp only at Y aL hb hl;obtain⟨Q,U⟩:=hb;obtain⟨hI,bN⟩:=hl
 cases hN with
 | false=>
  have Z:QQ (iU t st=(gK,false,bO)):=Y.o;have c0:=C.o.c0;have c1:=C.o.c1;have c2:=C.o.c2;have c3:=C.o.c3;have z0:=D.o.z 0;have z1:=D.o.z 1;have z2:=D.o.z 2;have z3:=D.o.z 3;go_wp2_with (first|(refine oB rfl 117 (.tmp 2) (.tmp 16) rfl w.heap.size gK gK rfl rfl D.o cA ?_));refine jH OS w.heap.size 0 (xI gK) _ (.bool false) rfl rfl ?_ NU rfl cA rfl ?_
  ·exact LF _ _ _ _ D.o.there
  ·rw[Z.o];exact⟨rfl,lO h aL.o.raise bC.o _ _ _ lR⟩
 | true=>
  have Z:QQ (iU t st=nD t 5 (sX gK n1) n1 bO):=Y.o;clear Y;have cN:QQ (qV (w1.setCell ⟨w.heap.size+1,n1.toNat,none⟩ (.bool true)) (w.heap.size+1) (sX gK n1)):=C.o.set Q U;have eM:QQ (qV (w1.setCell ⟨w.heap.size+1,n1.toNat,none⟩ (.bool true)) w.heap.size gK):=D.o.other _ _ _ (by omega);have bS:=fZ (pI bC.o (b:=w.heap.size+1) (by omega) n1.toNat (.bool true));have cF:=fZ ((h.retop aL.o (by omega)).below ((MO w.heap.size w1).setCell (p:=⟨w.heap.size+1,n1.toNat,none⟩) (by show w.heap.size<=w.heap.size+1;omega) (.bool true)));have gL:w.heap.size+2<=(w1.setCell ⟨w.heap.size+1,n1.toNat,none⟩ (.bool true)).heap.size:=by rw[MB];exact aT
  have hc:(w1.cell? ⟨w.heap.size+1,n1.toNat,none⟩).isSome=true:=by have:=(C.o.there n1.toNat (by omega)).1;rw[MJ]at this;exact this
  obtain⟨v1,hK⟩:=OE.1 hc;clear hc;have hz:=C.o.z n1.toNat;obtain⟨k1,hG⟩:∃k:Nat,n1=(k:Int):=⟨n1.toNat,by omega⟩
  subst hG;rw[NC]at*;go_wp2_with fail;clear hK hz;generalize w1.setCell ⟨w.heap.size+1,k1,none⟩ (.bool true)=X0 at*;clear D C bC aL aT
  go_loopg [5] 5 (λ gk x wr=>∃(f:Nat->Bool)(aZ:Int)(s:gS),x=.int .i64 aZ/\0<=aZ/\aZ<=3/\s.at_<=t.size/\3-aZ<gk/\iU t st=nD t gk f aZ s/\
   Rd wr rb aH w.heap.size t s vr vn vp/\qV wr (w.heap.size+1) f/\qV wr w.heap.size gK/\w.grownBy wr (some rb)/\w.heap.size+2<=wr.heap.size)
  case atStart=>exact⟨sX gK k1,k1,bO,rfl,Q,U,bN,by omega,Z.o,cF.o,cN.o,eM.o,bS.o,gL⟩
  case round=>
   obtain⟨f,aZ,s,rfl,hR,hS,eN,hQ,eS,hr,hf,hz,hg,hU⟩:=hrel;have HL:=fZ eS;have HF:=fZ hf;have HZ:=fZ hz;have HG:=fZ hg;have hb:=xX t s;have hl:=wN (t:=t) eN;obtain⟨g',bM⟩:∃g',gk=g'+1:=⟨gk-1,by omega⟩
   have Y:QQ (iU t st=if(gE t s).2.1=false then(f,true,(gE t s).2.2)
    else if(gE t s).1<=aZ then(f,false,(gE t s).2.2)
    else nD t g' (sX f (gE t s).1) (gE t s).1 (gE t s).2.2):=by
    unfold QQ;rw[HL.o,bM];rfl
   have bT:=fZ bM;clear bM eS hf hz hg cF cN eM bS gL Z;go_wp2_with fail;refine(K0 t s rb aH vr vn vp _ ht eN hr.raise).mono ?_;rintro e w3 ⟨rfl,X,eX⟩;have F:=fZ (HF.o.block (X.block (w.heap.size+1) (by omega) (by intro e;injection e;omega)));have J:=fZ (HZ.o.block (X.block w.heap.size (by omega) (by intro e;injection e;omega)));have bK:=fZ (gD HG.o X);have hB:w.heap.size+2<=w3.heap.size:=by have:=X.size;omega
   have aO:=fZ eX;clear eX hr X HF HZ HG;generalize gE t s=M at*;obtain⟨I,hP,aR⟩:=M;simp only at Y aO hb hl;obtain⟨Q,U⟩:=hb;obtain⟨hI,bN⟩:=hl;have c0:=F.o.c0;have c1:=F.o.c1;have c2:=F.o.c2;have c3:=F.o.c3
   cases hP with
   | false=>
    have Z:QQ (iU t st=(f,true,aR)):=Y.o;go_wp2_with (first|(refine oB rfl 117 (.tmp 2) (.tmp 26) rfl w.heap.size f gK rfl rfl J.o cA ?_));refine jH OS w.heap.size 0 (xI f) _ (.bool true) rfl rfl ?_ NU rfl cA rfl ?_
    ·exact LF _ _ _ _ J.o.there
    ·rw[Z.o];exact⟨rfl,lO h aO.o.raise bK.o _ _ _ lR⟩
   | true=>
    by_cases eR:I<=aZ
    ·have Z:QQ (iU t st=(f,false,aR)):=Y.o.trans (aB eR);go_wp2_with (first|(refine oB rfl 117 (.tmp 2) (.tmp 30) rfl w.heap.size f gK rfl rfl J.o cA ?_));refine jH OS w.heap.size 0 (xI f) _ (.bool false) rfl rfl ?_ NU rfl cA rfl ?_
     ·exact LF _ _ _ _ J.o.there
     ·rw[Z.o];exact⟨rfl,lO h aO.o.raise bK.o _ _ _ lR⟩
    ·have Z:QQ (iU t st=nD t g' (sX f I) I aR):=Y.o.trans (aA eR);clear Y c0 c1 c2 c3;have hE:QQ (qV (w3.setCell ⟨w.heap.size+1,I.toNat,none⟩ (.bool true)) (w.heap.size+1) (sX f I)):=F.o.set Q U;have hF:QQ (qV (w3.setCell ⟨w.heap.size+1,I.toNat,none⟩ (.bool true)) w.heap.size gK):=J.o.other _ _ _ (by omega);have hC:=fZ (pI bK.o (b:=w.heap.size+1) (by omega) I.toNat (.bool true));have hD:=fZ ((h.retop aO.o (by omega)).below ((MO w.heap.size w3).setCell (p:=⟨w.heap.size+1,I.toNat,none⟩) (by show w.heap.size<=w.heap.size+1;omega) (.bool true)));have hJ:w.heap.size+2<=(w3.setCell ⟨w.heap.size+1,I.toNat,none⟩ (.bool true)).heap.size:=by rw[MB];exact hB
     have hc:(w3.cell? ⟨w.heap.size+1,I.toNat,none⟩).isSome=true:=by have:=(F.o.there I.toNat (by omega)).1;rw[MJ]at this;exact this
     obtain⟨v3,hL⟩:=OE.1 hc;clear hc;have hM:=F.o.z I.toNat;obtain⟨k3,hH⟩:∃k:Nat,I=(k:Int):=⟨I.toNat,by omega⟩
     subst hH;rw[NC]at*;go_wp2_with fail;clear hL hM;generalize w3.setCell ⟨w.heap.size+1,k3,none⟩ (.bool true)=X4 at*;go_roundg g'
     case measure=>have:=bT.o;omega
     case rel=>
      exact⟨sX f k3,k3,aR,rfl,Q,U,bN,by have:=bT.o;omega,Z.o,hD.o,hE.o,hF.o,hC.o,hJ⟩
theorem zQ.same{a b:gS}(h:zQ a)(k:kM a b)(D:a.at_<=b.at_):zQ b:=by
 obtain⟨o,C⟩:=h;refine⟨?_,?_⟩
 ·rw[k.2.1];omega
 ·rw[k.2.2];omega
theorem qV.stored{w:tW}{g:Nat->Bool}(h:qV w b g)(f:Nat->Bool):qV (w.setCells b 0 (xI f)) b f:=by
 have o:=LF w b 0 (xI f) h.there;exact⟨o 0 _ rfl,o 1 _ rfl,o 2 _ rfl,o 3 _ rfl,λ i=>by rw[World.frozen?_setCells];exact h.z i⟩
theorem Eu{t:tB}{ex:gS->Int×Bool×gS}(C:∀s,(jE t ex s).2.2.aX=s.aX):∀(n:Nat)(aY:Int)(o:Bool)(st:gS),(nM t ex n aY o st).2.2.aX=st.aX:=by
 intro n
 induction n with
 | zero=>intro aY o st;rfl
 | succ e ih=>
  intro aY o st;rw[nM];split
  ·rfl
  ·split
   ·rfl
   ·rw[ih];exact C st
theorem Ce{t:tB}{ex:gS->Int×Bool×gS}(C:∀s,(mI t ex s).2.2.aX=s.aX):∀(n:Nat)(aY:Int)(o:Bool)(st:gS),(kE t ex n aY o st).2.2.aX=st.aX:=by
 intro n
 induction n with
 | zero=>intro aY o st;rfl
 | succ e ih=>
  intro aY o st;rw[kE];split
  ·rfl
  ·split
   ·rfl
   ·rw[ih];exact C (iO st)
theorem Z4(t:tB):∀(f:Nat)(st:gS),(lG t f st).2.2.aX=st.aX:=by
 intro f
 induction f with
 | zero=>intro st;rfl
 | succ e ih=>
  have F:∀s,(rA t s).2.2.aX=s.aX:=by
   intro s;have:=(xU t s).1;unfold rA;split<;>exact this
  have o:∀s,(jR t (lG t e) s).2.2.aX=s.aX:=by
   intro s;unfold jR;split
   ·split
    ·exact ih (iO s)
    ·exact ih (iO s)
   ·exact F s
  have C:∀s,(jE t (lG t e) s).2.2.aX=s.aX:=by
   intro s;unfold jE;split
   ·split
    ·exact o s
    ·exact o s
   ·exact o s
  have D:∀s,(mI t (lG t e) s).2.2.aX=s.aX:=by
   intro s;unfold mI;rw[Eu C];exact C s
  intro st;rw[lG,Ce D];exact D st
theorem fK:(Tryz.prog.info? 119).map (λ i=>(i.zero,i.size,i.bytes))=some (some (.agg #[.bool false,.bool false,.bool false,.bool false,.int .i64 0,.int .i64 0]),6,24):=by kernel_rfl
theorem M7(t:tB)(st:gS):kM st (jP t st).2.2:=by
 unfold jP;split
 ·exact kM.adv st
 ·split
  ·exact kM.adv st
  ·split
   ·exact vS t st
   ·exact vS t st
theorem Nb(t:tB)(st:gS)(rb aH:Nat)(vr vn vp:tV)(w:tW)(ht:t.size<=120)(hJ:st.at_<=t.size)(bK:zQ st)(hR:st.aX.length<=100000)(h:Rd w rb aH w.heap.size t st vr vn vp):
  QY LG 65 #[.pointer (some ⟨rb,0,none⟩)] w λ e w'=>e=.returned (.bool (nI t st).1)/\Fp w rb aH t vr vn vp (nI t st).2 w':=by
 have tO:rb<w.heap.size:=by have:=h.hb;have:=h.hbt;omega
 have HC:QQ (nI t st=if(iU t st).2.1=false then(false,(iU t st).2.2)
  else if gG t 32 (iU t st).2.2=false then(false,(iU t st).2.2)
  else F8 t (iU t st).1 (iO (iU t st).2.2)):=rfl
 have hl:=Do (t:=t) hJ;go_enter func65,ntmps65;go_wp2_with fail;refine(Vk t st rb aH vr vn vp _ ht hJ h).mono ?_;rintro e w1 ⟨rfl,eN,eS⟩;generalize iU t st=M at*;obtain⟨f,qR,C⟩:=M;simp only at HC hl eS;obtain⟨eT,iN,lH⟩:=hl;have tT:=eN.size;have hE:=fZ (bK.same eT iN);have hD:QQ (C.aX.length<=100000):=by unfold QQ;rw[eT.1];exact hR
 have hF:=fZ ((qV.new w1 _ rfl).stored f);have bN:QQ (Bl w1 ((w1.alloc (.cells #[.bool false,.bool false,.bool false,.bool false] 117)).setCells w1.heap.size 0 (xI f))):=fX (xI f) 0 _ w1.heap.size (bR.alloc lR _) lR;have cN:=fZ (eS.below bN.o).raise;have bO:QQ (Fr w ((w1.alloc (.cells #[.bool false,.bool false,.bool false,.bool false] 117)).setCells w1.heap.size 0 (xI f)) rb vr vn vp vr vn vp):=Fr.of_grown (gD eN (iQ bN.o lR (some rb)));have nL:w1.heap.size<((w1.alloc (.cells #[.bool false,.bool false,.bool false,.bool false] 117)).setCells w1.heap.size 0 (xI f)).heap.size:=by
  have:=(fX (xI f) 0 (w1.alloc (.cells #[.bool false,.bool false,.bool false,.bool false] 117)) w1.heap.size (MO 0 _) zL).size;simp at this;omega
 have hB:QQ (¬(w1.heap.size=rb\/vr.ownBlock=some w1.heap.size\/vn.ownBlock=some w1.heap.size\/vp.ownBlock=some w1.heap.size)):=by
  rintro(e|e|e|e)
  ·omega
  ·have:=h.lr _ e;omega
  ·have:=h.ln _ e;omega
  ·have:=h.lp _ e;omega
 clear eN eS bN eT bK hR h
 cases qR with
 | false=>
  have U:QQ (nI t st=(false,C)):=HC.o;go_wp2_with (first|(refine oB rfl 117 (.tmp 3) (.tmp 10) rfl w1.heap.size f gK rfl rfl (qV.new w1 _ rfl) cA ?_));go_ret;rw[U.o];exact⟨rfl,_,_,_,cN.o,bO.o⟩
 | true=>
 go_wp2_with (first|(refine oB rfl 117 (.tmp 3) (.tmp 10) rfl w1.heap.size f gK rfl rfl (qV.new w1 _ rfl) cA ?_));generalize (w1.alloc (.cells #[.bool false,.bool false,.bool false,.bool false] 117)).setCells w1.heap.size 0 (xI f)=X1 at*;generalize w1.heap.size=B at*;refine(kR t C 32 rb aH vr vn vp _ ht lH cN.o).mono ?_;rintro e w2 ⟨rfl,aL,J⟩;have bS:=fZ (bO.o.trans (Fr.of_grown aL));have hG:=fZ (hF.o.block (aL.block B (by omega) (by intro e;injection e;omega)));have eX:B<w2.heap.size:=by have:=aL.size;omega
 clear aL cN bO hF nL
 cases hn1:gG t 32 C with
 | false=>
  have U:QQ (nI t st=(false,C)):=HC.o.trans (aB hn1);rw[mH hn1]at J;have hU:=fZ J;clear J;go_wp2;go_ret;rw[U.o];exact⟨rfl,_,_,_,hU.o,bS.o⟩
 | true=>
 have HM:QQ (nI t st=if(lG t (t.size+1) (iO C)).2.1=false then(false,(lG t (t.size+1) (iO C)).2.2)
  else if gG t 32 (lG t (t.size+1) (iO C)).2.2=false then(false,(lG t (t.size+1) (iO C)).2.2)
  else F7 t f (lG t (t.size+1) (iO C)).1 (iO (lG t (t.size+1) (iO C)).2.2)):=by
  have eO:¬gG t 32 C=false:=by rw[hn1];decide
  exact HC.o.trans (aA eO)
 have hM:=iW (by omega) hn1;rw[kQ hn1]at J;have eL:=o6 t ht (t.size+1) (iO C) (by omega) rb aH vr vn vp w2 (uU hM) hE.o.adv J;have aT:=Cf t (t.size+1) (iO C) (uU hM);have cP:QQ ((lG t (t.size+1) (iO C)).2.2.aX=C.aX):=Z4 t (t.size+1) (iO C);clear HC hn1;generalize lG t (t.size+1) (iO C)=M at*;obtain⟨n3,rL,D⟩:=M;simp only at HM aT cP eL;have hK:D.at_<=t.size:=aT.2.1;have sW:=fZ (hE.o.adv.gr aT);go_wp2_with fail;refine eL.mono ?_;rintro e w3 ⟨rfl,bC,hS,hT,aW,V⟩;have bT:=fZ (bS.o.trans V);have hH:=fZ (hG.o.block (V.block B eX hB.o));have rT:=fZ (V.stay B eX hB.o);have nN:B<w3.heap.size:=by have:=V.size;omega
 have hX:QQ (D.aX.length<=100000):=by unfold QQ;rw[cP.o];exact hD.o
 clear V eL J bS hG eX hD cP aT
 cases rL with
 | false=>
  have U:QQ (nI t st=(false,D)):=HM.o;have hV:=fZ aW;clear aW;go_wp2;go_ret;rw[U.o];exact⟨rfl,_,_,_,hV.o,bT.o⟩
 | true=>
 go_wp2_with fail;refine(kR t D 32 rb aH bC hS hT _ ht hK aW).mono ?_;rintro e w4 ⟨rfl,aO,Q⟩;have cF:=fZ (bT.o.trans (Fr.of_grown aO));have hI:=fZ (hH.o.block (aO.block B (by omega) (by intro e;injection e;omega)));have qL:B<w4.heap.size:=by have:=aO.size;omega
 clear aO aW bT hH nN
 cases hn3:gG t 32 D with
 | false=>
  have U:QQ (nI t st=(false,D)):=HM.o.trans (aB hn3);rw[mH hn3]at Q;have hW:=fZ Q;clear Q;go_wp2;go_ret;rw[U.o];exact⟨rfl,_,_,_,hW.o,cF.o⟩
 | true=>
 have Y:QQ (nI t st=if(jP t (iO D)).2.1=false then(false,(jP t (iO D)).2.2)else(true,DP (f,(jP t (iO D)).1,n3) (jP t (iO D)).2.2)):=by
  have eO:¬gG t 32 D=false:=by rw[hn3];decide
  exact HM.o.trans (aA eO)
 have hN:=iW (by omega) hn3;rw[kQ hn3]at Q;have hC:QQ ((jP t (iO D)).2.2.aX=D.aX):=(M7 t (iO D)).1;have eM:=Ot t (iO D) rb aH bC hS hT w4 ht (uU hN) Q;clear HM hn3;generalize jP t (iO D)=M at*;obtain⟨n5,rO,X⟩:=M;simp only at Y hC eM;go_wp2_with fail;refine eM.mono ?_;rintro e w5 ⟨rfl,aR,hQ⟩;have gL:=fZ (cF.o.trans (Fr.of_grown aR));have Z:=fZ (hI.o.block (aR.block B (by omega) (by intro e;injection e;omega)));have A0:B<w5.heap.size:=by have:=aR.size;omega
 have I:=fZ hQ;clear aR Q cF hI qL hQ eM
 cases rO with
 | false=>
  have U:QQ (nI t st=(false,X)):=Y.o;go_wp2;go_ret;rw[U.o];exact⟨rfl,_,_,_,I.o,gL.o⟩
 | true=>
 have U:QQ (nI t st=(true,DP (f,n5,n3) X)):=Y.o;have tL:X.aX.length<=100000:=by rw[hC.o];exact hX.o
 clear Y;have c2:=I.o.c2;have f2:=I.o.fz 2;have d0:=Z.o.c0;have d1:=Z.o.c1;have d2:=Z.o.c2;have d3:=Z.o.c3;go_wp2_with fail;have sR:rb<w5.heap.size:=by omega
 have hY:aH<=w5.heap.size:=I.o.hbt;have bM:some rb≠bC.ownBlock:=λ e=>by have:=(I.o.rr.lt rb e.symm).1;have:=I.o.hb;omega
 go_region_law ((refine sF w5.drew rfl (.tmp 43) (.tmp 48) 40 rfl aH 119 (.agg #[.bool false,.bool false,.bool false,.bool false,.int .i64 0,.int .i64 0]) 6 24 underlying40 fK rfl (by decide) (by decide) bC X.aX.length (D0 X.aX) [.bool (f 0),.bool (f 1),.bool (f 2),.bool (f 3),.int .i64 n5,.int .i64 n3] _ (by simp[Act.eval]) I.o.rr _ rfl (by simp[Act.eval]) rfl (by simp[MA]) (by omega) hY ?_;intro g4 cap4 w6 eR F hL hP;have m3:=((gH F (k:=rb) (by show rb<w5.heap.size;omega) bM).1 2).trans c2;have A1:=((gH F (k:=rb) (by show rb<w5.heap.size;omega) bM).2 2).trans f2;have hA:=fZ (I.o.drew.moreR (x:=(f,n5,n3)) eR F hL hP)))
 all_goals
  go_wp2;go_ret;rw[U.o];exact⟨rfl,_,_,_,hA.o.1.raise,gL.o.trans hA.o.2.of_drew⟩
end Go.Proofs.YtgjgjgihceijnaaGreat
namespace Go.Stn
variable {n k:Nat}{l:List Int}{x a fr dst:Int}
theorem Gr.same{t:tB}{a b:gS}(h:kM a b)(o:a.at_<=b.at_)(C:b.at_<=t.size):Gr t a b:=(Kb h o C).gr
theorem Gr.step{t:tB}{a:gS}(h:a.at_<t.size):Gr t a (iO a):=Gr.same (kM.adv a) (by rw[iG];omega) (by rw[iG];omega)
def LC(t:tB)(a b:gS):Prop:=Gr t a b/\b.aX.length+a.at_<=a.aX.length+b.at_
theorem Rv{t:tB}{f:Nat->Bool}{root:Int}{st:gS}(h:st.at_<=t.size):Gr t st (F7 t f root st).2/\(F7 t f root st).2.aX.length<=st.aX.length+1:=by
 have o:=Oq h;have C:=Go.Proofs.YtgjgjgihceijnaaGreat.M7 t st;have D:=Gr.same C o.1 o.2;have e:(jP t st).2.2.aX.length=st.aX.length:=by rw[C.1]
 unfold F7;split
 ·exact⟨D,by simp only;omega⟩
 ·refine⟨D,?_⟩;simp only[DP,LP,LR];omega
theorem Rw{t:tB}{f:Nat->Bool}{st:gS}(h:st.at_<=t.size):Gr t st (F8 t f st).2/\((F8 t f st).2.aX.length<=st.aX.length+1):=by
 have o:=Cf t (t.size+1) st h;have I:=Go.Proofs.YtgjgjgihceijnaaGreat.Z4 t (t.size+1) st;have e:(lG t (t.size+1) st).2.2.aX.length=st.aX.length:=by rw[I]
 unfold F8;split
 ·exact⟨o,by simp only;omega⟩
 ·split
  ·exact⟨o,by simp only;omega⟩
  ·rename_i Q;have C:=iW (by omega) (show gG t 32 (lG t (t.size+1) st).2.2=true by simpa using Q);have D:=Rv (t:=t) (f:=f) (root:=(lG t (t.size+1) st).1) (st:=iO (lG t (t.size+1) st).2.2) (by rw[iG];omega);refine⟨(o.trans (Gr.step C)).trans D.1,?_⟩;have J:=D.2;have F:(iO (lG t (t.size+1) st).2.2).aX=(lG t (t.size+1) st).2.2.aX:=rfl;rw[F]at J;omega
theorem R5{t:tB}{st:gS}(h:st.at_<=t.size):LC t st (nI t st).2:=by
 have o:=Do h;have C:=Gr.same o.1 o.2.1 o.2.2;have e:(iU t st).2.2.aX.length=st.aX.length:=by rw[o.1.1]
 unfold nI;split
 ·exact⟨C,by simp only;omega⟩
 ·split
  ·exact⟨C,by simp only;omega⟩
  ·rename_i U;have F:=iW (by omega) (show gG t 32 (iU t st).2.2=true by simpa using U);have D:=Rw (t:=t) (f:=(iU t st).1) (st:=iO (iU t st).2.2) (by rw[iG];omega);refine⟨(C.trans (Gr.step F)).trans D.1,?_⟩;have J:=D.2;have Q:=D.1.1;have I:(iO (iU t st).2.2).aX=(iU t st).2.2.aX:=rfl;rw[I]at J;rw[iG]at Q;omega
def lT(t:tB):Nat->Bool->gS->Bool×gS
 | 0,_,st=>(false,st)
 | n+1,ok,st=>if ok=false then(false,st)else if gG t 10 st=false then(true,st)else lT t n (nI t (iO st)).1 (nI t (iO st)).2
theorem vD(t:tB)(n:Nat)(st:gS):lT t n false st=(false,st):=by cases n<;>rfl
theorem D1{t:tB}{st:gS}(h:gG t 10 st=false):lT t (n+1) true st=(true,st):=by rw[lT,aA (by decide),aB h]
theorem D2{t:tB}{st:gS}(h:gG t 10 st=true):lT t (n+1) true st=lT t n (nI t (iO st)).1 (nI t (iO st)).2:=by rw[lT,aA (by decide),aA (by rw[h];decide)]
def mY(t:tB)(st:gS):Bool×gS:=lT t (t.size+1) (nI t st).1 (nI t st).2
def sS(t:tB)(x:Bool×gS):Bool:=x.1&&(decide (x.2.at_=t.size)&&decide (x.2.aX.length<=8))
def jX:gS:= {at_:=0,aX:= [],aV:= [],aW:= []}
def iB(t:tB):gS:=(mY t jX).2
def kB(t:tB):Int:=
 if 120<t.size then 1 else if sS t (mY t jX)=false then 2 else if 10<(mY t jX).2.aW.length then 3 else 0
def sO(k:Nat):Int:=((2 ^ k:Nat):Int)
def Ad(a b:Int):Int:=bits .or .i64 a b
def nQ(a b:Int):Int:=bits .and .i64 a b
def sD(p:Int×Int×Bool):tV:= .agg #[.int .i64 p.1,.int .i64 p.2.1,.bool p.2.2]
def zA(l r:Int×Int×Bool):Int×Int×Bool:=
 (if l.2.2=true then Ad l.1 r.1 else l.1,if r.2.2=true then Ad r.2.1 l.2.1 else r.2.1,l.2.2&&r.2.2)
def jT:List Int->Int->Nat
 | [],_=>0
 | a::r,x=>if a=x then 0 else jT r x+1
theorem o9(h:l[k]?=some x):jT (l.drop k) x=0:=by
 have e:l.drop k=x::l.drop (k+1):=by
  obtain⟨C,o⟩:=MM.1 h;rw[MZ C,o]
 rw[e,jT,aB rfl]
theorem p8(h:l[k]?=some a)(o:a≠x):jT (l.drop k) x=jT (l.drop (k+1)) x+1:=by
 have e:l.drop k=a::l.drop (k+1):=by
  obtain⟨D,C⟩:=MM.1 h;rw[MZ D,C]
 rw[e,jT,aA o]
structure Bk(w:tW)(v:tV)(l:List Int):Prop where
 sh:(v=.slice none 0 0/\l=[])\/∃g aJ,v=.slice (some ⟨g,0,none⟩) l.length aJ/\l.length<=aJ/\aJ<=QX/\∀k x,l[k]?=some x->w.cell? ⟨g,k,none⟩=some (.int .i64 x)
def I8(aG:Nat->Int)(pl:Int):Nat->Int
 | 0=>0
 | k+1=>if nQ pl (sO k)=0 then I8 aG pl k else Ad (I8 aG pl k) (aG k)
def Bt(aG:Nat->Int)(pl:Int):Int:=I8 aG pl 10
def xL(aG:Nat->Int)(fr dst:Int)(k:Nat):Nat->Int:=λ i=>if i<k/\nQ fr (sO i)≠0 then Ad (aG i) dst else aG i
def rR(aG:Nat->Int)(fr dst:Int):Nat->Int:=xL aG fr dst 10
theorem Ps(aG:Nat->Int)(fr dst:Int)(k:Nat):xL aG fr dst k k=aG k:=by unfold xL;rw[aA (by omega)]
theorem v8{aG:Nat->Int}(h:nQ fr (sO k)=0):xL aG fr dst (k+1)=xL aG fr dst k:=by
 funext i
 unfold xL;by_cases e:i=k
 ·subst e;rw[aA (by simp[h]),aA (by omega)]
 ·by_cases hi:i<k
  ·simp[hi,show i<k+1 by omega]
  ·simp[hi,show¬i<k+1 by omega]
theorem Wi{aG:Nat->Int}(h:nQ fr (sO k)≠0)(i:Nat):xL aG fr dst (k+1) i=if i=k then Ad (aG k) dst else xL aG fr dst k i:=by
 unfold xL;by_cases e:i=k
 ·subst e;rw[aB ⟨by omega,h⟩,aB rfl]
 ·rw[aA e];by_cases hi:i<k
  ·simp[hi,show i<k+1 by omega]
  ·simp[hi,show¬i<k+1 by omega]
def oR(o left:Int)(l r:Int×Int×Bool)(aG:Nat->Int):(Int×Int×Bool)×(Nat->Int):=
 if o=0 then((sO left.toNat,sO left.toNat,false),aG)
 else if o=1 then(zA l r,rR aG l.2.1 r.1)
 else if o=2 then((Ad l.1 r.1,Ad l.2.1 r.2.1,l.2.2||r.2.2),aG)
 else if o=3 then((l.1,l.2.1,true),aG)
 else if o=4 then(l,rR aG l.2.1 l.1)
 else((l.1,l.2.1,true),rR aG l.2.1 l.1)
def L8:List Int->Int->Nat->Nat
 | [],_,_=>0
 | a::r,pl,k=>if nQ pl a=0 then L8 r pl (k+1)else k+1
def yT(l:List Int)(pl:Int):Nat:=L8 l pl 0
theorem Yx(h:l[k]?=some a)(pl:Int)(m:Nat):L8 (l.drop k) pl m=if nQ pl a=0 then L8 (l.drop (k+1)) pl (m+1)else m+1:=by
 have e:l.drop k=a::l.drop (k+1):=by
  obtain⟨C,o⟩:=MM.1 h;rw[MZ C,o]
 rw[e,L8]
end Go.Stn
namespace Go.Proofs.YtgjgjgihceijnaaGreat
open Go.RowKit Go.Stn
variable {b B nb:Nat}{r:Option Nat}
theorem Xw(t:tB)(st:gS)(rb aH:Nat)(vr vn vp:tV)(w:tW)(ht:t.size<=120)(bS:st.at_<=t.size)(V:zQ st)(hT:st.aX.length<=st.at_)(h:Rd w rb aH w.heap.size t st vr vn vp):
  QY LG 33 #[.pointer (some ⟨rb,0,none⟩)] w λ e w'=>e=.returned (.bool (sS t (mY t st)))/\Fp w rb aH t vr vn vp (mY t st).2 w':=by
 have aT:=Nb t st rb aH vr vn vp w ht bS V (by omega) h;have X:=R5 (t:=t) bS;have HA:QQ (mY t st=lT t (t.size+1) (nI t st).1 (nI t st).2):=rfl;generalize nI t st=M at*;obtain⟨hH,aO⟩:=M;simp only at aT X HA;have bT:aO.at_<=t.size:=X.1.2.1;have bM:=fZ (V.gr X.1);have eX:aO.aX.length<=aO.at_:=by have:=X.2;omega
 clear X V;go_enter func33,ntmps33;go_wp2_with fail;refine aT.mono ?_;rintro e w1 ⟨rfl,hN,hJ,hL,eS,cN⟩;have bN:=fZ eS;have bC:=fZ cN;clear cN aT eS;go_wp2_with fail
 go_loopg [3] (t.size+1) (λ gk y wr=>∃(ok:Bool)(s:gS)(Q I J:tV),y=.bool ok/\s.at_<=t.size/\s.aX.length<=s.at_/\zQ s/\(ok=true->t.size-s.at_<gk)/\mY t st=lT t gk ok s/\
  Rd wr rb aH wr.heap.size t s Q I J/\Fr w wr rb vr vn vp Q I J)
 case atStart=>exact⟨hH,aO,hN,hJ,hL,rfl,bT,eX,bM.o,λ _=>by omega,HA.o,bN.o,bC.o⟩
 case round=>
  obtain⟨ok,s,Q,I,J,rfl,hF,hS,eL,eM,bO,hr,hf⟩:=hrel;have HL:=fZ bO;have HF:=fZ hf;have bK:=fZ eL;have aR:=fZ eM;clear bO hf eL eM bN bC bM HA
  cases ok with
  | false=>
   have HE:QQ (mY t st=(false,s)):=HL.o.trans (vD t gk s);have HR:=fZ hr.drewN;clear hr;go_wp2_with fail;go_quiet (fail);go_wp2;go_ret;rw[HE.o];exact⟨rfl,_,_,_,(HR.o _).raise,HF.o.trans (Fr.of_grown (jZ (World.grownBy.refl _ _) _))⟩
  | true=>
   obtain⟨g',eN⟩:∃g',gk=g'+1:=⟨gk-1,by have:=aR.o rfl;omega⟩
   have aL:=fZ eN;clear eN;have hD:QQ (t.size-s.at_<gk):=aR.o rfl;clear aR;go_wp2_with fail;refine(kR t s 10 rb aH Q I J _ ht hF hr).mono ?_;rintro e w3 ⟨rfl,eO,F⟩;have U:QQ (Fr w w3 rb vr vn vp Q I J):=HF.o.trans (Fr.of_grown eO);clear hr HF eO
   cases hp:gG t 10 s with
   | false=>
    have HE:QQ (mY t st=(true,s)):=by unfold QQ;rw[HL.o,aL.o];exact D1 hp
    rw[mH hp]at F;have C:=fZ F;clear F;have c0:=C.o.c0;have c1:=C.o.c1;have c2:=C.o.c2;obtain⟨a2,hQ,hA⟩:=gA C.o.rr;rw[hA]at c2;clear hA;by_cases he:s.at_=t.size
    ·have hb:(((s.at_:Nat):Int)==((t.size:Nat):Int))=true:=by rw[he];exact beq_self_eq_true _
     by_cases hm:s.aX.length<=8
     ·have HB:QQ (sS t (true,s)=true):=by unfold QQ sS;simp[he,hm]
      have hG:((s.aX.length:Nat):Int)<=8:=by omega
      clear he hm;go_wp2_with fail;go_quiet (fail);go_wp2;go_ret;rw[HE.o,HB.o];exact⟨rfl,_,_,_,(C.o.drewN _).raise,U.o.trans (Fr.of_grown (jZ (World.grownBy.refl _ _) _))⟩
     ·have HB:QQ (sS t (true,s)=false):=by unfold QQ sS;simp;intro _;omega
      have hG:decide (((s.aX.length:Nat):Int)<=8)=false:=by rw[aF];omega
      clear he hm;go_wp2_with fail;go_quiet (fail);go_wp2;go_ret;rw[HE.o,HB.o];exact⟨rfl,_,_,_,(C.o.drewN _).raise,U.o.trans (Fr.of_grown (jZ (World.grownBy.refl _ _) _))⟩
    ·have hb:(((s.at_:Nat):Int)==((t.size:Nat):Int))=false:=aC.2 (by omega);have HB:QQ (sS t (true,s)=false):=by unfold QQ sS;simp[he]
     clear he;go_wp2_with fail;go_quiet (fail);go_wp2;go_ret;rw[HE.o,HB.o];exact⟨rfl,_,_,_,(C.o.drewN _).raise,U.o.trans (Fr.of_grown (jZ (World.grownBy.refl _ _) _))⟩
   | true=>
    have eR:=iW (by omega) hp;rw[kQ hp]at F;have Y:mY t st=lT t g' (nI t (iO s)).1 (nI t (iO s)).2:=by rw[HL.o,aL.o];exact D2 hp
    have aW:=Nb t (iO s) rb aH Q I J w3 ht (uU eR) bK.o.adv (by show s.aX.length<=100000;omega) F;have D:=R5 (t:=t) (uU eR);have HS:=fZ Y;clear Y;generalize nI t (iO s)=M at*;obtain⟨hI,Z⟩:=M;simp only at aW HS D;have hR:s.at_+1<=Z.at_:=by have:=D.1.1;rw[iG]at this;exact this
    have cF:Z.at_<=t.size:=D.1.2.1;have gL:Z.aX.length<=Z.at_:=by have:=D.2;rw[iG]at this;have e:(iO s).aX=s.aX:=rfl;rw[e]at this;omega
    have hE:=fZ (bK.o.adv.gr D.1);clear D;go_wp2_with fail;refine aW.mono ?_;rintro e w4 ⟨rfl,hP,hK,hM,eT,cP⟩;have hB:=fZ (U.o.trans cP);have hC:=fZ eT;clear cP aW F U eT;go_wp2_with fail;go_roundg g'
    case measure=>have:=aL.o;omega
    case rel=>
     refine⟨hI,Z,hP,hK,hM,rfl,cF,gL,hE.o,λ _=>?_,HS.o,hC.o,hB.o⟩;have a1:=hD.o;have a2:=aL.o;omega
structure jV(w:tW)(b:Nat)(x y z:tV):Prop where
 c0:w.cell? ⟨b,0,none⟩=some x
 c1:w.cell? ⟨b,1,none⟩=some y
 c2:w.cell? ⟨b,2,none⟩=some z
 z:∀i,w.frozen? ⟨b,i,none⟩=false
theorem jV.block{w w':tW}{x y z:tV}(h:jV w b x y z)(o:w'.heap[b]?=w.heap[b]?):jV w' b x y z:=
 ⟨(LK (w:=w) (a:=⟨b,0,none⟩) o).trans h.c0,(LK (w:=w) (a:=⟨b,1,none⟩) o).trans h.c1,(LK (w:=w) (a:=⟨b,2,none⟩) o).trans h.c2,λ i=>(NI (w:=w) (a:=⟨b,i,none⟩) o).trans (h.z i)⟩
theorem jV.new(w:tW)(b:Nat)(ty:TypeId)(x y z:tV)(o:b=w.heap.size):jV (w.alloc (.cells #[x,y,z] ty)) b x y z:=
 ⟨(LM _ _ b 0 o).trans rfl,(LM _ _ b 1 o).trans rfl,(LM _ _ b 2 o).trans rfl,λ i=>NH _ _ b i o⟩
theorem jV.alloc{w:tW}{x y z:tV}(h:jV w b x y z)(C:b<w.heap.size)(o:Obj):jV (w.alloc o) b x y z:=
 ⟨(MI o b 0 C).trans h.c0,(MI o b 1 C).trans h.c1,(MI o b 2 C).trans h.c2,λ i=>(OG o b i C).trans (h.z i)⟩
theorem jV.range{w:tW}{x y z:tV}(h:jV w b x y z):w.rangeAt b 0 [x,y,z]:=by
 intro j v o
 match j,o with
 | 0,o=>cases o;exact h.c0
 | 1,o=>cases o;exact h.c1
 | 2,o=>cases o;exact h.c2
theorem jV.there{w:tW}{x y z:tV}(h:jV w b x y z):w.there b 0 3:=by
 intro j o;rw[MJ];refine⟨?_,h.z j⟩
 match j,o with
 | 0,_=>rw[h.c0];rfl
 | 1,_=>rw[h.c1];rfl
 | 2,_=>rw[h.c2];rfl
theorem jV.stored{w:tW}{x y z:tV}(h:jV w b x y z)(o C D:tV):jV (((w.setCell ⟨b,0,none⟩ o).setCell ⟨b,1,none⟩ C).setCell ⟨b,2,none⟩ D) b o C D:=by
 have F:(w.setCells b 0 [o,C,D]).rangeAt b 0 [o,C,D]:=LF w b 0 [o,C,D] h.there;exact⟨F 0 _ rfl,F 1 _ rfl,F 2 _ rfl,λ i=>by rw[LY,LY,LY];exact h.z i⟩
theorem xB{a w:tW}(h:Below B a w)(o:B<=b)(x y z:tV):Below B a (((w.setCell ⟨b,0,none⟩ x).setCell ⟨b,1,none⟩ y).setCell ⟨b,2,none⟩ z):=
 ((h.setCell (p:=⟨b,0,none⟩) o x).setCell (p:=⟨b,1,none⟩) o y).setCell (p:=⟨b,2,none⟩) o z
theorem X6{w:tW}{aH:Nat}{e:TypeId}{size:Nat}{v:tV}{m:Nat}{xs:List tV}(C:w.ownsRow aH e size v m xs)(o:b<aH)(x y z:tV):
  (((w.setCell ⟨b,0,none⟩ x).setCell ⟨b,1,none⟩ y).setCell ⟨b,2,none⟩ z).ownsRow aH e size v m xs:=
 QO (QO (QO C o _) o _) o _
structure IY(w:tW)(aH:Nat)(st:gS)(vr vn vp:tV):Prop where
 rr:w.ownsRow aH 119 6 vr st.aX.length (D0 st.aX)
 rn:w.ownsRow aH 162 3 vn st.aV.length (xC st.aV)
 rp:w.ownsRow aH 158 256 vp st.aW.length (Z0 st.aW)
 lr:∀k,vr.ownBlock=some k->k<w.heap.size
 ln:∀k,vn.ownBlock=some k->k<w.heap.size
 lp:∀k,vp.ownBlock=some k->k<w.heap.size
theorem bX:(Tryz.prog.info? 44).map (·.size)=some 3:=by kernel_rfl
theorem BH(t:tB)(w:tW)(x y z:tV)(o C:TypeId):Rd ((w.alloc (.cells #[x,y,z] o)).alloc (.cells #[.string t,.int .i64 0,.slice none 0 0,.slice none 0 0,.slice none 0 0] C)) (w.heap.size+1) (w.heap.size+2) ((w.alloc (.cells #[x,y,z] o)).alloc (.cells #[.string t,.int .i64 0,.slice none 0 0,.slice none 0 0,.slice none 0 0] C)).heap.size t jX (.slice none 0 0) (.slice none 0 0) (.slice none 0 0):=by
 have D:w.heap.size+1=(w.alloc (.cells #[x,y,z] o)).heap.size:=by simp
 have F:qY (.slice none 0 0) (.slice none 0 0):=λ k h _=>by simp[LO]at h
 have no:∀k,(LI none 0 0).ownBlock=some k->k<((w.alloc (.cells #[x,y,z] o)).alloc (.cells #[.string t,.int .i64 0,.slice none 0 0,.slice none 0 0,.slice none 0 0] C)).heap.size:=λ k h=>by simp[LO]at h
 refine⟨(LM _ _ _ 0 D).trans rfl,(LM _ _ _ 1 D).trans rfl,(LM _ _ _ 2 D).trans rfl,(LM _ _ _ 3 D).trans rfl,(LM _ _ _ 4 D).trans rfl,λ i=>NH _ _ _ i D,⟨rfl,.inl ⟨rfl,rfl⟩⟩,⟨rfl,.inl ⟨rfl,rfl⟩⟩,⟨rfl,.inl ⟨rfl,rfl⟩⟩,by omega,?_,lR,no,no,no,F,F,F⟩;simp
theorem Ro(t:tB)(w:tW):
  QY LG 16 #[.string t] w λ e w'=>Bl w w'/\∃vr vn vp,e=.returned (.tuple #[.agg #[vr,vn,vp],.int .i64 (kB t)])/\
   (kB t=0->IY w' (w.heap.size+2) (iB t) vr vn vp)/\(kB t≠0->vr=.slice none 0 0/\vn=.slice none 0 0/\vp=.slice none 0 0):=by
 by_cases h1:t.size<=120
 ·have V:=fZ (BH t w (.slice none 0 0) (.slice none 0 0) (.slice none 0 0) 44 102);have I:=fZ ((jV.new w w.heap.size 44 (.slice none 0 0) (.slice none 0 0) (.slice none 0 0) rfl).alloc (by simp) (.cells #[.string t,.int .i64 0,.slice none 0 0,.slice none 0 0,.slice none 0 0] 102));have D:=fZ (((MO w.heap.size w).alloc lR (.cells #[.slice none 0 0,.slice none 0 0,.slice none 0 0] 44)).alloc (by simp) (.cells #[.string t,.int .i64 0,.slice none 0 0,.slice none 0 0,.slice none 0 0] 102));have Y:((w.alloc (.cells #[.slice none 0 0,.slice none 0 0,.slice none 0 0] 44)).alloc (.cells #[.string t,.int .i64 0,.slice none 0 0,.slice none 0 0,.slice none 0 0] 102)).heap.size=w.heap.size+2:=by simp
  have Z:QQ (kB t=if sS t (mY t jX)=false then 2 else if 10<(mY t jX).2.aW.length then 3 else 0):=by
   unfold QQ kB;rw[aA (by omega)]
  go_enter func16,ntmps16;go_wp2_with fail;generalize (w.alloc (.cells #[.slice none 0 0,.slice none 0 0,.slice none 0 0] 44)).alloc (.cells #[.string t,.int .i64 0,.slice none 0 0,.slice none 0 0,.slice none 0 0] 102)=W0 at*;refine(Xw t jX (w.heap.size+1) (w.heap.size+2) _ _ _ W0 h1 zL ⟨zL,zL⟩ zL V.o).mono ?_;rintro e w1 ⟨rfl,vr,vn,vp,hr,U⟩;have X:¬FE (w.heap.size+1) (.slice none 0 0) (.slice none 0 0) (.slice none 0 0) w.heap.size:=by
   rintro(e|e|e|e)
   ·omega
   ·simp[LO]at e
   ·simp[LO]at e
   ·simp[LO]at e
  have C:=fZ (I.o.block (U.block w.heap.size (by omega) X));have J:QQ (Bl w w1):=by
   refine⟨U.os.trans D.o.os,U.tape.trans D.o.tape,U.output.trans D.o.output,LU D.o.size U.size,λ k hk=>(U.block k (by omega) ?_).trans (D.o.block k hk)⟩;rintro(e|e|e|e)
   ·omega
   ·simp[LO]at e
   ·simp[LO]at e
   ·simp[LO]at e
  have HP:QQ (iB t=(mY t jX).2):=rfl;clear V I D Y U X;generalize sS t (mY t jX)=ok at*;generalize mY t jX=M at*;obtain⟨aL,s⟩:=M;simp only at Z hr HP;have c0:=C.o.c0;have c1:=C.o.c1;have c2:=C.o.c2;have z0:=C.o.z 0;have z1:=C.o.z 1;have z2:=C.o.z 2
  cases ok with
  | false=>
   have Q:QQ (kB t=2):=Z.o;go_wp2;refine jH NS w.heap.size 0 [.slice none 0 0,.slice none 0 0,.slice none 0 0] _ (.int .i64 2) rfl rfl (C.o.stored _ _ _).range NF rfl bX rfl ?_;rw[Q.o];exact⟨xB J.o lR _ _ _,_,_,_,rfl,λ h=>by simp at h,λ _=>⟨rfl,rfl,rfl⟩⟩
  | true=>
   have F:=fZ hr;clear hr;have d2:=F.o.c2;have d3:=F.o.c3;have d4:=F.o.c4;obtain⟨ar,cr,er⟩:=gA F.o.rr;obtain⟨an,cn,en⟩:=gA F.o.rn;obtain⟨ap,cp,ep⟩:=gA F.o.rp;subst er en ep;by_cases hp:10<s.aW.length
   ·have Q:QQ (kB t=3):=Z.o.trans (aB hp);go_wp2;refine jH NS w.heap.size 0 [.slice none 0 0,.slice none 0 0,.slice none 0 0] _ (.int .i64 3) rfl rfl (C.o.stored _ _ _).range NF rfl bX rfl ?_;rw[Q.o];exact⟨xB J.o lR _ _ _,_,_,_,rfl,λ h=>by simp at h,λ _=>⟨rfl,rfl,rfl⟩⟩
   ·have Q:QQ (kB t=0):=Z.o.trans (aA hp);go_wp2;refine jH NS w.heap.size 0 [.slice ar s.aX.length cr,.slice an s.aV.length cn,.slice ap s.aW.length cp] _ (.int .i64 0) rfl rfl (C.o.stored _ _ _).range NF rfl bX rfl ?_;rw[Q.o];refine⟨xB J.o lR _ _ _,_,_,_,rfl,λ _=>?_,λ h=>absurd rfl h⟩;rw[HP.o];refine⟨X6 F.o.rr (by omega) _ _ _,X6 F.o.rn (by omega) _ _ _,X6 F.o.rp (by omega) _ _ _,?_,?_,?_⟩
    ·rw[MB,MB,MB];exact F.o.lr
    ·rw[MB,MB,MB];exact F.o.ln
    ·rw[MB,MB,MB];exact F.o.lp
 ·have Q:QQ (kB t=1):=by unfold QQ kB;rw[aB (by omega)]
  have I:=fZ (jV.new w w.heap.size 44 (.slice none 0 0) (.slice none 0 0) (.slice none 0 0) rfl);have D:=fZ ((MO w.heap.size w).alloc lR (.cells #[.slice none 0 0,.slice none 0 0,.slice none 0 0] 44));go_enter func16,ntmps16;go_wp2;refine jH NS w.heap.size 0 [.slice none 0 0,.slice none 0 0,.slice none 0 0] _ (.int .i64 1) rfl rfl I.o.range NF rfl bX rfl ?_;rw[Q.o];exact⟨D.o,_,_,_,rfl,λ h=>by simp at h,λ _=>⟨rfl,rfl,rfl⟩⟩
theorem CX(k:Nat)(o:k<=10):wrap64 (2 ^ k)=((2 ^ k:Nat):Int):=by
 have:∀j:Fin 11,wrap64 (2 ^ j.val)=((2 ^ j.val:Nat):Int):=by decide+kernel
 exact this ⟨k,by omega⟩
theorem xN(k:Nat)(o:k<=10)(w:tW):
  QY LG 67 #[.int .i64 (k:Int)] w λ e w'=>w'=w/\e=.returned (.int .i64 (sO k)):=by
 go_enter func67,ntmps67;go_wp2;go_ret;exact⟨rfl,by rw[CX k o];rfl⟩
theorem bQ:(Tryz.prog.info? 164).map (·.size)=some 3:=by kernel_rfl
theorem jV.new3(w:tW)(C D o:Obj)(ty:TypeId)(x y z:tV):jV ((((w.alloc C).alloc D).alloc (.cells #[x,y,z] ty)).alloc o) (w.heap.size+1+1) x y z:=
 (jV.new _ _ ty x y z (by simp)).alloc (by simp) o
theorem tH(w:tW)(o C D F:Obj):Bl w ((((w.alloc o).alloc C).alloc D).alloc F):=
 (((bR.alloc lR o).alloc (by simp) C).alloc (by simp;omega) D).alloc (by simp;omega) F
theorem Mp(a b c d:Int)(x y:Bool)(w:tW):
  QY LG 99 #[sD (a,b,x),sD (c,d,y)] w λ e w'=>Bl w w'/\e=.returned (sD (zA (a,b,x) (c,d,y))):=by
 unfold sD
 cases x<;>cases y
 ·go_enter func99,ON;go_wp2_with fail;exact lE NT (w.heap.size+1+1) 0 _ _ rfl (jV.new3 _ _ _ _ _ _ _ _).range MF rfl bQ rfl ⟨tH _ _ _ _ _,rfl⟩
 ·go_enter func99,ON;go_wp2_with fail;exact lE NT (w.heap.size+1+1) 0 _ _ rfl (jV.new3 _ _ _ _ _ _ _ _).range MF rfl bQ rfl ⟨tH _ _ _ _ _,rfl⟩
 ·go_enter func99,ON;go_wp2_with fail;exact lE NT (w.heap.size+1+1) 0 _ _ rfl (jV.new3 _ _ _ _ _ _ _ _).range MF rfl bQ rfl ⟨tH _ _ _ _ _,rfl⟩
 ·go_enter func99,ON;go_wp2_with fail;exact lE NT (w.heap.size+1+1) 0 _ _ rfl (jV.new3 _ _ _ _ _ _ _ _).range MF rfl bQ rfl ⟨tH _ _ _ _ _,rfl⟩
theorem Xc(l:List Int)(v:tV)(x:Int)(w:tW)(hl:l.length<=1000000)(V:Bk w v l):
  QY LG 35 #[v,.int .i64 x] w λ e w'=>w'=w/\e=.returned (.int .i64 (jT l x:Int)):=by
 rcases V.sh with⟨rfl,rfl⟩|⟨g,aJ,rfl,h1,h2,C⟩
 ·go_enter func35,ntmps35;go_wp2_with fail
  go_loop [9] (λ i=>i=.int .i64 0) (λ _=>0)
  case atStart=>rfl
  case round=>
   subst hrel;go_wp2;go_ret;exact⟨rfl,rfl⟩
 ·have X:=fZ C;clear C V;go_enter func35,ntmps35;go_wp2_with fail
  go_loop [9] (λ i=>∃k:Nat,k<=l.length/\i=.int .i64 (k:Int)/\k+jT (l.drop k) x=jT l x) (λ i=>l.length-(QP i).toNat)
  case atStart=>exact⟨0,zL,rfl,by simp⟩
  case round=>
   obtain⟨k,hk,rfl,D⟩:=hrel;have J:=fZ D;clear D;by_cases U:k<l.length
   ·obtain⟨a,I⟩:∃u,l[k]?=some u:=⟨_,LN U⟩
    have k0:=X.o k _ I;by_cases F:a=x
    ·have Q:QQ (jT l x=k):=by unfold QQ;rw[<-J.o,o9 (by rw[I,F])];rfl
     have Z:(a==x)=true:=beq_iff_eq.2 F;clear I F;go_wp2;go_ret;exact⟨rfl,by rw[Q.o];rfl⟩
    ·have Y:QQ (k+1+jT (l.drop (k+1)) x=jT l x):=by unfold QQ;rw[<-J.o,p8 I F];omega
     have Z:(a==x)=false:=aC.2 F;clear I F;go_wp2;go_round
     case rel=>exact⟨k+1,by omega,by simp,Y.o⟩
     case measure=>simp[QP];omega
   ·have e:k=l.length:=by omega
    have Q:QQ (jT l x=l.length):=by unfold QQ;rw[<-J.o,e,OX];rfl
    clear J;subst e;go_wp2;go_ret;exact⟨rfl,by rw[Q.o];rfl⟩
structure kD(w:tW)(nb:Nat)(vf vl:tV)(aG:Nat->Int):Prop where
 c0:w.cell? ⟨nb,0,none⟩=some vf
 c1:w.cell? ⟨nb,1,none⟩=some vl
 nx:∀k,k<10->w.cell? ⟨nb,2+k,none⟩=some (.int .i64 (aG k))
 fz:∀i,w.frozen? ⟨nb,i,none⟩=false
theorem Mm(aG:Nat->Int)(pl:Int)(nb:Nat)(vf vl:tV)(w:tW)(h:kD w nb vf vl aG):
  QY LG 70 #[.pointer (some ⟨nb,0,none⟩),.int .i64 pl] w λ e w'=>w'=w/\e=.returned (.int .i64 (Bt aG pl)):=by
 have Q:=fZ h.nx;clear h;go_enter func70,ntmps70;go_wp2_with fail
 go_loop [5,7] (λ x i=>∃k:Nat,k<=10/\i=.int .i64 (k:Int)/\x=.int .i64 (I8 aG pl k)) (λ _ i=>10-(QP i).toNat)
 case atStart=>exact⟨0,zL,rfl,rfl⟩
 case round=>
  obtain⟨k,X,rfl,rfl⟩:=hrel;by_cases I:k<10
  ·have D:QQ (I8 aG pl (k+1)=if nQ pl (sO k)=0 then I8 aG pl k else Ad (I8 aG pl k) (aG k)):=rfl;have V:=Q.o k I;have U:(k:Int)<10:=by omega
   generalize I8 aG pl k=aS at*;go_wp2_with fail;refine(xN k (by omega) _).mono ?_;rintro e w1 ⟨rfl,rfl⟩;by_cases C:nQ pl (sO k)=0
   ·have F:QQ (I8 aG pl (k+1)=aS):=D.o.trans (aB C);have J:(bits .and .i64 pl (sO k) !=0)=false:=by rw[show bits .and .i64 pl (sO k)=0 from C];rfl
    clear C D;go_wp2;go_round
    case rel=>exact⟨k+1,by omega,by simp,by rw[F.o]⟩
    case measure=>simp[QP];omega
   ·have F:QQ (I8 aG pl (k+1)=Ad aS (aG k)):=D.o.trans (aA C);have J:(bits .and .i64 pl (sO k) !=0)=true:=aD.2 C;clear C D;go_wp2;go_round
    case rel=>exact⟨k+1,by omega,by simp,by rw[F.o];rfl⟩
    case measure=>simp[QP];omega
  ·have e:k=10:=by omega
   subst e;go_wp2;go_ret;exact⟨rfl,rfl⟩
theorem kD.set{w:tW}{vf vl:tV}{aG next':Nat->Int}(h:kD w nb vf vl aG)(k:Nat)(o:k<10)(v:Int)(hn:∀i,next' i=if i=k then v else aG i):kD (w.setCell ⟨nb,2+k,none⟩ (.int .i64 v)) nb vf vl next':=by
 refine⟨?_,?_,λ i hi=>?_,λ i=>by rw[LY];exact h.fz i⟩
 ·rw[LQ (h:=by intro e;injection e;omega)];exact h.c0
 ·rw[LQ (h:=by intro e;injection e;omega)];exact h.c1
 ·rw[hn i];by_cases e:i=k
  ·subst e;rw[aB rfl,NY _ _ _ (by rw[h.nx i hi];rfl)]
  ·rw[aA e,LQ (h:=by intro e;injection e;omega)];exact h.nx i hi
theorem kD.drew{w:tW}{vf vl:tV}{aG:Nat->Int}(h:kD w nb vf vl aG):kD w.drew nb vf vl aG:=⟨h.c0,h.c1,h.nx,h.fz⟩
theorem Lj{a w:tW}(h:a.grownBy w r):a.grownBy w.drew r:=⟨h.os,h.tape,h.output,h.size,h.block⟩
theorem V7(aG:Nat->Int)(fr dst:Int)(nb:Nat)(vf vl:tV)(w:tW)(h:kD w nb vf vl aG):
  QY LG 98 #[.pointer (some ⟨nb,0,none⟩),.int .i64 fr,.int .i64 dst] w λ e w'=>w.grownBy w' (some nb)/\kD w' nb vf vl (rR aG fr dst)/\e=.returned (.tuple #[]):=by
 have U:=fZ h;clear h;go_enter func98,ntmps98;go_wp2_with fail
 go_loopw [7] (λ i wr=>∃k:Nat,k<=10/\i=.int .i64 (k:Int)/\w.grownBy wr (some nb)/\kD wr nb vf vl (xL aG fr dst k)) (λ i _=>10-(QP i).toNat)
 case atStart=>exact⟨0,zL,rfl,World.grownBy.refl _ _,by
  have e:xL aG fr dst 0=aG:=by(funext i;unfold xL;simp)
  rw[e];exact U.o⟩
 case round=>
  obtain⟨k,Z,rfl,hg,V⟩:=hrel;have J:=fZ hg;have D:=fZ V;clear hg V U;by_cases F:k<10
  ·have X:=D.o.nx k F;rw[Ps]at X;have hz:=D.o.fz (2+k);have Y:(k:Int)<10:=by omega
   go_wp2_with fail;refine(xN k (by omega) _).mono ?_;rintro e w1 ⟨rfl,rfl⟩;by_cases C:nQ fr (sO k)=0
   ·have I:=fZ (v8 (aG:=aG) (dst:=dst) C);have Q:(bits .and .i64 fr (sO k) !=0)=false:=by rw[show bits .and .i64 fr (sO k)=0 from C];rfl
    clear C;go_wp2;go_roundw
    case rel=>exact⟨k+1,by omega,by simp,J.o,by rw[I.o];exact D.o⟩
    case measure=>simp[QP];omega
   ·have I:=fZ (Wi (aG:=aG) (dst:=dst) C);have Q:(bits .and .i64 fr (sO k) !=0)=true:=aD.2 C;clear C;go_wp2
    go_region
    all_goals
     go_wp2;go_roundw
     case rel=>exact⟨k+1,by omega,by simp,lP (Lj J.o) _ _,D.o.drew.set k F _ I.o⟩
     case measure=>simp[QP];omega
  ·have e:k=10:=by omega
   subst e;go_wp2
   go_end0
   exact⟨J.o,D.o,rfl⟩
theorem kD.below{w w':tW}{vf vl:tV}{aG:Nat->Int}(h:kD w nb vf vl aG)(o:Below B w w')(C:nb<B):kD w' nb vf vl aG:=
 ⟨(o.cell (p:=⟨nb,0,none⟩) C).trans h.c0,(o.cell (p:=⟨nb,1,none⟩) C).trans h.c1,λ k D=>(o.cell (p:=⟨nb,2+k,none⟩) C).trans (h.nx k D),λ i=>(o.frozen (p:=⟨nb,i,none⟩) C).trans (h.fz i)⟩
theorem Ge(w:tW)(a b c d e f g h i:tV)(t1 t2:TypeId)(x y z:tV):
  jV ((((w.alloc (.cells #[a,b,c] t1)).alloc (.cells #[d,e,f] t2)).alloc (.cells #[g,h,i] t2)).alloc (.cells #[x,y,z] t2)) (w.heap.size+1) d e f/\
  jV ((((w.alloc (.cells #[a,b,c] t1)).alloc (.cells #[d,e,f] t2)).alloc (.cells #[g,h,i] t2)).alloc (.cells #[x,y,z] t2)) (w.heap.size+1+1) g h i/\
  jV ((((w.alloc (.cells #[a,b,c] t1)).alloc (.cells #[d,e,f] t2)).alloc (.cells #[g,h,i] t2)).alloc (.cells #[x,y,z] t2)) (w.heap.size+1+1+1) x y z:=
 ⟨((jV.new _ _ _ _ _ _ (by simp)).alloc (by simp) _).alloc (by simp) _,(jV.new _ _ _ _ _ _ (by simp)).alloc (by simp) _,jV.new _ _ _ _ _ _ (by simp)⟩
def tE(w:tW)(nb:Nat)(vf vl:tV)(x:(Int×Int×Bool)×(Nat->Int))(e:Ending)(w':tW):Prop:=
 w.grownBy w' (some nb)/\kD w' nb vf vl x.2/\e=.returned (sD x.1)
theorem A9{a w:tW}(h:a.grownBy w r){b:Nat}(o:a.heap.size<=b)(x y z:tV):a.grownBy (((w.setCell ⟨b,0,none⟩ x).setCell ⟨b,1,none⟩ y).setCell ⟨b,2,none⟩ z) r:=
 pI (pI (pI h o 0 x) o 1 y) o 2 z
theorem kD.three{w:tW}{vf vl:tV}{aG:Nat->Int}(h:kD w nb vf vl aG)(o:nb<b)(x y z:tV):kD (((w.setCell ⟨b,0,none⟩ x).setCell ⟨b,1,none⟩ y).setCell ⟨b,2,none⟩ z) nb vf vl aG:=
 h.below (xB (MO b w) lR x y z) o
theorem jV.other1{w:tW}{x y z:tV}(h:jV w b x y z)(c i:Nat)(v:tV)(o:b≠c):jV (w.setCell ⟨c,i,none⟩ v) b x y z:=
 h.block (MQ w ⟨c,i,none⟩ v b o)
theorem FP(aG:Nat->Int)(p:Nat)(X:p<10)(z:Int)(l r:Int×Int×Bool)(nb:Nat)(vf vl:tV)(w:tW)(C:nb<w.heap.size)(h:kD w nb vf vl aG):
  QY LG 68 #[.pointer (some ⟨nb,0,none⟩),.agg #[.int .i64 0,.int .i64 (p:Int),.int .i64 z],sD l,sD r] w (tE w nb vf vl (oR 0 p l r aG)):=by
 obtain⟨F,I,J⟩:=l;obtain⟨Q,U,V⟩:=r;have D:=fZ h;clear h;show QY _ _ #[_,_,.agg #[.int .i64 F,.int .i64 I,.bool J],.agg #[.int .i64 Q,.int .i64 U,.bool V]] _ _;go_enter NN,NE;go_wp2_with fail;refine(xN p (by omega) _).mono ?_;rintro e w1 ⟨rfl,rfl⟩;go_wp2_with fail;exact lE MW (w.heap.size+1+1+1) 0 _ _ rfl (Ge _ _ _ _ _ _ _ _ _ _ _ _ _ _ _).2.2.range MF rfl bQ rfl
  ⟨iQ (tH _ _ _ _ _) lR _,D.o.below (tH _ _ _ _ _) C,rfl⟩
theorem FS(aG:Nat->Int)(y z:Int)(l r:Int×Int×Bool)(nb:Nat)(vf vl:tV)(w:tW)(C:nb<w.heap.size)(h:kD w nb vf vl aG):
  QY LG 68 #[.pointer (some ⟨nb,0,none⟩),.agg #[.int .i64 2,.int .i64 y,.int .i64 z],sD l,sD r] w (tE w nb vf vl (oR 2 y l r aG)):=by
 obtain⟨I,J,D⟩:=l;obtain⟨Q,U,V⟩:=r;have F:=fZ h;clear h;show QY _ _ #[_,_,.agg #[.int .i64 I,.int .i64 J,.bool D],.agg #[.int .i64 Q,.int .i64 U,.bool V]] _ _
 cases D
 all_goals
  go_enter NN,NE;go_wp2_with fail;exact lE MW (w.heap.size+1+1+1) 0 _ _ rfl (Ge _ _ _ _ _ _ _ _ _ _ _ _ _ _ _).2.2.range MF rfl bQ rfl
   ⟨iQ (tH _ _ _ _ _) lR _,F.o.below (tH _ _ _ _ _) C,rfl⟩
theorem FT(aG:Nat->Int)(y z:Int)(l r:Int×Int×Bool)(nb:Nat)(vf vl:tV)(w:tW)(C:nb<w.heap.size)(h:kD w nb vf vl aG):
  QY LG 68 #[.pointer (some ⟨nb,0,none⟩),.agg #[.int .i64 3,.int .i64 y,.int .i64 z],sD l,sD r] w (tE w nb vf vl (oR 3 y l r aG)):=by
 obtain⟨F,I,J⟩:=l;obtain⟨Q,U,V⟩:=r;have D:=fZ h;clear h;show QY _ _ #[_,_,.agg #[.int .i64 F,.int .i64 I,.bool J],.agg #[.int .i64 Q,.int .i64 U,.bool V]] _ _;go_enter NN,NE;go_wp2_with fail;exact lE MW (w.heap.size+1+1+1) 0 _ _ rfl (Ge _ _ _ _ _ _ _ _ _ _ _ _ _ _ _).2.2.range MF rfl bQ rfl
  ⟨iQ (tH _ _ _ _ _) lR _,D.o.below (tH _ _ _ _ _) C,rfl⟩
theorem FU(aG:Nat->Int)(y z:Int)(l r:Int×Int×Bool)(nb:Nat)(vf vl:tV)(w:tW)(Z:nb<w.heap.size)(h:kD w nb vf vl aG):
  QY LG 68 #[.pointer (some ⟨nb,0,none⟩),.agg #[.int .i64 4,.int .i64 y,.int .i64 z],sD l,sD r] w (tE w nb vf vl (oR 4 y l r aG)):=by
 obtain⟨D,F,I⟩:=l;obtain⟨J,Q,U⟩:=r;show QY _ _ #[_,_,.agg #[.int .i64 D,.int .i64 F,.bool I],.agg #[.int .i64 J,.int .i64 Q,.bool U]] _ _;have Y:=fZ (tH w (.cells #[.int .i64 4,.int .i64 y,.int .i64 z] 162) (.cells #[.int .i64 D,.int .i64 F,.bool I] 164) (.cells #[.int .i64 J,.int .i64 Q,.bool U] 164) (.cells #[.int .i64 0,.int .i64 0,.bool false] 164));have V:=fZ (Ge w (.int .i64 4) (.int .i64 y) (.int .i64 z) (.int .i64 D) (.int .i64 F) (.bool I) (.int .i64 J) (.int .i64 Q) (.bool U) 162 164 (.int .i64 0) (.int .i64 0) (.bool false));have aL:((((w.alloc (.cells #[.int .i64 4,.int .i64 y,.int .i64 z] 162)).alloc (.cells #[.int .i64 D,.int .i64 F,.bool I] 164)).alloc (.cells #[.int .i64 J,.int .i64 Q,.bool U] 164)).alloc (.cells #[.int .i64 0,.int .i64 0,.bool false] 164)).heap.size=w.heap.size+4:=by simp
 go_enter NN,NE;go_wp2_with fail;generalize (((w.alloc (.cells #[.int .i64 4,.int .i64 y,.int .i64 z] 162)).alloc (.cells #[.int .i64 D,.int .i64 F,.bool I] 164)).alloc (.cells #[.int .i64 J,.int .i64 Q,.bool U] 164)).alloc (.cells #[.int .i64 0,.int .i64 0,.bool false] 164)=W at*;refine(V7 aG F D nb vf vl W (h.below Y.o Z)).mono ?_;rintro e w1 ⟨hg,hn,rfl⟩;have X:=fZ (V.o.1.block (hg.block _ (by omega) (by intro e;injection e;omega)));have H2:=fZ (V.o.2.1.block (hg.block _ (by omega) (by intro e;injection e;omega)));have C:=fZ (V.o.2.2.block (hg.block _ (by omega) (by intro e;injection e;omega)));have HG:=fZ (gD (iQ Y.o lR (some nb)) hg);have HN:=fZ hn;have aO:w.heap.size+4<=w1.heap.size:=by have:=hg.size;omega
 clear hg hn h Y V aL;have a0:=X.o.c0;have a1:=X.o.c1;have a2:=X.o.c2;have b0:=C.o.c0;have b1:=C.o.c1;have b2:=C.o.c2;have z0:=C.o.z 0;have z1:=C.o.z 1;have z2:=C.o.z 2;go_wp2_with fail;exact lE MW (w.heap.size+1+1+1) 0 _ _ rfl (C.o.stored _ _ _).range MF rfl bQ rfl
  ⟨A9 HG.o (by omega) _ _ _,HN.o.three (by omega) _ _ _,rfl⟩
theorem FV(aG:Nat->Int)(y z:Int)(l r:Int×Int×Bool)(nb:Nat)(vf vl:tV)(w:tW)(aO:nb<w.heap.size)(h:kD w nb vf vl aG):
  QY LG 68 #[.pointer (some ⟨nb,0,none⟩),.agg #[.int .i64 5,.int .i64 y,.int .i64 z],sD l,sD r] w (tE w nb vf vl (oR 5 y l r aG)):=by
 obtain⟨D,F,I⟩:=l;obtain⟨J,Q,U⟩:=r;show QY _ _ #[_,_,.agg #[.int .i64 D,.int .i64 F,.bool I],.agg #[.int .i64 J,.int .i64 Q,.bool U]] _ _;have Y:=fZ (tH w (.cells #[.int .i64 5,.int .i64 y,.int .i64 z] 162) (.cells #[.int .i64 D,.int .i64 F,.bool I] 164) (.cells #[.int .i64 J,.int .i64 Q,.bool U] 164) (.cells #[.int .i64 0,.int .i64 0,.bool false] 164));have X:=fZ (Ge w (.int .i64 5) (.int .i64 y) (.int .i64 z) (.int .i64 D) (.int .i64 F) (.bool I) (.int .i64 J) (.int .i64 Q) (.bool U) 162 164 (.int .i64 0) (.int .i64 0) (.bool false));have aR:((((w.alloc (.cells #[.int .i64 5,.int .i64 y,.int .i64 z] 162)).alloc (.cells #[.int .i64 D,.int .i64 F,.bool I] 164)).alloc (.cells #[.int .i64 J,.int .i64 Q,.bool U] 164)).alloc (.cells #[.int .i64 0,.int .i64 0,.bool false] 164)).heap.size=w.heap.size+4:=by simp
 go_enter NN,NE;go_wp2_with fail;generalize (((w.alloc (.cells #[.int .i64 5,.int .i64 y,.int .i64 z] 162)).alloc (.cells #[.int .i64 D,.int .i64 F,.bool I] 164)).alloc (.cells #[.int .i64 J,.int .i64 Q,.bool U] 164)).alloc (.cells #[.int .i64 0,.int .i64 0,.bool false] 164)=W at*;refine(V7 aG F D nb vf vl W (h.below Y.o aO)).mono ?_;rintro e w1 ⟨hg,hn,rfl⟩;have V:=fZ (X.o.1.block (hg.block _ (by omega) (by intro e;injection e;omega)));have H2:=fZ (X.o.2.1.block (hg.block _ (by omega) (by intro e;injection e;omega)));have C:=fZ (X.o.2.2.block (hg.block _ (by omega) (by intro e;injection e;omega)));have HG:=fZ (gD (iQ Y.o lR (some nb)) hg);have HN:=fZ hn;have aT:w.heap.size+4<=w1.heap.size:=by have:=hg.size;omega
 clear hg hn h Y X aR;have a0:=V.o.c0;have a1:=V.o.c1;have a2:=V.o.c2;have b0:=C.o.c0;have b1:=C.o.c1;have b2:=C.o.c2;have z0:=C.o.z 0;have z1:=C.o.z 1;have z2:=C.o.z 2;have y2:=V.o.z 2;have H4:=fZ (C.o.other1 (w.heap.size+1) 2 (.bool true) (by omega));have Z:=fZ (pI HG.o (b:=w.heap.size+1) (by omega) 2 (.bool true));have aL:=fZ (HN.o.below ((MO (w.heap.size+1) w1).setCell (p:=⟨w.heap.size+1,2,none⟩) lR (.bool true)) (by omega));go_wp2_with fail;exact lE MW (w.heap.size+1+1+1) 0 _ _ rfl (H4.o.stored _ _ _).range MF rfl bQ rfl
  ⟨A9 Z.o (by omega) _ _ _,aL.o.three (by omega) _ _ _,rfl⟩
theorem FQ(aG:Nat->Int)(y z:Int)(l r:Int×Int×Bool)(nb:Nat)(vf vl:tV)(w:tW)(aR:nb<w.heap.size)(h:kD w nb vf vl aG):
  QY LG 68 #[.pointer (some ⟨nb,0,none⟩),.agg #[.int .i64 1,.int .i64 y,.int .i64 z],sD l,sD r] w (tE w nb vf vl (oR 1 y l r aG)):=by
 obtain⟨I,C,Q⟩:=l;obtain⟨D,U,V⟩:=r;show QY _ _ #[_,_,.agg #[.int .i64 I,.int .i64 C,.bool Q],.agg #[.int .i64 D,.int .i64 U,.bool V]] _ _;have HB:=fZ (tH w (.cells #[.int .i64 1,.int .i64 y,.int .i64 z] 162) (.cells #[.int .i64 I,.int .i64 C,.bool Q] 164) (.cells #[.int .i64 D,.int .i64 U,.bool V] 164) (.cells #[.int .i64 0,.int .i64 0,.bool false] 164));have HF:=fZ (Ge w (.int .i64 1) (.int .i64 y) (.int .i64 z) (.int .i64 I) (.int .i64 C) (.bool Q) (.int .i64 D) (.int .i64 U) (.bool V) 162 164 (.int .i64 0) (.int .i64 0) (.bool false));have aT:((((w.alloc (.cells #[.int .i64 1,.int .i64 y,.int .i64 z] 162)).alloc (.cells #[.int .i64 I,.int .i64 C,.bool Q] 164)).alloc (.cells #[.int .i64 D,.int .i64 U,.bool V] 164)).alloc (.cells #[.int .i64 0,.int .i64 0,.bool false] 164)).heap.size=w.heap.size+4:=by simp
 go_enter NN,NE;go_wp2_with fail;generalize (((w.alloc (.cells #[.int .i64 1,.int .i64 y,.int .i64 z] 162)).alloc (.cells #[.int .i64 I,.int .i64 C,.bool Q] 164)).alloc (.cells #[.int .i64 D,.int .i64 U,.bool V] 164)).alloc (.cells #[.int .i64 0,.int .i64 0,.bool false] 164)=W at*;refine(V7 aG C D nb vf vl W (h.below HB.o aR)).mono ?_;rintro e w1 ⟨hg,hn,rfl⟩;have Y:=fZ (HF.o.1.block (hg.block _ (by omega) (by intro e;injection e;omega)));have Z:=fZ (HF.o.2.1.block (hg.block _ (by omega) (by intro e;injection e;omega)));have H3:=fZ (HF.o.2.2.block (hg.block _ (by omega) (by intro e;injection e;omega)));have HG:=fZ (gD (iQ HB.o lR (some nb)) hg);have HN:=fZ hn;have aW:w.heap.size+4<=w1.heap.size:=by have:=hg.size;omega
 clear hg hn h HB HF aT;have a0:=Y.o.c0;have a1:=Y.o.c1;have a2:=Y.o.c2;have e0:=Z.o.c0;have e1:=Z.o.c1;have e2:=Z.o.c2;go_wp2_with fail;refine(Mp I C D U Q V _).mono ?_;rintro e w2 ⟨F,rfl⟩;have X:=fZ (H3.o.block (F.block _ (by omega)));have aL:=fZ (gD HG.o (iQ F lR (some nb)));have aO:=fZ (HN.o.below F (by omega));clear F a0 a1 a2 e0 e1 e2 Y Z H3;have b0:=X.o.c0;have b1:=X.o.c1;have b2:=X.o.c2;have z0:=X.o.z 0;have z1:=X.o.z 1;have z2:=X.o.z 2;have HE:QQ ((oR 1 y (I,C,Q) (D,U,V) aG)=(zA (I,C,Q) (D,U,V),rR aG C D)):=rfl;generalize zA (I,C,Q) (D,U,V)=J at*;obtain⟨j1,j2,j3⟩:=J;unfold sD;go_wp2_with fail;refine lE MW (w.heap.size+1+1+1) 0 _ _ rfl (X.o.stored _ _ _).range MF rfl bQ rfl ?_;rw[HE.o];exact⟨A9 aL.o (by omega) _ _ _,aO.o.three (by omega) _ _ _,rfl⟩
theorem Rb(l:List Int)(v:tV)(pl:Int)(nb:Nat)(vf:tV)(aG:Nat->Int)(w:tW)(hl:l.length<=1000000)(h:kD w nb vf v aG)(X:Bk w v l):
  QY LG 100 #[.pointer (some ⟨nb,0,none⟩),.int .i64 pl] w λ e w'=>w'=w/\e=.returned (.int .i64 (yT l pl:Int)):=by
 have c1:=h.c1;clear h;rcases X.sh with⟨rfl,rfl⟩|⟨g,aJ,rfl,h1,h2,C⟩
 ·go_enter func100,ntmps100;go_wp2_with fail
  go_loop [12] (λ i=>i=.int .i64 0) (λ _=>0)
  case atStart=>rfl
  case round=>
   subst hrel;go_wp2;go_ret;exact⟨rfl,rfl⟩
 ·have Y:=fZ C;clear C X;go_enter func100,ntmps100;go_wp2_with fail
  go_loop [12] (λ i=>∃k:Nat,k<=l.length/\i=.int .i64 (k:Int)/\L8 (l.drop k) pl k=yT l pl) (λ i=>l.length-(QP i).toNat)
  case atStart=>exact⟨0,zL,rfl,by simp[yT]⟩
  case round=>
   obtain⟨k,hk,rfl,D⟩:=hrel;have I:=fZ D;clear D;by_cases U:k<l.length
   ·obtain⟨a,J⟩:∃u,l[k]?=some u:=⟨_,LN U⟩
    have k0:=Y.o k _ J;have V:=fZ (Yx J pl k);by_cases F:nQ pl a=0
    ·have Z:QQ (L8 (l.drop (k+1)) pl (k+1)=yT l pl):=by unfold QQ;rw[<-I.o,V.o,aB F]
     have hb:(bits .and .i64 pl a !=0)=false:=by rw[show bits .and .i64 pl a=0 from F];rfl
     clear J F;go_wp2;go_round
     case rel=>exact⟨k+1,by omega,by simp,Z.o⟩
     case measure=>simp[QP];omega
    ·have Q:QQ (yT l pl=k+1):=by unfold QQ;rw[<-I.o,V.o,aA F]
     have hb:(bits .and .i64 pl a !=0)=true:=aD.2 F;clear J F;go_wp2;go_ret;exact⟨rfl,by rw[Q.o];rfl⟩
   ·have e:k=l.length:=by omega
    have Q:QQ (yT l pl=0):=by unfold QQ;rw[<-I.o,e,OX];rfl
    clear I;subst e;go_wp2;go_ret;exact⟨rfl,by rw[Q.o];rfl⟩
