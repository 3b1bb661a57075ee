import Derived.Test.YtgjgjgihceijnaaGreatK04
import Derived.Deep.CutRange
open Go.RowKit renaming intOf->QO,Hid->QP
open Go renaming wpList_load_mid->QQ,wpList_store_mid->QR,all_oneCell_toArray->QS,info_parts->QT,wpList_make_full->QU,wpList_append_lies->QV,maxLen->QW,Calls->QX
open List renaming getElem?_eq_getElem->LD,getElem?_eq_some_iff->LF,length_append->LI,getElem?_append_left->LJ,mem_of_getElem?->LK,length_singleton->LM,getD_eq_getElem?_getD->LO,getElem?_append_right->LP,append_assoc->MJ,mem_singleton->MM,length_cons->MN,take_length->MO,getElem?_map->MQ,append_nil->MT,length_map->MU,mem_cons_self->MV,getElem?_of_mem->MW,mem_cons_of_mem->MY,take_add_one->MZ,not_mem_nil->ND,map_append->NE,length_take->NF,mem_of_mem_take->NI,length_drop->NJ,getElem?_replicate->NM,drop_eq_nil_of_le->NO,take_zero->NU,getElem?_cons_succ->NW,length_eq_zero_iff->NY,length_nil->NZ,all_eq_false->OD,map_nil->OE,all_eq_true->OF,flatMap_nil->OG,getElem_map->OH,mem_append->OI,mem_cons->OK,mem_map->OL
open Go.World renaming cell?_of_block->LG,cell?_setCell_other->LR,frozen?_of_block->LU,cell?_setCell_same->LY,setCell->MC,frozen?_setCell->MF,cell?_alloc_at->MH,ownsRow_nil->NG,rangeAt_setCells_same->NH,frozen?_alloc_at->NR,cell?_alloc_new->OB
open UInt8 renaming ofNat->LH
open Go.RowKit.Below renaming heap_alloc->LN,refl->NK
open Nat renaming lt_of_lt_of_le->LQ,le_trans->MA,zero_add->MB,add_zero->MR,sub_self->NC,lt_trichotomy->NQ,mul_one->NS,le_of_lt->NT,add_assoc->OC,min_eq_left->OJ
open Go.Value renaming oneCell'->LS,ownBlock->LZ,slice->ML,int->NN
open Classical renaming byContradiction->MD
open Go.Proofs.Tryz renaming prog->ME,underlying116->MI,underlying59->MS,underlying66->NB
open Int renaming toNat_natCast->MG
open Go.Proofs.Tryz
set_option maxRecDepth 100000
set_option maxHeartbeats 8000000
namespace Go.Proofs.YtgjgjgihceijnaaGreat
open Go.RowKit Go.Stn
variable {l y ks lw aQ aK aN:List Nat}{i m g n k fb gN aJ B r b p j a gb z gR cR bE rb s gO qO gT qT dg ab:Nat}{ys xs:List (List Nat)}{t:Int}{T:TypeId}{Of:List Int}{aS:List UInt8}
theorem cH:(Tryz.prog.info? 59).map (λ i=>(i.zero,i.size,i.bytes))=some (some (.slice none 0 0),1,24):=by kernel_rfl
def IU(fb:Nat)(L:List NV)(gN aJ c m:Nat):Prop:=∀(w:tW),FR fb w L gN aJ->
 QX ME 107 #[.pointer (some ⟨fb,0,none⟩),.int .i64 (m:Int),.int .i64 (c:Int)] w λ e w'=>∃v,e=.returned v/\Bl w w'/\Zc w' w.heap.size v (bD (jB L) c m)
theorem Vs(h:l[i]?=some m):l.drop i=m::l.drop (i+1):=by
 obtain⟨o,C⟩:=LF.1 h;rw[List.drop_eq_getElem_cons o,C]
theorem IL.drop{w:tW}{o q:Nat}(hn:l.length=n)(hg:g<w.heap.size)(h:∀(i m:Nat),l[i]?=some m->w.cell? ⟨g,o+i,none⟩=some (.int .i64 (m:Int)))(hi:i<=n)(I:n<=q)(a:Option Addr)(D:i<q->a=some ⟨g,o+i,none⟩):IL w (.slice a (n-i) (q-i)) (l.drop i):=by
 refine⟨a,q-i,by rw[NJ,hn],by rw[NJ];omega,?_⟩;by_cases F:i<n
 ·refine .inr ⟨g,o+i,D (by omega),hg,λ j m C=>?_⟩;rw[List.getElem?_drop]at C;rw[OC];exact h (i+j) m C
 ·left;exact NO (by omega)
theorem H9(h:ys[k]?=some y)(r:List Nat):((ys.take (k+1)).map (·++r))=((ys.take k).map (·++r))++[y++r]:=by
 rw[MZ,h,NE];rfl
theorem RI.up{w w1 wr:tW}{v1 v:tV}(h:RI w w1 v1 wr v xs):RI w w (.slice none 0 0) wr v xs:=by
 obtain⟨vs,o⟩:=h.ll;exact⟨⟨vs,o⟩,⟨h.bl.os,h.bl.tape,h.bl.output,h.bl.size,λ k C _=>h.bl.block k C⟩,λ g e=> .inr (o.ro.lt g e).1,h.bl⟩
theorem RI.done{w w1 wr:tW}{v1 v:tV}(h:RI w w1 v1 wr v xs):Bl w wr/\Zc wr w.heap.size v xs:=by
 obtain⟨vs,o⟩:=h.ll;exact⟨h.bl,o.read⟩
theorem My{L:List NV}(hs:qX (jB L))(hc:gI (jB L))(hL:L.length<=100000)(c:Nat){l:List Nat}(hb:∀m,m∈l->IU fb L gN aJ c m)
  (Y:∀m,m∈l->m<L.length/\(bD (jB L) c m).length<=10/\∀y,y∈bD (jB L) c m->y.length<=1000000) (hl:l.length<=1000000) {w:tW} (h:FR fb w L gN aJ) {v:tV} (hv:IL w v l):
  QX ME 83 #[.pointer (some ⟨fb,0,none⟩),v,.int .i64 (c:Int)] w λ e w'=>∃v',e=.returned v'/\Bl w w'/\Zc w' w.heap.size v' (nU (bD (jB L) c) (jB L) l):=by
 obtain⟨a,vc,rfl,hJ,hv⟩:=hv;have HV:=fV hv;have HF:=fV h;have HB:=fV hb;have HM:=fV Y;have HE:=fV (λ m (Y:m<L.length) W=>L0 (fb:=fb) (gN:=gN) (aJ:=aJ) hs hc hL m Y W);obtain⟨n,en⟩:=xE (l.length)
 rw[en]at hl hJ ⊢;have Q:=fV en;clear h hv hb Y en hs hc;go_enter func83,ntmps83;go_wp2
 go_loopw [7,8] (λ y z wr=>∃(i:Nat)(xs:List (List Nat)),i<=n/\z=.int .i64 (i:Int)/\xs.length<=10*i/\QP (nU (bD (jB L) c) (jB L) l=xs++nU (bD (jB L) c) (jB L) (l.drop i))/\RI w w (.slice none 0 0) wr y xs) (λ _ z _=>n-(QO z).toNat)
 case atStart=>exact⟨0,[],by omega,rfl,by simp,fV (by simp),RI.start w⟩
 case round=>
  obtain⟨i,xs,hi,rfl,A2,HX,hI⟩:=hrel;have F:=fV hI;clear hI;by_cases qL:i<n
  ·obtain⟨m,Y⟩:∃m,l[i]?=some m:=⟨l[i]'(by rw[Q.o];exact qL),LD _⟩
   obtain⟨g,o,rfl,hg,U⟩:=HV.o.resolve_left (λ e=>by rw[e]at Y;simp at Y);have y0:wr.cell? ⟨g,o+i,none⟩=some (.int .i64 (m:Int)):=(F.o.bl.cell (p:=⟨g,o+i,none⟩) hg).trans (U i m Y);obtain⟨qR,eX,gL⟩:=HM.o m (LK Y);have tO:=iI i n (by omega)
   have cP:=fV (HB.o m (LK Y));have hM:=fV gL;have hQ:=fV Y;have eL:=fV U;have H0:=F.o.bl.size;have aR:QP (nU (bD (jB L) c) (jB L) l=(xs++(bD (jB L) c m).map (·++l.drop (i+1)))++(if xG (jB L) m=true then nU (bD (jB L) c) (jB L) (l.drop (i+1))else [])):=by
    unfold QP;rw[HX.o,Vs Y,nU,MJ]
   clear gL Y U HX;go_upto_region 6 with fail;refine(cP.o _ (HF.o.below (B:=w.heap.size) ⟨F.o.bl.os,F.o.bl.tape,F.o.bl.output,F.o.bl.size,F.o.bl.block⟩ lR)).mono ?_;rintro e w1 ⟨vm,rfl,Z,hF⟩;have hR:=fV (F.o.below Z);obtain⟨am,cm,rfl,hK⟩:=hF;have hV:=fV hK;have tL:=Z.size;have rL:QP (∀k,wr.heap.size<=k->u7.ownBlock≠some k):=λ k hk e=>by
    obtain⟨vs,nN⟩:=F.o.ll;have:=(nN.ro.lt k e).2;omega
   have hP:=fV (HE.o m qR);clear HE cP hK Z F y0;generalize wr.heap.size=sW at*;generalize hys:bD (jB L) c m=ys at*;obtain⟨M,eM⟩:=xE (ys.length)
   rw[eM]at eX ⊢;have bO:=fV eM;clear eM;go_wp2_with fail
   go_loopw [7,10] (λ y2 z2 rT=>∃k,k<=M/\z2=.int .i64 (k:Int)/\RI w w1 u7 rT y2 (xs++(ys.take k).map (·++l.drop (i+1)))) (λ _ z2 _=>M-(QO z2).toNat)
   case atStart=>exact⟨0,by omega,rfl,by rw[NU,OE,MT];exact hR.o.from⟩
   case round=>
    obtain⟨k,hk,rfl,bC⟩:=hrel;have I:=fV bC;clear bC;by_cases nL:k<M
    ·obtain⟨y,hy⟩:∃y,ys[k]?=some y:=⟨ys[k]'(by rw[bO.o];exact nL),LD _⟩
     obtain⟨gm,rfl,hB,hC,hA⟩:=hV.o.resolve_left (λ e=>by rw[e]at hy;simp at hy);obtain⟨u,hu,hD⟩:=hA k y hy;have cF:∀j,sW<=j->j<w1.heap.size->wr.heap[j]?=w1.heap[j]? :=λ j h1 h2=>I.o.gr.block j h2 (λ e=>rL.o j h1 e.symm)
     have y1:wr.cell? ⟨gm,k,none⟩=some u:=(LG (w:=w1) (a:=⟨gm,k,none⟩) (cF gm hB hC)).trans hu;have aW:Em wr sW none u y:=hD.keep I.o.gr.size (λ j h1 h2 _=>⟨cF j h1 h2,λ e=>by cases e⟩) lR;have eO:=fV aW.il;obtain⟨ua,uc,rfl,_,_⟩:=aW;have hT:QP (∀(a:Option Addr),(i+1<vc->a=some ⟨g,o+(i+1),none⟩)->IL wr (.slice a (n-(i+1)) (vc-(i+1))) (l.drop (i+1))):=λ a ha=>IL.drop Q.o (LQ hg I.o.bl.size) (λ j x hx=>(I.o.bl.cell (p:=⟨g,o+j,none⟩) hg).trans (eL.o j x hx)) (by omega) hJ a ha
     have eT:QP (vc=i+1->∀(a:Option Addr)(q:Nat),IL wr (.slice a (n-(i+1)) q) (l.drop (i+1))):=λ e a q=>⟨a,q,by rw[NJ,Q.o],by rw[NJ,Q.o];omega,.inl (NO (by rw[Q.o];omega))⟩
     have A3:y.length<=1000000:=hM.o y (LK hy);have eN:QP (y.length+(l.drop (i+1)).length<=1000000000):=by unfold QP;rw[NJ,Q.o];omega
     have A0:=iI k M (by omega)
     have sR:(0:Int)<=(i:Int)+1/\(i:Int)+1<=(n:Int):=by omega
     have HY:=fV hy;clear cF hu hD hy hA;go_upto_region 9 with fail
     go_cut [11] from 26 to 44 (λ x wx=>Bl wr wx/\wx.ownsRow wr.heap.size 3 1 x (y++l.drop (i+1)).length (kI (y++l.drop (i+1))))
     case first=>
      have wi:IntKind.i64.wrap ((i:Int)+1)=(i:Int)+1:=IntWalk.i64_in _ (by omega);have ti:((i:Int)+1).toNat=i+1:=by omega
      by_cases cN:vc=i+1
      ·have tT:∀(x y:Option Addr),(if vc=i+1 then x else y)=x:=λ x y=>aB cN
       have hU:=fV cN;clear cN;go_region_with (go_at_call 108;refine(X3 (ns:=y) (ms:=l.drop (i+1)) (eO.o.below (w':=wr.drew) ⟨rfl,rfl,rfl,lR,λ _ _=>rfl⟩ lR) ((eT.o hU.o _ _).below (w':=wr.drew) ⟨rfl,rfl,rfl,lR,λ _ _=>rfl⟩ lR) eN.o).mono ?_;rintro e w3 ⟨v',rfl,C,J⟩)
       all_goals
        have bK:QP (Bl wr w3):=⟨C.os,C.tape,C.output,C.size,C.block⟩
        have bS:=fV J;clear C J;go_wp2_with fail;go_meet
        case rel=>exact⟨bK.o,bS.o⟩
      ·
       go_region_with (go_at_call 108;refine(X3 (ns:=y) (ms:=l.drop (i+1)) (eO.o.below (w':=wr.drew) ⟨rfl,rfl,rfl,lR,λ _ _=>rfl⟩ lR) ((hT.o _ (λ h=>rfl)).below (w':=wr.drew) ⟨rfl,rfl,rfl,lR,λ _ _=>rfl⟩ lR) eN.o).mono ?_;rintro e w3 ⟨v',rfl,C,J⟩)
       all_goals
        have bK:QP (Bl wr w3):=⟨C.os,C.tape,C.output,C.size,C.block⟩
        have bS:=fV J;clear C J;go_wp2_with fail;go_meet
        case rel=>exact⟨bK.o,bS.o⟩
     case rest=>
      obtain⟨C,J⟩:=hcut;have D:=fV (I.o.below C);obtain⟨rO,aL⟩:=D.o.ll;obtain⟨ao,co,eo⟩:=gA aL.ro;subst eo;have bM:QP (Em wc w.heap.size (ML ao (xs++(ys.take k).map (·++l.drop (i+1))).length co).ownBlock u11 (y++l.drop (i+1))):=Em.of_row J (λ j e=>by
       obtain⟨H1,hG⟩:=I.o.ll;exact(hG.ro.lt j e).2) I.o.bl.size
      obtain⟨au,cu,eu⟩:=gA J;subst eu;have B1:=C.size;have B2:=I.o.bl.size;have E6:w.heap.size<=wc.heap.size:=by omega
      have bN:=fV aL;have hY:QP ((xs++(ys.take k).map (·++l.drop (i+1))).length<=10*i+10):=by
       unfold QP;rw[LI,MU,NF];omega
      have hW:QP ((xs++(ys.take k).map (·++l.drop (i+1)))++[y++l.drop (i+1)]=xs++(ys.take (k+1)).map (·++l.drop (i+1))):=by
       unfold QP;rw[H9 HY.o,MJ]
      clear aL J C;generalize y++l.drop (i+1)=yr at*;generalize xs++(ys.take k).map (·++l.drop (i+1))=xk at*;obtain⟨nk,ek⟩:=xE (xk.length)
      obtain⟨ny,ey⟩:=xE (yr.length)
      have A1:nk<=10*i+10:=by rw[<-ek];exact hY.o
      rw[ek]at bN bM D ⊢;rw[ey]at bM ⊢;have hN:=fV ek;have eS:=fV bN.o.ro;rw[ek]at eS;clear ek ey;go_wp2_with (first|(at_builtin;refine gB wc rfl (.tmp 41) (.tmp 43) 66 rfl w.heap.size 59 (.slice none 0 0) 1 24 NB cH rfl (by decide) (by decide) (.slice ao nk co) nk rO [.slice au ny cu] _ rfl eS.o _ rfl rfl rfl (by simp[LS]) (by omega) (by omega) ?_;intro g4 cap4 w4 aO V aT hH;have hS:=fV (D.o.app bM.o hN.o bN.o aO V aT);clear aO V aT hH));go_roundw
      case rel=>exact⟨k+1,by omega,by go_num,by rw[<-hW.o];exact hS.o⟩
      case measure=>simp[QO];omega
    ·have hE:k=M:=by omega
     have dl:=dF k M (by omega)
     have bT:=I.o;rw[hE,<-bO.o,MO]at bT;have D:=fV bT;have y0:wr.cell? ⟨g,o+i,none⟩=some (.int .i64 (m:Int)):=(D.o.bl.cell (p:=⟨g,o+i,none⟩) hg).trans (eL.o i m hQ.o);have iN:QP ((xs++ys.map (·++l.drop (i+1))).length<=10*(i+1)):=by
      unfold QP;rw[LI,MU,bO.o];omega
     clear bT hE I;generalize xs++ys.map (·++l.drop (i+1))=xn at*;go_wp2_with fail;refine(hP.o _ (HF.o.below (B:=w.heap.size) ⟨D.o.bl.os,D.o.bl.tape,D.o.bl.output,D.o.bl.size,D.o.bl.block⟩ lR)).mono ?_;rintro e w5 ⟨rfl,X⟩;have eR:=fV (D.o.below ⟨X.os,X.tape,X.output,X.size,X.block⟩).up;clear X y0 D
     cases hem:xG (jB L) m with
     | true=>
      rw[hem,aB rfl]at aR;clear hem;go_wp2;go_roundw
      case rel=>exact⟨i+1,xn,by omega,by go_num,iN.o,aR,eR.o⟩
      case measure=>simp[QO];omega
     | false=>
      rw[hem,aA (by decide),MT]at aR;clear hem;go_wp2;go_ret;exact⟨_,rfl,by rw[aR.o];exact eR.o.done⟩
  ·have lH:i=n:=by omega
   have hX:QP (nU (bD (jB L) c) (jB L) l=xs):=by
    unfold QP;rw[HX.o,NO (by rw[Q.o];omega)];unfold nU;rw[MT]
   have dl:=dF i n (by omega)
   clear lH;go_wp2;go_ret;exact⟨_,rfl,by rw[hX.o];exact F.o.done⟩
theorem Up{α:Type}:∀{xs:List α}{Q:Nat->tV->α->Prop},(∀(k:Nat)(x:α),xs[k]?=some x->∃u,Q k u x)->∃C:List tV,C.length=xs.length/\∀(k:Nat)(u:tV)(x:α),C[k]?=some u->xs[k]?=some x->Q k u x
 | [],Q,_=>⟨[],rfl,λ k u x h=>by simp at h⟩
 | y::xs,Q,h=>by
  obtain⟨u,V⟩:=h 0 y rfl;obtain⟨C,J,U⟩:=Up (xs:=xs) (Q:=λ k=>Q (k+1)) (λ k x o=>h (k+1) x (by simpa using o));refine⟨u::C,by simp[J],λ k v x D o=>?_⟩
  cases k with
  | zero=>
   have F:=sJ D
   have I:=sJ o
   rw[<-F,<-I];exact V
  | succ k=>exact U k v x (by simpa using D) (by simpa using o)
theorem S4(w:tW){ops:Array Oper}{rest:List Oper}{o:Oper}{a:Act}{Q:Exit->Act->tW->Prop}(aO:o.guard=none)(s x:Operand)
  (ho:o.op=.call {callee:= .builtin .append,args:= #[s,x],argTypes:= #[66,66]})
  (aH:Nat) (v:tV) (xs ys:List (List Nat)) (vs:List tV) (u:tV) (B:Nat) (hs:a.eval s=v) (C:LL w aH v xs vs) (X:a.eval x=u) (hu:Zc w B u ys) (hB:aH<=B) (aR:∀k,B<=k->v.ownBlock≠some k) (hn:xs.length+ys.length<=1000000000) (I:aH<=w.heap.size)
  (h:∀v' w',(∃bC,LL w' aH v' (xs++ys) bC)->w.grownBy w' v.ownBlock->(∀g,v'.ownBlock=some g->v.ownBlock=some g\/w.heap.size<=g)->wpList ME ops Q rest (a.put o.dst v') w'):wpList ME ops Q (o::rest) a w:=by
 obtain⟨i,hi,hz,J,V⟩:=QT cH;obtain⟨ad,aJ,rfl,hu⟩:=hu;have D:ys=[]->wpList ME ops Q (o::rest) a w:=λ e=>by
  subst e;refine wpList_plain aO λ K hK=>?_
  have hr:=xZ (P:=ME) w 66 o.type aH 59 i 1 NB hi v xs.length vs C.ro ad aJ;have hh:=h v w ⟨vs,by rw[MT];exact C⟩ ⟨rfl,rfl,rfl,lR,λ _ _ _=>rfl⟩ (λ g e=> .inl e);unfold Oper.wp execOp;simp only[ho,resolve,invoke,builtin,Go.Sem.run_bind,Go.Sem.run_pure,Result.andThen_ok,List.map_toArray,List.map_cons,OE,hs,X,NZ,hr];exact hK _ _ hh
 rcases hu with e|⟨g,rfl,bK,bM,hc⟩
 ·exact D e
 ·by_cases aW:ys.length=0
  ·exact D (NY.1 aW)
  ·obtain⟨us,bN,U⟩:=Up (Q:=λ k u x=>w.cell? ⟨g,k,none⟩=some u/\Em w B none u x) hc;have aL:∀(j:Nat)(y:tV),us[j]?=some y->∃x,ys[j]?=some x:=λ j y Y=>by
    have:=(LF.1 Y).1;exact⟨ys[j]'(by omega),LD _⟩
   have aT:vs.length=xs.length:=by have:=C.ro.1;omega
   refine QV w aO s x 66 ho aH 59 i (.slice none 0 0) 1 24 NB hi hz J V rfl (by decide) v xs.length vs hs C.ro ⟨g,0,none⟩ ys.length aJ us X (by omega) (λ j y Y=>?_) (λ y Y=>?_) (by omega) (by unfold QW;omega) (by omega) I _ rfl (λ g4 cap4 w4 h1 h2 h3 h4=>h _ w4 ⟨vs++us,⟨by rw[LI];exact h1,λ j a b ha V=>?_⟩⟩ h2 (λ k e=>?_))
   ·rw[oI,MB];obtain⟨x,X⟩:=aL j y Y;exact(U j y x Y X).1
   ·obtain⟨j,hj⟩:=MW Y;obtain⟨x,X⟩:=aL j y hj;obtain⟨a,c,e,_⟩:=(U j y x hj X).2;rw[e];rfl
   ·have F:∀k,k<w.heap.size->v.ownBlock≠some k->w4.heap[k]?=w.heap[k]? /\(ML (some ⟨g4,0,none⟩) (xs.length+ys.length) cap4).ownBlock≠some k:=λ k hk h0=>by
     refine⟨h2.block k hk (λ e=>h0 e.symm),λ e=>?_⟩;have e:g4=k:=by simpa[LZ]using e
     subst e;rcases h3 with Z|Z
     ·exact h0 Z
     ·omega
    by_cases hj:j<vs.length
    ·rw[LJ hj]at ha;rw[LJ (by omega)]at V;exact(C.el j a b ha V).keep h2.size (λ k _=>F k) lR
    ·rw[LP (by omega)]at ha V;rw[aT]at ha;exact(U _ a b ha V).2.keep h2.size (λ k h1 hk _=>F k hk (aR k h1)) hB
   ·have e:g4=k:=by simpa[LZ]using e
    subst e;rcases h3 with Z|Z
    ·exact .inl Z
    ·exact .inr (by omega)
theorem RI.aM{w w1 wr w4:tW}{D vo J:tV}(h:RI w w1 D wr vo xs)(Q:∃vs,LL w4 w.heap.size J ys vs)(hg:wr.grownBy w4 vo.ownBlock)(U:∀g,J.ownBlock=some g->vo.ownBlock=some g\/wr.heap.size<=g):RI w w1 D w4 J ys:=by
 have Z:=h.gr.size;have V:=h.bl.size;have X:=hg.size;obtain⟨Y,I⟩:=h.ll;refine⟨Q,⟨hg.os.trans h.gr.os,hg.tape.trans h.gr.tape,hg.output.trans h.gr.output,by omega,λ k F C=>?_⟩,λ g e=>?_,⟨hg.os.trans h.bl.os,hg.tape.trans h.bl.tape,hg.output.trans h.bl.output,by omega,λ k F=>?_⟩⟩
 ·refine(hg.block k (by omega) (λ e=>?_)).trans (h.gr.block k F C);rcases h.ow k e.symm with o|o
  ·exact C o.symm
  ·omega
 ·rcases U g e with o|o
  ·exact h.ow g o
  ·right;omega
 ·exact(hg.block k (by omega) (λ e=>by have:=(I.ro.lt k e.symm).1;omega)).trans (h.bl.block k F)
theorem Zc.lower{w:tW}{B':Nat}{v:tV}(h:Zc w B v xs)(o:B'<=B):Zc w B' v xs:=h.keep lR (λ _ _ _=>rfl) o
theorem P3(B:Nat->List (List Nat))(h:l[i]?=some m):(l.take (i+1)).flatMap B=(l.take i).flatMap B++B m:=by
 rw[MZ,h,List.flatMap_append];simp
theorem Ph{B:Nat->List (List Nat)}:∀(l:List Nat),(∀m,m∈l->(B m).length<=10)->(l.flatMap B).length<=10*l.length
 | [],_=>by simp
 | m::l,h=>by
  rw[List.flatMap_cons,LI,MN];have:=h m MV;have:=Ph l (λ x o=>h x (MY _ o));omega
theorem Mq{L:List NV}(hs:qX (jB L))(hc:gI (jB L))(hL:L.length<=3000)(c:Nat)(iN:c<256):∀(n:Nat),n<L.length->(∀m,I6 (jB L) n m->(bD (jB L) c m).length<=10)->IU fb L gN aJ c n:=by
 intro n
 induction n using Nat.strongRecOn with
 | ind n ih=>
  intro hn hU w h;obtain⟨t,ht⟩:∃t,L[n]?=some t:=⟨L[n],LD hn⟩
  have hx:=Q9 ht;have HE:=fV (M6 hc (c:=c) hx);have bT:=hs n t.x hx;have bK:=hc n t.x hx;have eO:QP (∀m,m∈t.x.l->IU fb L gN aJ c m):=λ m Z=>ih m (bK m Z) (by have:=bK m Z;omega) (λ k hk=>hU k (I6.trans (.step .refl hx Z) hk))
  have aO:QP (∀m,m∈t.x.l->m<L.length/\(bD (jB L) c m).length<=10/\∀y,y∈bD (jB L) c m->y.length<=1000000):=λ m Z=>by
   have bM:m<L.length:=by have:=bK m Z;omega
   refine⟨bM,hU m (.step .refl hx Z),λ y hy=>?_⟩;have hN:m<(jB L).length:=by rw[lB];exact bM
   have:=(Ql hc hs m hN y (Bp hc m hN y hy)).2;omega
  have eS:=fV (λ(l:List Nat) hb Z hl W hW v (hv:IL W v l)=>My (fb:=fb) (gN:=gN) (aJ:=aJ) hs hc (by omega) c (l:=l) hb Z hl (w:=W) hW (v:=v) hv);have rT:=fV (h.nd n t ht).1;have hT:=fV (h.nd n t ht).2;have O7:(0:Int)<=(n:Int)/\(n:Int)<(L.length:Int):=by omega
  have c0:=h.c0;have HF:=fV h;have C:QP (Bl w ((w.alloc (.cells #[.int .i64 0,.slice none 0 0,.slice none 0 0] 180)).setCells w.heap.size 0 t.cells)):=fX _ 0 _ _ (bR.alloc lR _) lR;have hX:QP ((w.alloc (.cells #[.int .i64 0,.slice none 0 0,.slice none 0 0] 180)).there w.heap.size 0 3):=iD _ _ _ _ _ rfl rfl;have hI:QP (((w.alloc (.cells #[.int .i64 0,.slice none 0 0,.slice none 0 0] 180)).setCells w.heap.size 0 t.cells).rangeAt w.heap.size 0 t.cells):=NH _ _ _ _ hX.o;have cF:w.heap.size<((w.alloc (.cells #[.int .i64 0,.slice none 0 0,.slice none 0 0] 180)).setCells w.heap.size 0 t.cells).heap.size:=by
   have:=(fX t.cells 0 (w.alloc (.cells #[.int .i64 0,.slice none 0 0,.slice none 0 0] 180)) w.heap.size (NK 0 _) zL).size;simp at this;omega
  have sR:=fV (NV.one hT.o);clear ih h ht hU hx bK;go_enter func107,ntmps107;go_upto_region 2 with(first
   | (refine QQ rfl 180 (.tmp 19) rfl gN (n*3) rfl t.cells _ rT.o underlying180 rfl cK ?_)
   | (refine QR rfl 180 (.tmp 7) (.tmp 20) rfl w.heap.size 0 t.cells.toArray rfl rfl hX.o cK (QS sR.o) ?_))
  generalize (w.alloc (.cells #[.int .i64 0,.slice none 0 0,.slice none 0 0] 180)).setCells w.heap.size 0 t.cells=W at*;have hG:=fV (HF.o.below C.o lR);have aR:=fV (hT.o.below C.o lR);have n0:W.cell? ⟨w.heap.size,0,none⟩=some (.int .i64 (t.x.k:Int)):=by have:=hI.o 0 _ rfl;exact this
  have n1:W.cell? ⟨w.heap.size,1,none⟩=some t.l:=by have:=hI.o 1 _ rfl;exact this
  have n2:W.cell? ⟨w.heap.size,2,none⟩=some t.i:=by have:=hI.o 2 _ rfl;exact this
  clear hX rT c0 hI sR HF hT;have h5:t.x.k=0\/t.x.k=1\/(t.x.k=2\/t.x.k=4)\/t.x.k=3:=by omega
  rcases h5 with e|e|e|e
  ·
   obtain⟨g,hi,hg,eX⟩:∃g,t.i=.slice (some ⟨g,0,none⟩) 256 256/\g<W.heap.size/\∀i,i<256->W.cell? ⟨g,i,none⟩=some (.bool (t.x.f i)):=by
    rcases aR.o with⟨_,_,_,g,h4,h6,h7⟩|⟨h0,_⟩
    ·exact⟨g,h4,h6,h7⟩
    ·exact absurd e h0
   have HR:QP (bD (jB L) c n=if t.x.f c=true then [[]]else []):=by unfold QP;rw[HE.o,aB e]
   rw[e]at n0;rw[hi]at n2;have y0:=eX c iN;have O5:(0:Int)<=(c:Int)/\(c:Int)<(256:Int):=by omega
   clear e bT hi eX HE aR
   cases hf:t.x.f c with
   | true=>
    rw[hf]at y0;rw[hf,aB rfl]at HR;clear hf;go_wp2_with (first|(at_builtin;refine gB W rfl (.tmp 30) (.tmp 31) 66 rfl W.heap.size 59 (.slice none 0 0) 1 24 NB cH rfl (by decide) (by decide) (.slice none 0 0) 0 [] [.slice none 0 0] _ rfl (NG _ _ _ 1) _ rfl rfl rfl (by simp[LS]) (by omega) (by omega) ?_;intro g4 cap4 w4 X J aW hE;have Q:=fV ((RI.start W).app (Em.nil _ _ _) rfl (LL.start _ _) X J aW);clear X J aW hE));go_ret;refine⟨_,rfl,?_,?_⟩
    ·exact⟨Q.o.bl.os.trans C.o.os,Q.o.bl.tape.trans C.o.tape,Q.o.bl.output.trans C.o.output,MA C.o.size Q.o.bl.size,λ k hk=>(Q.o.bl.block k (by omega)).trans (C.o.block k hk)⟩
    ·rw[HR.o];exact Q.o.done.2.lower (NT cF)
   | false=>
    rw[hf]at y0;rw[hf,aA (by decide)]at HR;clear hf;go_wp2;go_ret;exact⟨_,rfl,C.o,by rw[HR.o];exact(LL.start W _).read⟩
  ·
   obtain⟨g,lc,hl,gL,hg,HG⟩:∃g lc,t.l=.slice (some ⟨g,0,none⟩) t.x.l.length lc/\t.x.l.length<=lc/\g<W.heap.size/\QP (∀(i m:Nat),t.x.l[i]?=some m->W.cell? ⟨g,i,none⟩=some (.int .i64 (m:Int))):=by
    rcases aR.o with⟨h0,_⟩|⟨_,_,g,lc,h1,h2,h3⟩
    ·omega
    ·exact⟨g,lc,h1,h3.2,h2,fV h3.1⟩
   have HR:QP (bD (jB L) c n=nU (bD (jB L) c) (jB L) t.x.l):=by unfold QP;rw[HE.o,aA (by omega),aB e]
   have H0:QP (IL W (.slice (some ⟨g,0,none⟩) t.x.l.length lc) t.x.l):=⟨_,_,rfl,gL,.inr ⟨g,0,rfl,hg,λ i m Z=>by rw[MB];exact HG.o i m Z⟩⟩
   have A1:=bT.2.2;rw[e]at n0;rw[hl]at n1;clear e bT HE aR hl;go_wp2_with fail;refine(eS.o t.x.l eO.o aO.o (by omega) _ (hG.o.below (w':=W) ⟨rfl,rfl,rfl,lR,λ _ _=>rfl⟩ lR) _ (H0.o.below (w':=W) ⟨rfl,rfl,rfl,lR,λ _ _=>rfl⟩ lR)).mono ?_;rintro e w1 ⟨v',rfl,D,Y⟩;have cP:=fV D;have eR:=fV Y;clear D Y;go_wp2;go_ret;refine⟨_,rfl,?_,by rw[HR.o];exact eR.o.lower (NT cF)⟩;exact⟨cP.o.os.trans C.o.os,cP.o.tape.trans C.o.tape,cP.o.output.trans C.o.output,MA C.o.size cP.o.size,λ k hk=>(cP.o.block k (by omega)).trans (C.o.block k hk)⟩
  ·
   obtain⟨g,lc,hl,gL,hg,HG⟩:∃g lc,t.l=.slice (some ⟨g,0,none⟩) t.x.l.length lc/\t.x.l.length<=lc/\g<W.heap.size/\QP (∀(i m:Nat),t.x.l[i]?=some m->W.cell? ⟨g,i,none⟩=some (.int .i64 (m:Int))):=by
    rcases aR.o with⟨h0,_⟩|⟨_,_,g,lc,h1,h2,h3⟩
    ·omega
    ·exact⟨g,lc,h1,h3.2,h2,fV h3.1⟩
   have HR:QP (bD (jB L) c n=t.x.l.flatMap (bD (jB L) c)):=by unfold QP;rw[HE.o,aA (by omega),aA (by omega),aB e]
   have A1:=bT.2.2;rw[hl]at n1;clear bT HE aR hl eS;generalize t.x.l=l at*;obtain⟨N,eN⟩:=xE (l.length)
   rw[eN]at n1 A1 gL;have hH:=fV eN;clear eN;rcases e with e|e
   ·rw[e]at n0;clear e;go_wp2
    go_loopw [8,9] (λ y z wr=>∃i,i<=N/\z=.int .i64 (i:Int)/\RI W W (.slice none 0 0) wr y ((l.take i).flatMap (bD (jB L) c))) (λ _ z _=>N-(QO z).toNat)
    case atStart=>exact⟨0,by omega,rfl,by rw[NU,OG];exact RI.start W⟩
    case round=>
     obtain⟨i,hi,rfl,bS⟩:=hrel;have F:=fV bS;have qR:=(bS.bl.cell (p:=⟨w.heap.size,1,none⟩) cF).trans n1;clear bS;by_cases bK:i<N
     ·obtain⟨m,Z⟩:∃m,l[i]?=some m:=⟨l[i]'(by rw[hH.o];exact bK),LD _⟩
      have y0:wr.cell? ⟨g,i,none⟩=some (.int .i64 (m:Int)):=(F.o.bl.cell (p:=⟨g,i,none⟩) hg).trans (HG.o i m Z);have U:=LK Z;have H6:=iI i N (by omega)
      have eL:=fV (eO.o m U);have eT:=(aO.o m U).2.1;have hQ:QP ((l.take i).flatMap (bD (jB L) c)++bD (jB L) c m=(l.take (i+1)).flatMap (bD (jB L) c)):=(P3 _ Z).symm;have H5:((l.take i).flatMap (bD (jB L) c)).length<=10*i:=by
       have:=Ph (B:=bD (jB L) c) (l.take i) (λ x hx=>(aO.o x (NI hx)).2.1);rw[NF]at this;omega
      clear Z U;go_upto_region 15 with fail;refine(eL.o _ (hG.o.below (B:=W.heap.size) ⟨F.o.bl.os,F.o.bl.tape,F.o.bl.output,F.o.bl.size,F.o.bl.block⟩ lR)).mono ?_;rintro e w1 ⟨vm,rfl,D,Y⟩;have bO:=fV (F.o.below ⟨D.os,D.tape,D.output,D.size,D.block⟩);have eR:=fV Y;have A3:=D.size;have qL:=F.o.bl.size;obtain⟨N0,bC⟩:=F.o.ll;have hS:QP (∀k,wr.heap.size<=k->u8.ownBlock≠some k):=λ k hk e=>by
       have:=(bC.ro.lt k e).2;omega
      obtain⟨hJ,V⟩:=bO.o.ll;have bN:=fV V;clear D Y bC V F qR y0;generalize (l.take i).flatMap (bD (jB L) c)=xi at*;generalize bD (jB L) c m=ym at*;go_wp2_with (first|(at_builtin;refine S4 w1 rfl (.tmp 58) (.tmp 59) rfl W.heap.size u8 xi ym hJ vm wr.heap.size rfl bN.o rfl eR.o qL hS.o (by omega) (by omega) ?_;intro v4 w4 hC hA hF;have Q:=fV (bO.o.aM hC hA hF);clear hC hA hF));go_roundw
      case rel=>exact⟨i+1,by omega,by go_num,by rw[<-hQ.o];exact Q.o⟩
      case measure=>simp[QO];omega
     ·have hB:i=N:=by omega
      have I:QP (RI W W (.slice none 0 0) wr u8 (l.flatMap (bD (jB L) c))):=by
       unfold QP;have:=F.o;rw[hB,<-hH.o,MO]at this;exact this
      have dl:=dF i N (by omega)
      clear hB F;go_wp2;go_ret;refine⟨_,rfl,?_,by rw[HR.o];exact I.o.done.2.lower (NT cF)⟩;exact⟨I.o.bl.os.trans C.o.os,I.o.bl.tape.trans C.o.tape,I.o.bl.output.trans C.o.output,MA C.o.size I.o.bl.size,λ k hk=>(I.o.bl.block k (by omega)).trans (C.o.block k hk)⟩
   ·rw[e]at n0;clear e;go_wp2
    go_loopw [8,9] (λ y z wr=>∃i,i<=N/\z=.int .i64 (i:Int)/\RI W W (.slice none 0 0) wr y ((l.take i).flatMap (bD (jB L) c))) (λ _ z _=>N-(QO z).toNat)
    case atStart=>exact⟨0,by omega,rfl,by rw[NU,OG];exact RI.start W⟩
    case round=>
     obtain⟨i,hi,rfl,bS⟩:=hrel;have F:=fV bS;have qR:=(bS.bl.cell (p:=⟨w.heap.size,1,none⟩) cF).trans n1;clear bS;by_cases bK:i<N
     ·obtain⟨m,Z⟩:∃m,l[i]?=some m:=⟨l[i]'(by rw[hH.o];exact bK),LD _⟩
      have y0:wr.cell? ⟨g,i,none⟩=some (.int .i64 (m:Int)):=(F.o.bl.cell (p:=⟨g,i,none⟩) hg).trans (HG.o i m Z);have U:=LK Z;have H6:=iI i N (by omega)
      have eL:=fV (eO.o m U);have eT:=(aO.o m U).2.1;have hQ:QP ((l.take i).flatMap (bD (jB L) c)++bD (jB L) c m=(l.take (i+1)).flatMap (bD (jB L) c)):=(P3 _ Z).symm;have H5:((l.take i).flatMap (bD (jB L) c)).length<=10*i:=by
       have:=Ph (B:=bD (jB L) c) (l.take i) (λ x hx=>(aO.o x (NI hx)).2.1);rw[NF]at this;omega
      clear Z U;go_upto_region 15 with fail;refine(eL.o _ (hG.o.below (B:=W.heap.size) ⟨F.o.bl.os,F.o.bl.tape,F.o.bl.output,F.o.bl.size,F.o.bl.block⟩ lR)).mono ?_;rintro e w1 ⟨vm,rfl,D,Y⟩;have bO:=fV (F.o.below ⟨D.os,D.tape,D.output,D.size,D.block⟩);have eR:=fV Y;have A3:=D.size;have qL:=F.o.bl.size;obtain⟨N0,bC⟩:=F.o.ll;have hS:QP (∀k,wr.heap.size<=k->u8.ownBlock≠some k):=λ k hk e=>by
       have:=(bC.ro.lt k e).2;omega
      obtain⟨hJ,V⟩:=bO.o.ll;have bN:=fV V;clear D Y bC V F qR y0;generalize (l.take i).flatMap (bD (jB L) c)=xi at*;generalize bD (jB L) c m=ym at*;go_wp2_with (first|(at_builtin;refine S4 w1 rfl (.tmp 58) (.tmp 59) rfl W.heap.size u8 xi ym hJ vm wr.heap.size rfl bN.o rfl eR.o qL hS.o (by omega) (by omega) ?_;intro v4 w4 hC hA hF;have Q:=fV (bO.o.aM hC hA hF);clear hC hA hF));go_roundw
      case rel=>exact⟨i+1,by omega,by go_num,by rw[<-hQ.o];exact Q.o⟩
      case measure=>simp[QO];omega
     ·have hB:i=N:=by omega
      have I:QP (RI W W (.slice none 0 0) wr u8 (l.flatMap (bD (jB L) c))):=by
       unfold QP;have:=F.o;rw[hB,<-hH.o,MO]at this;exact this
      have dl:=dF i N (by omega)
      clear hB F;go_wp2;go_ret;refine⟨_,rfl,?_,by rw[HR.o];exact I.o.done.2.lower (NT cF)⟩;exact⟨I.o.bl.os.trans C.o.os,I.o.bl.tape.trans C.o.tape,I.o.bl.output.trans C.o.output,MA C.o.size I.o.bl.size,λ k hk=>(I.o.bl.block k (by omega)).trans (C.o.block k hk)⟩
  ·
   obtain⟨g,lc,hl,gL,hg,HG⟩:∃g lc,t.l=.slice (some ⟨g,0,none⟩) t.x.l.length lc/\t.x.l.length<=lc/\g<W.heap.size/\QP (∀(i m:Nat),t.x.l[i]?=some m->W.cell? ⟨g,i,none⟩=some (.int .i64 (m:Int))):=by
    rcases aR.o with⟨h0,_⟩|⟨_,_,g,lc,h1,h2,h3⟩
    ·omega
    ·exact⟨g,lc,h1,h3.2,h2,fV h3.1⟩
   obtain⟨m,bM⟩:=bT.2.1 e;have U:m∈t.x.l:=by rw[bM];exact MM.2 rfl
   have HR:QP (bD (jB L) c n=(bD (jB L) c m).map (·++[n])):=by unfold QP;rw[HE.o,aA (by omega),aA (by omega),aA (by omega),bM]
   have y0:W.cell? ⟨g,0,none⟩=some (.int .i64 (m:Int)):=HG.o 0 m (by rw[bM];rfl);have eL:=fV (eO.o m U);have eT:=(aO.o m U).2.1;have B2:=fV (aO.o m U).2.2;rw[hl]at n1;rw[bM]at n1;rw[e]at n0;clear bT HE aR hl eS e gL HG eO aO U bM;have e1:([m]:List Nat).length=1:=rfl;rw[e1]at n1;clear e1;go_upto_region 18 with fail;refine(eL.o _ (hG.o.below (w':=W) ⟨rfl,rfl,rfl,lR,λ _ _=>rfl⟩ lR)).mono ?_;rintro e w1 ⟨vm,rfl,D,Y⟩;have hK:Bl W w1:=⟨D.os,D.tape,D.output,D.size,D.block⟩
   have bO:=fV ((RI.start W).below hK);obtain⟨am,cm,rfl,A2⟩:=Y;have H2:=fV A2;have A3:=D.size;clear A2 D hK y0 n1 n0 n2;generalize bD (jB L) c m=ys at*;obtain⟨M,eM⟩:=xE (ys.length)
   rw[eM]at eT ⊢;have rO:=fV eM;clear eM;go_wp2_with fail
   go_loopw [8,12] (λ y2 z2 O0=>∃k,k<=M/\z2=.int .i64 (k:Int)/\RI W w1 (.slice none 0 0) O0 y2 ((ys.take k).map (·++[n]))) (λ _ z2 _=>M-(QO z2).toNat)
   case atStart=>exact⟨0,by omega,rfl,by rw[NU,OE];exact bO.o.from⟩
   case round=>
    obtain⟨k,hk,rfl,hP⟩:=hrel;have aT:=fV hP;clear hP;by_cases L1:k<M
    ·obtain⟨y,hy⟩:∃y,ys[k]?=some y:=⟨ys[k]'(by rw[rO.o];exact L1),LD _⟩
     obtain⟨gm,rfl,O3,tO,tL⟩:=H2.o.resolve_left (λ e=>by rw[e]at hy;simp at hy);obtain⟨u,hu,tT⟩:=tL k y hy;have nN:∀j,j<w1.heap.size->wr.heap[j]?=w1.heap[j]? :=λ j h2=>aT.o.gr.block j h2 (λ e=>by cases e)
     have y1:wr.cell? ⟨gm,k,none⟩=some u:=(LG (w:=w1) (a:=⟨gm,k,none⟩) (nN gm tO)).trans hu;have hM:Em wr W.heap.size none u y:=tT.keep aT.o.gr.size (λ j h1 h2 _=>⟨nN j h2,λ e=>by cases e⟩) lR;have H1:=fV hM.il;obtain⟨ua,uc,rfl,_,_⟩:=hM;have O9:y.length<=1000000:=B2.o y (LK hy);have O6:=iI k M (by omega)
     have HY:=fV hy;have aL:QP (Bl wr (wr.alloc (.cells #[.int .i64 (n:Int)] 3))):=bR.alloc lR _;have rL:QP (IL (wr.alloc (.cells #[.int .i64 (n:Int)] 3)) (.slice (some ⟨wr.heap.size,0,none⟩) 1 1) [n]):=⟨_,_,rfl,by simp,.inr ⟨wr.heap.size,0,rfl,by simp,λ i x hx=>by
      cases i with
      | zero=>
       have e:=sJ hx
       subst e;rw[OB]
       rfl
      | succ i=>simp at hx⟩⟩
     clear nN hu tT hy tL;go_upto_region 22 with fail;refine(X3 (ns:=y) (ms:= [n]) (H1.o.below aL.o lR) rL.o (by simp;omega)).mono ?_;rintro e wc ⟨M2,rfl,cN,lH⟩;have hY:Bl wr wc:=⟨cN.os.trans aL.o.os,cN.tape.trans aL.o.tape,cN.output.trans aL.o.output,MA aL.o.size cN.size,λ k hk=>(cN.block k (LQ hk aL.o.size)).trans (aL.o.block k hk)⟩
     have hV:=fV (aT.o.below hY);obtain⟨N1,hD⟩:=hV.o.ll;obtain⟨ao,co,eo⟩:=gA hD.ro;subst eo;have B1:=aL.o.size;have hR:QP (Em wc W.heap.size (ML ao ((ys.take k).map (·++[n])).length co).ownBlock M2 (y++[n])):=Em.of_row lH (λ j e=>by
      obtain⟨hJ,V⟩:=aT.o.ll;exact LQ (V.ro.lt j e).2 B1) (MA aT.o.bl.size B1)
     obtain⟨au,cu,eu⟩:=gA lH;subst eu;have P0:=hY.size;have S2:=aT.o.bl.size;have S5:W.heap.size<=wc.heap.size:=by omega
     have bN:=fV hD;have H4:QP (((ys.take k).map (·++[n])).length<=10):=by
      unfold QP;rw[MU,NF];omega
     have H3:QP (((ys.take k).map (·++[n]))++[y++[n]]=(ys.take (k+1)).map (·++[n])):=(H9 HY.o [n]).symm;clear hD lH cN hY rL aL;generalize y++[n]=yr at*;generalize (ys.take k).map (·++[n])=xk at*;obtain⟨nk,ek⟩:=xE (xk.length)
     obtain⟨ny,ey⟩:=xE (yr.length)
     have O8:nk<=10:=by rw[<-ek];exact H4.o
     rw[ek]at bN hR hV ⊢;rw[ey]at hR ⊢;have E6:=fV ek;have sW:=fV bN.o.ro;rw[ek]at sW;clear ek ey;go_wp2_with (first|(at_builtin;refine gB wc rfl (.tmp 83) (.tmp 85) 66 rfl W.heap.size 59 (.slice none 0 0) 1 24 NB cH rfl (by decide) (by decide) (.slice ao nk co) nk N1 [.slice au ny cu] _ rfl sW.o _ rfl rfl rfl (by simp[LS]) (by omega) (by omega) ?_;intro g4 cap4 w4 X J aW hE;have Q:=fV (hV.o.app hR.o E6.o bN.o X J aW);clear X J aW hE));go_roundw
     case rel=>exact⟨k+1,by omega,by go_num,by rw[<-H3.o];exact Q.o⟩
     case measure=>simp[QO];omega
    ·have A0:k=M:=by omega
     have dl:=dF k M (by omega)
     have nL:=aT.o;rw[A0,<-rO.o,MO]at nL;have I:=fV nL;clear nL A0 aT;go_wp2;go_ret;refine⟨_,rfl,?_,by rw[HR.o];exact I.o.done.2.lower (NT cF)⟩;exact⟨I.o.bl.os.trans C.o.os,I.o.bl.tape.trans C.o.tape,I.o.bl.output.trans C.o.output,MA C.o.size I.o.bl.size,λ k hk=>(I.o.bl.block k (by omega)).trans (C.o.block k hk)⟩
theorem Pj{l:List jL}{x y:jL}(h:l[i]?=some y)(o:mF y.1 y.2 x.1 x.2=true):nE l x=true:=by
 unfold nE;rw[List.any_eq_true];exact⟨y,LK h,o⟩
theorem Lm{l:List jL}{x:jL}(h:∀(i:Nat)(y:jL),l[i]?=some y->mF y.1 y.2 x.1 x.2=false):nE l x=false:=by
 unfold nE;rw[List.any_eq_false];intro y o;obtain⟨i,hi⟩:=MW o;rw[h i y hi];decide
theorem Dr{w:tW}{P:Nat->Prop}{v u:tV}{ls:List jL}{ns:List Nat}(hv:Ax w P v ls)(hu:IL w u ns)(hl:ls.length<=1000000)(hb:∀x,x∈ls->x.2.length<=1000000)(hn:ns.length<=1000000):
  QX ME 84 #[v,.agg #[.int .i64 (r:Int),u]] w λ e w'=>e=.returned (.bool (nE ls (r,ns)))/\Bl w w':=by
 obtain⟨a,ca,rfl,hv⟩:=hv;have HU:=fV hu;obtain⟨b,cb,rfl,_,_⟩:=hu;obtain⟨n,en⟩:=xE (ls.length)
 obtain⟨m,em⟩:=xE (ns.length)
 rw[en]at hl ⊢;rw[em]at HU ⊢;have bM:m<=1000000:=by omega
 have X:=fV en;have bC:=fV em;have HV:=fV hv;have aR:=fV hb;clear en em hv hb hn;have C:QP (Bl w (w.alloc (.cells #[.int .i64 (r:Int),.slice b m cb] 188))):=bR.alloc lR _;have aL:w.heap.size<(w.alloc (.cells #[.int .i64 (r:Int),.slice b m cb] 188)).heap.size:=by simp
 have a0:(w.alloc (.cells #[.int .i64 (r:Int),.slice b m cb] 188)).cell? ⟨w.heap.size,0,none⟩=some (.int .i64 (r:Int)):=(MH _ _ _ 0 rfl).trans rfl;have a1:(w.alloc (.cells #[.int .i64 (r:Int),.slice b m cb] 188)).cell? ⟨w.heap.size,1,none⟩=some (.slice b m cb):=(MH _ _ _ 1 rfl).trans rfl;go_enter func84,ntmps84;go_wp2_with fail;generalize w.alloc (.cells #[.int .i64 (r:Int),.slice b m cb] 188)=W at*
 go_loopw [5] (λ z wr=>∃(i:Nat),i<=n/\z=.int .i64 (i:Int)/\QP (∀(j:Nat)(y:jL),j<i->ls[j]?=some y->mF y.1 y.2 r ns=false)/\Bl W wr) (λ z _=>n-(QO z).toNat)
 case atStart=>exact⟨0,by omega,rfl,fV (λ j y hj=>absurd hj (by omega)),bR⟩
 case round=>
  obtain⟨i,hi,rfl,HA,F⟩:=hrel;have J:=fV F;have bS:=F.size;have b0:=(F.cell (p:=⟨w.heap.size,0,none⟩) aL).trans a0;have b1:=(F.cell (p:=⟨w.heap.size,1,none⟩) aL).trans a1;by_cases bK:i<n
  ·obtain⟨y,Q⟩:∃y,ls[i]?=some y:=⟨ls[i]'(by rw[X.o];exact bK),LD _⟩
   obtain⟨g,rfl,_,hg,hc⟩:=HV.o.resolve_left (λ e=>by rw[e]at Q;simp at Q);obtain⟨q,hq,Z⟩:=hc i y Q;have Y:g<W.heap.size:=by have:=C.o.size;omega
   have y1:wr.cell? ⟨g,i*2,none⟩=some (.int .i64 (y.1:Int)):=(F.cell (p:=⟨g,i*2,none⟩) Y).trans ((C.o.cell (p:=⟨g,i*2,none⟩) hg).trans (by have:=hq 0 _ rfl;exact this));have y2:wr.cell? ⟨g,i*2+1,none⟩=some q:=(F.cell (p:=⟨g,i*2+1,none⟩) Y).trans ((C.o.cell (p:=⟨g,i*2+1,none⟩) hg).trans (by have:=hq 1 _ rfl;exact this));have aT:QP (IL wr q y.2):=(Z.il.below C.o lR).below F lR;have aW:QP (IL wr (.slice b m cb) ns):=(HU.o.below C.o lR).below F lR;obtain⟨qa,qc,rfl,_,_⟩:=Z;have bN:=aR.o y (LK Q);have V:QP (y.2.length<=1000000/\ns.length<=1000000):=⟨bN,by rw[bC.o];exact bM⟩
   have bO:=iI i n (by omega)
   have HY:=fV Q;clear F hq hc Q;go_upto_region 4 with fail
   go_cut [6] from 7 to 19 (λ x wx=>x=.bool (mF y.1 y.2 r ns)/\Bl wr wx)
   case first=>
    go_region_with (go_at_call 110;refine(Xr y.1 r (aT.o.below (w':=wr.drew) ⟨rfl,rfl,rfl,lR,λ _ _=>rfl⟩ lR) (aW.o.below (w':=wr.drew) ⟨rfl,rfl,rfl,lR,λ _ _=>rfl⟩ lR) V.o).mono ?_;rintro e w3 ⟨rfl,D⟩)
    all_goals
     have I:QP (Bl wr w3):=⟨D.os,D.tape,D.output,D.size,D.block⟩
     clear D;go_wp2_with fail;go_meet
     case rel=>exact⟨rfl,I.o⟩
   case rest=>
    obtain⟨rfl,D⟩:=hcut;have I:QP (Bl W wc):=⟨D.os.trans J.o.os,D.tape.trans J.o.tape,D.output.trans J.o.output,MA J.o.size D.size,λ k U=>(D.block k (LQ U J.o.size)).trans (J.o.block k U)⟩
    clear D
    cases hsm:mF y.1 y.2 r ns with
    | true=>
     have HR:QP (nE ls (r,ns)=true):=Pj HY.o hsm;clear hsm;go_wp2;go_ret;refine⟨by rw[HR.o];rfl,I.o.os.trans C.o.os,I.o.tape.trans C.o.tape,I.o.output.trans C.o.output,MA C.o.size I.o.size,λ k U=>(I.o.block k (LQ U C.o.size)).trans (C.o.block k U)⟩
    | false=>
     have aO:QP (∀(j:Nat)(y:jL),j<i+1->ls[j]?=some y->mF y.1 y.2 r ns=false):=λ j z hj hz=>by
      by_cases e:j=i
      ·subst e;rw[HY.o]at hz;injection hz with hz;rw[<-hz];exact hsm
      ·exact HA.o j z (by omega) hz
     clear hsm;go_wp2;go_roundw
     case rel=>exact⟨i+1,by omega,by go_num,aO,I.o⟩
     case measure=>simp[QO];omega
  ·have HR:QP (nE ls (r,ns)=false):=Lm (λ j y Q=>HA.o j y (by have:=(LF.1 Q).1;rw[X.o]at this;omega) Q);have dl:=dF i n (by omega)
   go_wp2;go_ret;refine⟨by rw[HR.o];rfl,J.o.os.trans C.o.os,J.o.tape.trans C.o.tape,J.o.output.trans C.o.output,MA C.o.size J.o.size,λ k U=>(J.o.block k (LQ U C.o.size)).trans (C.o.block k U)⟩
theorem Pc{a b:List jL}(h:a.length≠b.length):pO a b=false:=by
 unfold pO;rw[decide_eq_false h];rfl
theorem Vt{a b:List jL}{x:jL}(o:a[i]?=some x)(h:nE b x=false):pO a b=false:=by
 unfold pO;have:a.all (λ x=>nE b x)=false:=by
  rw[OD];exact⟨x,LK o,by rw[h];decide⟩
 rw[this,Bool.and_false]
theorem Pd{a b:List jL}(o:a.length=b.length)(h:∀(i:Nat)(x:jL),a[i]?=some x->nE b x=true):pO a b=true:=by
 unfold pO;rw[decide_eq_true o,Bool.true_and,OF];intro x C;obtain⟨i,hi⟩:=MW C;exact h i x hi
theorem Rj{w:tW}{P Q:Nat->Prop}{v u:tV}{ls ms:List jL}(hv:Ax w P v ls)(hu:Ax w Q u ms)(hl:ls.length<=1000000)(aR:ms.length<=1000000)(hb:∀x,x∈ls->x.2.length<=1000000)(aL:∀x,x∈ms->x.2.length<=1000000):
  QX ME 105 #[v,u] w λ e w'=>e=.returned (.bool (pO ls ms))/\Bl w w':=by
 have HU:=fV hu;obtain⟨a,ca,rfl,hv⟩:=hv;obtain⟨b,cb,rfl,_⟩:=hu;obtain⟨n,en⟩:=xE (ls.length)
 obtain⟨m,em⟩:=xE (ms.length)
 rw[en]at hl ⊢;rw[em]at HU ⊢;have bM:=fV aR;have I:=fV en;have Y:=fV em;have HV:=fV hv;have aW:=fV hb;have X:=fV aL;clear en em hv hb aL aR;by_cases F:n=m
 ·have d1:((n:Int) !=(m:Int))=false:=by rw[F];simp
  have bN:=fV F;clear F;go_enter func105,ntmps105;go_wp2_with fail
  go_loopw [5] (λ z wr=>∃(i:Nat),i<=n/\z=.int .i64 (i:Int)/\QP (∀(j:Nat)(y:jL),j<i->ls[j]?=some y->nE ms y=true)/\Bl w wr) (λ z _=>n-(QO z).toNat)
  case atStart=>exact⟨0,by omega,rfl,fV (λ j y hj=>absurd hj (by omega)),bR⟩
  case round=>
   obtain⟨i,hi,rfl,HA,C⟩:=hrel;have U:=fV C;have cF:=C.size;by_cases bS:i<n
   ·obtain⟨y,J⟩:∃y,ls[i]?=some y:=⟨ls[i]'(by rw[I.o];exact bS),LD _⟩
    obtain⟨g,rfl,_,hg,hc⟩:=HV.o.resolve_left (λ e=>by rw[e]at J;simp at J);obtain⟨q,hq,aO⟩:=hc i y J;have y1:wr.cell? ⟨g,i*2,none⟩=some (.int .i64 (y.1:Int)):=(C.cell (p:=⟨g,i*2,none⟩) hg).trans (by have:=hq 0 _ rfl;exact this);have y2:wr.cell? ⟨g,i*2+1,none⟩=some q:=(C.cell (p:=⟨g,i*2+1,none⟩) hg).trans (by have:=hq 1 _ rfl;exact this);have bC:QP (IL wr q y.2):=aO.il.below C lR;have bK:QP (Ax wr Q (.slice b m cb) ms):=HU.o.below C;obtain⟨qa,qc,rfl,_,_⟩:=aO;have bO:=fV (aW.o y (LK J));have bT:=iI i n (by omega)
    have HY:=fV J;clear C hq hc J;go_wp2_with fail;refine(Dr (r:=y.1) (bK.o.below (w':=wr) ⟨rfl,rfl,rfl,lR,λ _ _=>rfl⟩) (bC.o.below (w':=wr) ⟨rfl,rfl,rfl,lR,λ _ _=>rfl⟩ lR) bM.o X.o bO.o).mono ?_;rintro e w3 ⟨rfl,D⟩;have V:QP (Bl w w3):=⟨D.os.trans U.o.os,D.tape.trans U.o.tape,D.output.trans U.o.output,MA U.o.size D.size,λ k hk=>(D.block k (LQ hk U.o.size)).trans (U.o.block k hk)⟩
    clear D
    cases hsm:nE ms (y.1,y.2)with
    | true=>
     have aT:QP (∀(j:Nat)(y:jL),j<i+1->ls[j]?=some y->nE ms y=true):=λ j z hj hz=>by
      by_cases e:j=i
      ·subst e;rw[HY.o]at hz;injection hz with hz;rw[<-hz];exact hsm
      ·exact HA.o j z (by omega) hz
     clear hsm;go_wp2;go_roundw
     case rel=>exact⟨i+1,by omega,by go_num,aT,V.o⟩
     case measure=>simp[QO];omega
    | false=>
     have Z:QP (pO ls ms=false):=Vt HY.o hsm;clear hsm;go_wp2;go_ret;exact⟨by rw[Z.o];rfl,V.o⟩
   ·have Z:QP (pO ls ms=true):=Pd (by rw[I.o,Y.o];exact bN.o) (λ j y J=>HA.o j y (by have:=(LF.1 J).1;rw[I.o]at this;omega) J);have dl:=dF i n (by omega)
    go_wp2;go_ret;exact⟨by rw[Z.o];rfl,U.o⟩
 ·have d1:((n:Int) !=(m:Int))=true:=by rw[aD];omega
  have Z:QP (pO ls ms=false):=Pc (by rw[I.o,Y.o];exact F);clear F;go_enter func105,ntmps105;go_wp2;go_ret;exact⟨by rw[Z.o];rfl,bR⟩
open Go.Stn
section
def Ar(N:List RN)(Ls:List (List jL))(l:List jL)(b:Nat)(t:Int):Prop:=
 (lI N b l=[]/\t= -1)\/∃(k:Nat)(o:List jL),t=(k:Int)/\0<k/\Ls[k]?=some o/\lI N b l≠ []/\∀x,x∈o↔x∈lI N b l
theorem Ar.app{N:List RN}{Ls:List (List jL)}{l:List jL}(h:Ar N Ls l b t)(a:List jL):Ar N (Ls++[a]) l b t:=by
 rcases h with h|⟨k,I,C,D,o,F⟩
 ·exact .inl h
 ·exact .inr ⟨k,I,C,D,by rw[LJ (LF.1 o).1];exact o,F⟩
theorem Ar.rng{N:List RN}{Ls:List (List jL)}{l:List jL}(h:Ar N Ls l b t):t= -1\/(0<t/\t<(Ls.length:Int)):=by
 rcases h with h|⟨k,I,C,D,o,F⟩
 ·exact .inl h.2
 ·right;have:=(LF.1 o).1;omega
def Dn(p b i j:Nat):Prop:=j<256/\(i<p\/(i=p/\j<b))
structure GI(N:List RN)(aQ:List Nat)(l0:List jL)(Ls:List (List jL))(Of:List Int)(To:Nat->Nat->Int)(p b:Nat):Prop where
 len:Of.length=Ls.length
 z:Ls[0]?=some l0
 zo:Of[0]?=some (-1)
 of:∀(i:Nat)(l:List jL),0<i->Ls[i]?=some l->Of[i]?=some (qB N l)
 ok:∀(i:Nat)(l:List jL),0<i->Ls[i]?=some l->l≠ []/\l.Nodup/\∀x,x∈l->UL N aQ x
 dif:∀(i j:Nat)(l l':List jL),0<i->i<j->Ls[i]?=some l->Ls[j]?=some l'->¬ ∀x,x∈l↔x∈l'
 lead:∀(i j:Nat)(l:List jL),Dn p b i j->Ls[i]?=some l->Ar N Ls l j (To i j)
 d1:∀(i j q:Nat),Dn p b i j->0<q->(q:Int)<=To i j->∃i' j':Nat,Dn p b i' j'/\(i'<i\/(i'=i/\j'<=j))/\To i' j'=(q:Int)
 d2:∀q:Nat,0<q->q<Ls.length->∃i j:Nat,Dn p b i j/\i<q/\To i j=(q:Int)
def Av(To:Nat->Nat->Int)(p b:Nat)(t:Int):Nat->Nat->Int:=λ i j=>if i=p/\j=b then t else To i j
theorem qK(To:Nat->Nat->Int)(p b:Nat)(t:Int):Av To p b t p b=t:=aB ⟨rfl,rfl⟩
theorem mP{To:Nat->Nat->Int}(h:¬(i=p/\j=b)):Av To p b t i j=To i j:=aA h
section
variable {N:List RN}{aQ:List Nat}{l0:List jL}{Ls:List (List jL)}{Of:List Int}{To:Nat->Nat->Int}{p b:Nat}
theorem Dn.old(h:Dn p b i j):¬(i=p/\j=b):=λ e=>by
 rcases h.2 with h|h
 ·omega
 ·omega
theorem Dn.more(h:Dn p b i j):Dn p (b+1) i j:=⟨h.1,h.2.imp id (λ h=>⟨h.1,by omega⟩)⟩
theorem Dn.split(h:Dn p (b+1) i j):Dn p b i j\/(i=p/\j=b):=by
 rcases h.2 with o|o
 ·exact .inl ⟨h.1,.inl o⟩
 ·by_cases e:j=b
  ·exact .inr ⟨o.1,e⟩
  ·exact .inl ⟨h.1,.inr ⟨o.1,by omega⟩⟩
theorem GI.start(N:List RN)(aQ:List Nat)(l0:List jL)(To:Nat->Nat->Int):GI N aQ l0 [l0] [-1] To 0 0:=
 ⟨rfl,rfl,rfl,λ i l C o=>(by have:=(LF.1 o).1;simp at this;omega),λ i l C o=>(by have:=(LF.1 o).1;simp at this;omega),
  λ i j l F C o _ D=>(by have:=(LF.1 D).1;simp at this;omega),λ i j l h=>(by rcases h.2 with h|h<;>omega),λ i j q h=>(by rcases h.2 with h|h<;>omega),λ q C o=>(by simp at o;omega)⟩
theorem GI.old(h:GI N aQ l0 Ls Of To p b)(hb:b<256){l:List jL}(Y:Ls[p]?=some l){t:Int}(X:Ar N Ls l b t):GI N aQ l0 Ls Of (Av To p b t) p (b+1):=by
 have hr:=X.rng;refine⟨h.len,h.z,h.zo,h.of,h.ok,h.dif,λ i j Z D o=>?_,λ i j q D U F=>?_,λ q U V=>?_⟩
 ·rcases D.split with D|⟨rfl,rfl⟩
  ·rw[mP D.old];exact h.lead i j Z D o
  ·rw[Y]at o;injection o with o;subst o;rw[qK];exact X
 ·rcases D.split with D|⟨rfl,rfl⟩
  ·rw[mP D.old]at F;obtain⟨i',J,C,Q,I⟩:=h.d1 i j q D U F;exact⟨i',J,C.more,Q,by rw[mP C.old];exact I⟩
  ·rw[qK]at F;obtain⟨i',J,C,Q,I⟩:=h.d2 q U (by omega);refine⟨i',J,C.more,?_,by rw[mP C.old];exact I⟩;rcases C.2 with k|k
   ·exact .inl k
   ·exact .inr ⟨k.1,by omega⟩
 ·obtain⟨i',J,C,Q,I⟩:=h.d2 q U V;exact⟨i',J,C.more,Q,by rw[mP C.old];exact I⟩
theorem GI.new(h:GI N aQ l0 Ls Of To p b)(hb:b<256){l:List jL}(hl:Ls[p]?=some l)(aL:lI N b l≠ [])(hu:∀x,x∈lI N b l->UL N aQ x)(aT:∀(i:Nat)(o:List jL),0<i->Ls[i]?=some o->¬ ∀x,x∈o↔x∈lI N b l):
  GI N aQ l0 (Ls++[lI N b l]) (Of++[qB N (lI N b l)]) (Av To p b (Ls.length:Int)) p (b+1):=by
 have hp:=(LF.1 hl).1;have J:=h.len;have C:∀(i:Nat)(o:List jL),(Ls++[lI N b l])[i]?=some o->Ls[i]?=some o\/(i=Ls.length/\o=lI N b l):=λ i o hi=>by
  by_cases X:i<Ls.length
  ·rw[LJ X]at hi;exact .inl hi
  ·have:=(LF.1 hi).1;rw[LI,LM]at this;have e:i=Ls.length:=by omega
   subst e;rw[LP lR,NC]at hi;exact .inr ⟨rfl,by simpa using hi.symm⟩
 have U:(Ls++[lI N b l])[Ls.length]?=some (lI N b l):=by rw[LP lR,NC];rfl
 have hz:=(LF.1 h.z).1;refine⟨by simp[J],by rw[LJ hz];exact h.z,by rw[LJ (by omega)];exact h.zo,λ i o Y hi=>?_,λ i o Y hi=>?_,λ i j l1 l2 Y aO F Q=>?_,λ i j o I D=>?_,λ i j q I hq V=>?_,λ q hq X=>?_⟩
 ·rcases C i o hi with k|⟨k1,k2⟩
  ·rw[LJ (by rw[J];exact(LF.1 k).1)];exact h.of i o Y k
  ·rw[k1,k2,<-J,LP lR,NC];rfl
 ·rcases C i o hi with k|⟨k1,k2⟩
  ·exact h.ok i o Y k
  ·rw[k2];exact⟨aL,Q4 _ _ _,hu⟩
 ·have aR:=(LF.1 Q).1;rw[LI,LM]at aR;have k1:=(C i l1 F).resolve_right (λ e=>by omega);rcases C j l2 Q with k|⟨e1,e2⟩
  ·exact h.dif i j l1 l2 Y aO k1 k
  ·rw[e2];exact aT i l1 Y k1
 ·rcases I.split with I|⟨rfl,rfl⟩
  ·rw[mP I.old];have hi:i<Ls.length:=by rcases I.2 with k|k<;>omega
   rw[LJ hi]at D;exact(h.lead i j o I D).app _
  ·rw[LJ hp,hl]at D;injection D with D;subst D;rw[qK];exact .inr ⟨Ls.length,_,rfl,by omega,U,aL,λ _=>Iff.rfl⟩
 ·rcases I.split with I|⟨rfl,rfl⟩
  ·rw[mP I.old]at V;obtain⟨i',j',F,Q,Z⟩:=h.d1 i j q I hq V;exact⟨i',j',F.more,Q,by rw[mP F.old];exact Z⟩
  ·rw[qK]at V;by_cases e:q=Ls.length
   ·exact⟨i,j,I,.inr ⟨rfl,lR⟩,by rw[qK,e]⟩
   ·obtain⟨i',j',F,Q,Z⟩:=h.d2 q hq (by omega);refine⟨i',j',F.more,?_,by rw[mP F.old];exact Z⟩;rcases F.2 with k|k
    ·exact .inl k
    ·exact .inr ⟨k.1,by omega⟩
 ·rw[LI,LM]at X;by_cases e:q=Ls.length
  ·exact⟨p,b,⟨hb,.inr ⟨rfl,by omega⟩⟩,by omega,by rw[qK,e]⟩
  ·obtain⟨i',j',F,Q,Z⟩:=h.d2 q hq (by omega);exact⟨i',j',F.more,Q,by rw[mP F.old];exact Z⟩
theorem Dn.aG:Dn p 256 i j↔Dn (p+1) 0 i j:=by
 unfold Dn;constructor
 ·rintro⟨h,k⟩;exact⟨h,.inl (by omega)⟩
 ·rintro⟨h,k⟩;refine⟨h,?_⟩;by_cases e:i=p
  ·exact .inr ⟨e,h⟩
  ·exact .inl (by omega)
theorem GI.aG(h:GI N aQ l0 Ls Of To p 256):GI N aQ l0 Ls Of To (p+1) 0:=
 ⟨h.len,h.z,h.zo,h.of,h.ok,h.dif,λ i j l F V=>h.lead i j l (Dn.aG.2 F) V,λ i j q F Q I=>by
  obtain⟨i',U,o,C,D⟩:=h.d1 i j q (Dn.aG.2 F) Q I;exact⟨i',U,Dn.aG.1 o,C,D⟩,λ q Q J=>by
  obtain⟨i',U,o,C,D⟩:=h.d2 q Q J;exact⟨i',U,Dn.aG.1 o,C,D⟩⟩
def Q0:List jL->List jL->Nat
 | [],_=>0
 | u::us,l=>2*Q0 us l+(if nE l u=true then 1 else 0)
theorem Mf:∀(o l:List jL),Q0 o l<2 ^ o.length
 | [],l=>by show 0<1;omega
 | u::o,l=>by
  have:=Mf o l;unfold Q0;rw[MN,Nat.pow_succ];split<;>omega
theorem Cu:∀{C l o:List jL},Q0 C l=Q0 C o->∀u,u∈C->(u∈l↔u∈o)
 | [],l,o,_,u,hu=>absurd hu ND
 | a::C,l,o,h,u,hu=>by
  unfold Q0 at h;have I:Q0 C l=Q0 C o:=by split at h<;>split at h<;>omega
  have J:(nE l a=true↔nE o a=true):=by
   constructor
   ·intro D;rw[aB D]at h;apply MD;intro F;rw[aA F]at h;omega
   ·intro D;rw[aB D]at h;apply MD;intro F;rw[aA F]at h;omega
  rcases OK.1 hu with e|e
  ·rw[e,<-rP,<-rP];exact J
  ·exact Cu I u e
theorem GI.few(X:mK N aQ ks)(h:GI N aQ l0 Ls Of To p b):Ls.length<=1025:=by
 obtain⟨S,J,I⟩:=X.univ;have o:0<Ls.length:=(LF.1 h.z).1;obtain⟨a,t,e⟩:∃a t,Ls=a::t:=by
  cases hL:Ls with
  | nil=>rw[hL]at o;simp at o
  | cons a t=>exact⟨a,t,rfl⟩
 have Q:(t.map (Q0 S)).Nodup:=by
  refine List.pairwise_iff_getElem.2 (λ i j C D Y=>?_);rw[MU]at C D;rw[OH,OH];intro V;have hi:Ls[i+1]?=some (t[i]'C):=by rw[e,NW];exact LD C
  have U:Ls[j+1]?=some (t[j]'D):=by rw[e,NW];exact LD D
  refine h.dif (i+1) (j+1) _ _ (by omega) (by omega) hi U (λ x=>?_);have Z:=(h.ok (i+1) _ (by omega) hi).2.2;have k2:=(h.ok (j+1) _ (by omega) U).2.2;constructor
  ·intro F;exact(Cu V x (I x (Z x F))).1 F
  ·intro F;exact(Cu V x (I x (k2 x F))).2 F
 have:=wA (S:=List.range 1024) Q (λ x F=>by
  obtain⟨l,_,rfl⟩:=OL.1 F;rw[List.mem_range];have h1:=Mf S l;have h2:2 ^ S.length<=2 ^ 10:=Nat.pow_le_pow_right (by decide) J;omega)
 rw[MU,List.length_range]at this;rw[e,MN];omega
theorem GI.auto(h:GI N aQ l0 Ls Of To Ls.length 0):oT Ls.length 256 To:=by
 have D:=(LF.1 h.z).1;refine⟨D,λ p b o C=>?_⟩;have:=(h.lead p b _ ⟨C,.inl o⟩ (LD o)).rng;omega
theorem GI.order(h:GI N aQ l0 Ls Of To Ls.length 0):Fo Ls.length 256 To:=by
 refine⟨λ p b q U Q J F=>?_,λ q J I=>?_⟩
 ·obtain⟨i,j,o,C,D⟩:=h.d1 p b q ⟨Q,.inl U⟩ J F;exact⟨i,j,o.1,C,D⟩
 ·obtain⟨i,j,o,C,D⟩:=h.d2 q J I;exact⟨i,j,C,o.1,D⟩
end
def Hv(N:List RN)(l:List jL)(w:List Nat)(v:Nat):Prop:=(v=0/\∀r,¬WL N l r w)\/∃r,v=r+1/\WL N l r w/\∀r',r'<r->¬WL N l r' w
theorem Hv.same{N:List RN}{l I:List jL}{w w':List Nat}{v:Nat}(h:Hv N l w v)(D:∀r,WL N l r w↔WL N I r w'):Hv N I w' v:=by
 rcases h with⟨o,C⟩|⟨r,o,C,J⟩
 ·exact .inl ⟨o,λ r Q=>C r ((D r).2 Q)⟩
 ·exact .inr ⟨r,o,(D r).1 C,λ r' F U=>J r' F ((D r').2 U)⟩
theorem WL.same{N:List RN}{l D:List jL}(h:∀x,x∈l↔x∈D)(r:Nat)(w:List Nat):WL N l r w↔WL N D r w:=by
 constructor
 ·rintro⟨p,o,C⟩;exact⟨p,(h p).1 o,C⟩
 ·rintro⟨p,o,C⟩;exact⟨p,(h p).2 o,C⟩
def LB(Of:List Int)(p:Nat):Nat:=(Of.getD p 0+1).toNat
section
variable {N:List RN}{aQ ks:List Nat}{l0:List jL}{Ls:List (List jL)}{Of:List Int}{To:Nat->Nat->Int}
theorem BR(D:mK N aQ ks)(l:List jL):Hv N l [] (qB N l+1).toNat:=by
 rcases q8 N l with⟨o,C⟩|⟨r,o,⟨p,C,I,J⟩,Q⟩
 ·refine .inl ⟨by rw[o];rfl,λ r=>?_⟩;rintro⟨p,U,_,F⟩;have:=(D.done p.2).2 F;rw[C p U]at this
  cases this
 ·refine .inr ⟨r,by rw[o];omega,⟨p,C,I,(D.done p.2).1 J⟩,λ r' X=>?_⟩;rintro⟨q,V,e,F⟩;have:=Q q V ((D.done q.2).2 F);omega
theorem GI.tok(hf:mK N aQ ks)(h0:∀x,x∈l0->UB N aQ x)(h:GI N aQ l0 Ls Of To Ls.length 0):∀(w:List Nat)(b:Nat)(p:Nat)(l:List jL),Ls[p]?=some l->lF 256 (b::w)->Hv N l (b::w) (jN (LB Of) To p (b::w)):=by
 have U:∀(p:Nat)(l:List jL),Ls[p]?=some l->∀x,x∈l->UB N aQ x:=λ p l C x X=>by
  by_cases e:p=0
  ·rw[e,h.z]at C;injection C with C;subst C;exact h0 x X
  ·exact((h.ok p l (by omega) C).2.2 x X).ub
 intro w
 induction w with
 | nil=>
  intro b p l C o;have hp:=(LF.1 C).1;have J:=o b MV;have D:=λ r=>hf.wl_step (U p l C) J r []
  rcases h.lead p b l ⟨J,.inl hp⟩ C with⟨F,I⟩|⟨k,V,F,I,Y,h4,Z⟩
  ·rw[lS I];refine .inl ⟨rfl,λ r hr=>?_⟩;obtain⟨q,Q,_⟩:=(D r).2 hr;rw[F]at Q;exact absurd Q ND
  ·rw[iT (by rw[F];omega),F,MG,AG];have e:LB Of k=(qB N V+1).toNat:=by
    unfold LB;rw[LO,h.of k V I Y]
    rfl
   rw[e];exact(BR hf V).same (λ r=>(WL.same Z r []).trans (D r))
 | cons c w ih=>
  intro b p l C o;have hp:=(LF.1 C).1;have J:=o b MV;have D:=λ r=>hf.wl_step (U p l C) J r (c::w)
  rcases h.lead p b l ⟨J,.inl hp⟩ C with⟨F,I⟩|⟨k,V,F,I,Y,h4,Z⟩
  ·rw[lS I];refine .inl ⟨rfl,λ r hr=>?_⟩;obtain⟨q,Q,_⟩:=(D r).2 hr;rw[F]at Q;exact absurd Q ND
  ·rw[iT (by rw[F];omega),F,MG];exact(ih c k V Y (λ x X=>o x (MY _ X))).same (λ r=>(WL.same Z r (c::w)).trans (D r))
end
end
theorem CP{N:List RN}{x:RN}(D:N[n]?=some x)(C:x.k=0)(o:x.f a≠x.f b):wV N a b=false:=by
 unfold wV;rw[OD];refine⟨x,LK D,?_⟩;rw[C];simpa using o
theorem Hp{N:List RN}(h:∀(n:Nat)(x:RN),N[n]?=some x->x.k=0->x.f a=x.f b):wV N a b=true:=by
 unfold wV;rw[OF];intro x D;obtain⟨n,C⟩:=MW D;by_cases o:x.k=0
 ·rw[h n x C o];simp
 ·have:(x.k !=0)=true:=by rw[aD];exact o
  rw[this];rfl
theorem Xu{L:List NV}(ha:a<256)(hb:b<256)(hL:L.length<=100000){w:tW}(h:FR fb w L gN aJ):
  QX ME 45 #[.pointer (some ⟨fb,0,none⟩),.int .i64 (a:Int),.int .i64 (b:Int)] w λ e w'=>e=.returned (.bool (wV (jB L) a b))/\Bl w w':=by
 obtain⟨n,en⟩:=xE (L.length)
 have k0:=h.c0;rw[en]at hL k0;have bK:=fV en;have HF:=fV h;have bS:=h.b0;have bT:(0:Int)<=(a:Int)/\(a:Int)<(256:Int):=by omega
 have cF:(0:Int)<=(b:Int)/\(b:Int)<(256:Int):=by omega
 clear en h;go_enter func45,ntmps45;go_wp2_with fail
 go_loopw [7] (λ z wr=>∃(i:Nat),i<=n/\z=.int .i64 (i:Int)/\QP (∀(j:Nat)(x:RN),j<i->(jB L)[j]?=some x->x.k=0->x.f a=x.f b)/\Bl w wr) (λ z _=>n-(QO z).toNat)
 case atStart=>exact⟨0,by omega,rfl,fV (λ j x hj=>absurd hj (by omega)),bR⟩
 case round=>
  obtain⟨i,hi,rfl,HA,V⟩:=hrel;have HB:=fV V;have cP:=V.size;have c0:wr.cell? ⟨fb,0,none⟩=some (.slice (some ⟨gN,0,none⟩) n aJ):=(V.cell (p:=⟨fb,0,none⟩) bS).trans k0;by_cases Y:i<n
  ·obtain⟨t,ht⟩:∃t,L[i]?=some t:=⟨L[i]'(by rw[bK.o];exact Y),LD _⟩
   have bC:=HF.o.below V lR;have bM:=fV (bC.nd i t ht).1;have aO:=fV (bC.nd i t ht).2;have HX:=fV (Q9 ht);have cN:=iI i n (by omega)
   have Q:QP (Bl wr ((wr.alloc (.cells #[.int .i64 0,.slice none 0 0,.slice none 0 0] 180)).setCells wr.heap.size 0 t.cells)):=fX _ 0 _ _ (bR.alloc lR _) lR;have aW:QP ((wr.alloc (.cells #[.int .i64 0,.slice none 0 0,.slice none 0 0] 180)).there wr.heap.size 0 3):=iD _ _ _ _ _ rfl rfl;have aT:QP (((wr.alloc (.cells #[.int .i64 0,.slice none 0 0,.slice none 0 0] 180)).setCells wr.heap.size 0 t.cells).rangeAt wr.heap.size 0 t.cells):=NH _ _ _ _ aW.o;have bN:=fV (NV.one aO.o);clear bC ht V;go_upto_region 5 with(first
    | (refine QQ rfl 180 (.tmp 23) rfl gN (i*3) rfl t.cells _ bM.o underlying180 rfl cK ?_)
    | (refine QR rfl 180 (.tmp 8) (.tmp 24) rfl wr.heap.size 0 t.cells.toArray rfl rfl aW.o cK (QS bN.o) ?_))
   generalize (wr.alloc (.cells #[.int .i64 0,.slice none 0 0,.slice none 0 0] 180)).setCells wr.heap.size 0 t.cells=W at*;have aR:=fV (aO.o.below Q.o lR);have n0:W.cell? ⟨wr.heap.size,0,none⟩=some (.int .i64 (t.x.k:Int)):=by have:=aT.o 0 _ rfl;exact this
   have n2:W.cell? ⟨wr.heap.size,2,none⟩=some t.i:=by have:=aT.o 2 _ rfl;exact this
   have C:QP (Bl w W):=⟨Q.o.os.trans HB.o.os,Q.o.tape.trans HB.o.tape,Q.o.output.trans HB.o.output,MA HB.o.size Q.o.size,λ k I=>(Q.o.block k (LQ I HB.o.size)).trans (HB.o.block k I)⟩
   clear aW bM c0 aT bN aO
   dsimp only[Act.put]
   have X:QP ((t.x.k=0->t.x.f a=t.x.f b)->∀(j:Nat)(x:RN),j<i+1->(jB L)[j]?=some x->x.k=0->x.f a=x.f b):=λ hh j x hj Z I=>by
    by_cases e:j=i
    ·subst e;rw[HX.o]at Z;injection Z with Z;rw[<-Z]at I ⊢;exact hh I
    ·exact HA.o j x (by omega) Z I
   by_cases I:t.x.k=0
   ·obtain⟨g,bO,hg,J⟩:∃g,t.i=.slice (some ⟨g,0,none⟩) 256 256/\g<W.heap.size/\∀i,i<256->W.cell? ⟨g,i,none⟩=some (.bool (t.x.f i)):=by
     rcases aR.o with⟨_,_,_,g,h4,h6,h7⟩|⟨h0,_⟩
     ·exact⟨g,h4,h6,h7⟩
     ·exact absurd I h0
    have y1:=J a ha;have y2:=J b hb;rw[bO]at n2;have F:QP (t.x.f a≠t.x.f b->wV (jB L) a b=false):=CP HX.o I;rw[I]at n0;have aL:=X.o;rw[I]at aL;have D:QP (t.x.f a=t.x.f b->∀(j:Nat)(x:RN),j<i+1->(jB L)[j]?=some x->x.k=0->x.f a=x.f b):=λ e=>aL (λ _=>e)
    have dk:((0:Int)==0)=true:=rfl;clear I bO J aL X aR
    cases hfa:t.x.f a<;>cases hfb:t.x.f b<;>rw[hfa]at y1 F D<;>rw[hfb]at y2 F D<;>clear hfa hfb
    ·have U:=fV (D.o rfl);clear D F;go_big_region
     all_goals
      go_wp2;go_roundw
      case rel=>exact⟨i+1,Y,by go_num,U,⟨C.o.os,C.o.tape,C.o.output,C.o.size,C.o.block⟩⟩
      case measure=>simp[QO];omega
    ·have HR:=fV (F.o (by decide));clear D F;go_big_region
     all_goals
      go_wp2;go_ret;exact⟨by rw[HR.o];rfl,⟨C.o.os,C.o.tape,C.o.output,C.o.size,C.o.block⟩⟩
    ·have HR:=fV (F.o (by decide));clear D F;go_big_region
     all_goals
      go_wp2;go_ret;exact⟨by rw[HR.o];rfl,⟨C.o.os,C.o.tape,C.o.output,C.o.size,C.o.block⟩⟩
    ·have U:=fV (D.o rfl);clear D F;go_big_region
     all_goals
      go_wp2;go_roundw
      case rel=>exact⟨i+1,Y,by go_num,U,⟨C.o.os,C.o.tape,C.o.output,C.o.size,C.o.block⟩⟩
      case measure=>simp[QO];omega
   ·have U:=fV (X.o (λ e=>absurd e I));have dk:((t.x.k:Int)==0)=false:=by rw[aC];omega
    clear I X aR;generalize t.x.k=kk at*;go_big_region
    all_goals
     go_wp2;go_roundw
     case rel=>exact⟨i+1,Y,by go_num,U,⟨C.o.os,C.o.tape,C.o.output,C.o.size,C.o.block⟩⟩
     case measure=>simp[QO];omega
  ·have HR:QP (wV (jB L) a b=true):=Hp (λ j x Z I=>HA.o j x (by have:=(LF.1 Z).1;rw[lB,bK.o]at this;omega) Z I);have dl:=dF i n (by omega)
   go_wp2;go_ret;exact⟨by rw[HR.o];rfl,HB.o⟩
theorem mA{w w1 w2:tW}(h:Bl w w1)(k:Bl w1 w2):Bl w w2:=⟨k.os.trans h.os,k.tape.trans h.tape,k.output.trans h.output,MA h.size k.size,λ j o=>(k.block j (LQ o h.size)).trans (h.block j o)⟩
def G7(N:List RN)(lw:List Nat):Prop:=∀(b k:Nat),lw[b]?=some k->k<=b/\lw[k]?=some k/\wV N k b=true
theorem G7.snoc{N:List RN}(h:G7 N lw){k:Nat}(V:k<=lw.length)(I:k<lw.length->lw[k]?=some k/\wV N k lw.length=true):G7 N (lw++[k]):=λ b j o=>by
 by_cases U:b<lw.length
 ·rw[LJ U]at o;obtain⟨D,F,Q⟩:=h b j o;exact⟨D,by rw[LJ (by omega)];exact F,Q⟩
 ·have:=(LF.1 o).1;rw[LI,LM]at this;have e:b=lw.length:=by omega
  subst e;rw[LP lR,NC]at o;have J:=sJ o
  subst J;by_cases C:k<lw.length
  ·obtain⟨D,F⟩:=I C;exact⟨V,by rw[LJ C];exact D,F⟩
  ·have e:k=lw.length:=by omega
   subst e;exact⟨lR,by rw[LP lR,NC];rfl,Hp (λ _ _ _ _=>rfl)⟩
theorem Mt{L:List NV}(hL:L.length<=100000){w:tW}(h:FR fb w L gN aJ):
  QX ME 21 #[.pointer (some ⟨fb,0,none⟩)] w λ e w'=>∃(v':tV)(lw:List Nat),e=.returned v'/\Bl w w'/\w'.ownsRow w.heap.size 3 1 v' 256 (kI lw)/\lw.length=256/\G7 (jB L) lw:=by
 have HF:=fV h;clear h;go_enter func21,ntmps21;go_wp2_with fail
 go_loopg [3,4] 256 (λ gj y z wr=>∃(b:Nat)(lw:List Nat),b+gj=256/\z=.int .i64 (b:Int)/\lw.length=b/\wr.ownsRow w.heap.size 3 1 y b (kI lw)/\G7 (jB L) lw/\Bl w wr)
 case atStart=>exact⟨0,[],by omega,rfl,rfl,NG _ _ _ 1,λ b k hk=>by simp at hk,bR⟩
 case round=>
  obtain⟨b,lw,eT,rfl,bT,aW,bO,aT⟩:=hrel;have Y:=fV aT;have F:=fV aW;have bK:=fV bO;have V:=fV bT;have hC:=aT.size;obtain⟨ao,co,eo⟩:=gA aW;subst eo;clear aT aW bO bT;by_cases eS:b<256
  ·obtain⟨d,rfl⟩:∃d,gk=d+1:=⟨gk-1,by omega⟩
   have eN:decide ((b:Int)<(256:Int))=true:=by simp;omega
   go_upto_block 2 with fail
   go_cut [5] from 7 to 32 (λ fv wc=>∃k:Nat,fv=.int .i64 (k:Int)/\k<=b/\QP (k<b->lw[k]?=some k/\wV (jB L) k b=true)/\Bl wr wc)
   case first=>
    go_wp2_with fail
    go_loopg [5] b (λ gj fv wj=>∃(k:Nat),fv=.int .i64 (k:Int)/\k+gj=b/\Bl wr wj)
    case atStart=>exact⟨0,rfl,by omega,bR⟩
    case round=>
     obtain⟨k,rfl,gL,J⟩:=hrel;have D:=fV J;have hB:=J.size;by_cases Z:k<b
     ·obtain⟨d2,rfl⟩:∃d2,gk=d2+1:=⟨gk-1,by omega⟩
      have eO:=dT k b (by omega)
      obtain⟨x,hx⟩:∃x,lw[k]?=some x:=⟨lw[k]'(by rw[V.o];exact Z),LD _⟩
      obtain⟨g2,I,eg⟩:∃g2 I,ML ao b co=.slice (some ⟨g2,0,none⟩) b I:=by
       rcases iL F.o with e|⟨g2,I,e⟩
       ·injection e with _ e3 _;omega
       ·exact⟨g2,I,e⟩
      injection eg with ea _ ec;subst ea ec;have eR:=(F.o.lt g2 rfl).2;have y0:wr.cell? ⟨g2,k,none⟩=some (.int .i64 (x:Int)):=by
       have:=F.o.cells (g:=g2) rfl k _ (qG hx);rw[oI,MB]at this;exact(J.cell (p:=⟨g2,k,none⟩) eR).trans this
      have HX:=fV hx;have eX:=iI k b (by omega)
      clear J hx;by_cases aL:x=k
      ·have d1:((x:Int)==(k:Int))=true:=by rw[aL];simp
       have eM:=fV aL;clear aL;go_wp2_with fail;refine(Xu (a:=k) (b:=b) (by omega) eS hL ((HF.o.below Y.o lR).below (w':=wr) ⟨D.o.os,D.o.tape,D.o.output,D.o.size,D.o.block⟩ lR)).mono ?_;rintro e w3 ⟨rfl,C⟩;have U:=fV (mA D.o C);clear C
       cases htw:wV (jB L) k b with
       | true=>
        have eL:=fV htw;clear htw;go_wp2;go_meet
        case rel=>exact⟨k,rfl,by omega,fV (λ _=>⟨by rw[HX.o,eM.o],eL.o⟩),U.o⟩
       | false=>
        clear htw;go_wp2;go_roundg d2
        case measure=>omega
        case rel=>exact⟨k+1,by go_num,by omega,U.o⟩
      ·have d1:((x:Int)==(k:Int))=false:=by rw[aC];omega
       clear aL;go_wp2;go_roundg d2
       case measure=>omega
       case rel=>exact⟨k+1,by go_num,by omega,D.o⟩
     ·have bN:k=b:=by omega
      have eO:=dF k b (by omega)
      clear bN;go_wp2;go_meet
      case rel=>exact⟨k,rfl,by omega,fV (λ h=>absurd h Z),D.o⟩
   case rest=>
    obtain⟨k,rfl,Z,HK,C⟩:=hcut;have aR:=iH F.o (w':=wc) (λ j hj=>C.block j (F.o.lt j hj).2);have aO:=fV aR;have U:QP (Bl w wc):=⟨C.os.trans Y.o.os,C.tape.trans Y.o.tape,C.output.trans Y.o.output,MA Y.o.size C.size,λ k hk=>(C.block k (LQ hk Y.o.size)).trans (Y.o.block k hk)⟩
    have hA:=U.o.size;have cN:QP (G7 (jB L) (lw++[k])):=bK.o.snoc (by rw[V.o];exact Z) (λ h=>by rw[V.o]at h ⊢;exact HK.o h);clear aR C F Y HK;go_wp2_with (first|(at_builtin;refine gB wc rfl (.tmp 29) (.tmp 31) 59 rfl w.heap.size 3 (.int .i64 0) 1 8 MS bY rfl (by decide) (by decide) (.slice ao b co) b (kI lw) [.int .i64 (k:Int)] _ rfl aO.o _ rfl rfl rfl (by simp[LS]) (by omega) (by omega) ?_;intro g4 cap4 w4 X Q bM bS;have cP:=fV X;have cF:QP (Bl w w4):=lN U.o aO.o Q;clear X Q bM bS));go_roundg d
    case measure=>omega
    case rel=>exact⟨b+1,lw++[k],by omega,by go_num,by rw[LI,V.o];rfl,by unfold kI at*;rw[NE];exact cP.o,cN.o,cF.o⟩
  ·have eb:b=256:=by omega
   have eN:decide ((b:Int)<(256:Int))=false:=by simp;omega
   have bC:=fV eb;clear eb;go_wp2;go_ret;exact⟨_,lw,rfl,Y.o,by rw[<-bC.o];exact F.o,by rw[V.o];exact bC.o,bK.o⟩
def Aq(w:tW)(P:Nat->Prop)(c:List tV)(l:List jL):Prop:=∃u,c=[u]/\Ax w P u l
theorem Aq.keeps:Y4 Aq:=λ _ _ _ _ _ _ ⟨u,h1,h2⟩ hz hB=>⟨u,h1,h2.keep hz hB⟩
def yU(_:tW)(_:Nat->Prop)(c:List tV)(x:Int):Prop:=c=[.int .i64 x]
theorem yU.keeps:Y4 yU:=λ _ _ _ _ _ _ h _ _=>h
def wW(w:tW)(P:Nat->Prop)(c:List tV)(f:Nat->Int):Prop:=∃g,c=[.slice (some ⟨g,0,none⟩) 256 256]/\P g/\g<w.heap.size/\∀b,b<256->w.cell? ⟨g,b,none⟩=some (.int .i64 (f b))
theorem wW.keeps:Y4 wW:=λ w w' P P' c f ⟨g,h1,h2,h3,h4⟩ hz hB=>by
 obtain⟨o,C⟩:=hB g h2 h3;exact⟨g,h1,C,by omega,λ b D=>(LG (w:=w) (a:=⟨g,b,none⟩) o).trans (h4 b D)⟩
def KW(Ls:List (List jL))(l:List jL)(v:Int):Prop:=
 (v= -1/\∀(i:Nat)(o:List jL),0<i->Ls[i]?=some o->pO o l=false)\/∃(i:Nat)(o:List jL),v=(i:Int)/\0<i/\Ls[i]?=some o/\pO o l=true
theorem FX{w:tW}{P Q:Nat->Prop}{vL u:tV}{Ls:List (List jL)}{cs:List (List tV)}{l:List jL}(hg:gb<w.heap.size)(aL:w.cell? ⟨gb,0,none⟩=some vL)(hr:sT Aq 145 1 w B P vL Ls cs)(hu:Ax w Q u l)
  (hn:Ls.length<=1000000) (h0:0<Ls.length) (hb:∀C,C∈Ls->C.length<=1000000/\∀x,x∈C->x.2.length<=1000000) (hl:l.length<=1000000) (aO:∀x,x∈l->x.2.length<=1000000):
  QX ME 77 #[.pointer (some ⟨gb,0,none⟩),u] w λ e w'=>∃v:Int,e=.returned (.int .i64 v)/\Bl w w'/\KW Ls l v:=by
 have HU:=fV hu;obtain⟨ua,uc,rfl,_⟩:=hu;obtain⟨X,cL,eL⟩:∃X cL,vL=.slice (some ⟨X,0,none⟩) Ls.length cL:=by
  obtain⟨g,aJ,_,e,_⟩:=hr.at (LD h0);exact⟨g,aJ,e⟩
 subst eL;obtain⟨n,en⟩:=xE (Ls.length)
 obtain⟨m,em⟩:=xE (l.length)
 rw[em]at HU hl ⊢;have bN:=fV em;have HR:=fV hr;rw[en]at hn h0 aL HR;have V:=fV en;have bC:=fV hb;have bM:=fV aO;clear en em hr hb aO;go_enter func77,ntmps77;go_wp2_with fail
 go_loopw [5] (λ z wr=>∃(i:Nat),0<i/\i<=n/\z=.int .i64 (i:Int)/\QP (∀(j:Nat)(C:List jL),0<j->j<i->Ls[j]?=some C->pO C l=false)/\Bl w wr) (λ z _=>n-(QO z).toNat)
 case atStart=>exact⟨1,by omega,by omega,rfl,fV (λ j C h1 h2=>by omega),bR⟩
 case round=>
  obtain⟨i,cF,hi,rfl,HA,D⟩:=hrel;have HB:=fV D;have eN:=D.size;have c0:=(D.cell (p:=⟨gb,0,none⟩) hg).trans aL;by_cases cN:i<n
  ·obtain⟨C,I⟩:∃C,Ls[i]?=some C:=⟨Ls[i]'(by rw[V.o];exact cN),LD _⟩
   obtain⟨g2,cP,c,e2,_,bT,⟨q,bS,hq⟩,_,F⟩:=HR.o.at I;injection e2 with e3 _ _;have e4:X=g2:=by injection e3 with e3;injection e3
   subst e4;have y0:wr.cell? ⟨X,i,none⟩=some q:=(D.cell (p:=⟨X,i,none⟩) bT).trans (by have:=F 0 q (by rw[bS];rfl);rw[NS,MR]at this;exact this);have HQ:=fV (hq.below D);obtain⟨qa,qc,rfl,_⟩:=hq;obtain⟨b1,b2⟩:=bC.o C (LK I);have aT:=fV b1;have aW:=fV b2;have eM:=iI i n (by omega)
   have U:=fV I;have bO:QP (Ax wr Q (.slice ua m uc) l):=HU.o.below D;clear D F I b1 b2 e3;go_wp2_with fail;refine(Rj (HQ.o.below (w':=wr) ⟨rfl,rfl,rfl,lR,λ _ _=>rfl⟩) (bO.o.below (w':=wr) ⟨rfl,rfl,rfl,lR,λ _ _=>rfl⟩) aT.o (by rw[bN.o];exact hl) aW.o bM.o).mono ?_;rintro e w3 ⟨rfl,Z⟩;have J:=fV (mA HB.o Z);clear Z
   cases heq:pO C l with
   | true=>
    have bK:=fV heq;clear heq;go_wp2;go_ret;exact⟨(i:Int),rfl,J.o,.inr ⟨i,C,rfl,cF,U.o,bK.o⟩⟩
   | false=>
    have aR:QP (∀(j:Nat)(C:List jL),0<j->j<i+1->Ls[j]?=some C->pO C l=false):=λ j k h1 h2 Y=>by
     by_cases e:j=i
     ·subst e;rw[U.o]at Y;injection Y with Y;rw[<-Y];exact heq
     ·exact HA.o j k h1 (by omega) Y
    clear heq;go_wp2;go_roundw
    case rel=>exact⟨i+1,by omega,by omega,by go_num,aR,J.o⟩
    case measure=>simp[QO];omega
  ·have dl:=dF i n (by omega)
   go_wp2;go_ret;exact⟨-1,rfl,HB.o,.inl ⟨rfl,λ j k h1 h2=>HA.o j k h1 (by have:=(LF.1 h2).1;rw[V.o]at this;omega) h2⟩⟩
theorem dI:(Tryz.prog.info? 188).map (λ i=>(i.zero,i.size,i.bytes))=some (some (.agg #[.int .i64 0,.slice none 0 0]),2,32):=by kernel_rfl
theorem mK.bndU{N:List RN}(h:mK N aQ ks){p:jL}(J:UB N aQ p):∀m,m∈p.2->∀k,I6 N m k->∀c,(bD N c k).length<=10:=λ m o k F c=>by
 obtain⟨n,C,D⟩:=J;obtain⟨j,_,I,Q,V⟩:=h.top C;have U:I6 N n m:=by
  rcases D with e|e
  ·rw[e]at o;rw[MM.1 o];exact .refl
  ·exact AR h.cl n I p.2 e m o
 have:=Q.2 k (U.trans F) c;omega
theorem Mu{B:Nat->List (List Nat)}{N:List RN}:∀(l:List Nat),(∀m,m∈l->(B m).length<=10)->(nU B N l).length<=10*l.length
 | [],_=>by simp[nU]
 | m::l,h=>by
  unfold nU;rw[LI,MU,MN];have:=h m MV;have:=Mu (N:=N) l (λ x o=>h x (MY _ o));split
  ·omega
  ·simp only[NZ];omega
theorem Xp{L:List NV}(o:mK (jB L) aQ ks)(c:Nat)(U:c<256){p:jL}(I:UB (jB L) aQ p){w:tW}(h:FR fb w L gN aJ){v:tV}(X:IL w v p.2):
  QX ME 83 #[.pointer (some ⟨fb,0,none⟩),v,.int .i64 (c:Int)] w λ e w'=>∃J,e=.returned J/\Bl w w'/\Zc w' w.heap.size J (yO (jB L) c p.2):=by
 have Q:L.length<=3000:=by rw[<-lB];exact o.n3
 obtain⟨D,Z,_⟩:=o.bnd I;have F:∀m,m∈p.2->m<L.length:=λ m C=>by rw[<-lB];exact(D m C).1
 refine My o.sh o.cl (by omega) c (λ m C=>Mq o.sh o.cl Q c U m (F m C) (λ k V=>o.bndU I m C k V c)) (λ m C=>⟨F m C,(D m C).2 c,λ y Y=>?_⟩) (by omega) h X;have:=(Ql o.cl o.sh m (D m C).1 y (Bp o.cl m (D m C).1 y Y)).2;have:=o.n3;have:=(D m C).1;omega
theorem mK.row_bnd{N:List RN}(h:mK N aQ ks){p:jL}(o:UB N aQ p)(c:Nat):(yO N c p.2).length<=7000000/\∀y,y∈yO N c p.2->UL N aQ (p.1,y)/\y.length<=1000000:=by
 obtain⟨D,J,_⟩:=h.bnd o;refine⟨?_,λ y I=>?_⟩
 ·have:=Mu (B:=bD N c) (N:=N) p.2 (λ m F=>(D m F).2 c);show(nU (bD N c) N p.2).length<=_;omega
 ·have C:=h.step_in o I;have:y.length<=700000:=(h.bnd C.ub).2.1;exact⟨C,by omega⟩
theorem mK.mid{N:List RN}(h:mK N aQ ks){ls:List jL}(I:∀p,p∈ls->UB N aQ p){c i k:Nat}{p:jL}(Q:UB N aQ p):(yE p.1 (wU N c [] (ls.take i)) ((yO N c p.2).take k)).length<=10/\∀x,x∈yE p.1 (wU N c [] (ls.take i)) ((yO N c p.2).take k)->x.2.length<=1000000:=by
 have C:∀x,x∈yE p.1 (wU N c [] (ls.take i)) ((yO N c p.2).take k)->UL N aQ x:=λ x o=>by
  rcases Cv.1 o with e|⟨m,J,e⟩
  ·rcases U6.1 e with e|⟨q,U,D,F⟩
   ·exact absurd e ND
   ·have:=h.step_in (I q (NI U)) F;rw[D]at this;exact this
  ·rw[e];exact((h.row_bnd Q c).2 m (NI J)).1
 exact⟨h.few (Iz (Cz List.nodup_nil)) C,λ x o=>by have:=(h.bnd (C x o).ub).2.1;omega⟩
theorem GR.up{α:Type}{E:tW->(Nat->Prop)->List tV->α->Prop}{w w1 wr:tW}{v1 v:tV}{xs:List α}{cs:List (List tV)}(h:GR E T z w w1 v1 wr v xs cs):GR E T z w w (.slice none 0 0) wr v xs cs:=
 ⟨h.ro,⟨h.bl.os,h.bl.tape,h.bl.output,h.bl.size,λ k o _=>h.bl.block k o⟩,λ g e=> .inr (h.ro.1.lt g e).1,h.bl⟩
theorem GR.lf{w w1 wr:tW}{v1 v:tV}{ls:List jL}{cs:List (List tV)}(h:GR wF 188 2 w w1 v1 wr v ls cs):Ax wr (λ g=>w.heap.size<=g) v ls:=h.ro.lf (λ _ C _=>C.1) (λ _ o _=>o)
theorem DO{out:List jL}{x:jL}(h:nE out x=true):Bm out x=out:=aB h
theorem Zz{out:List jL}{x:jL}(h:nE out x=false):Bm out x=out++[x]:=aA (by rw[h];decide)
theorem Uw{out:List jL}(h:ys[k]?=some y):yE r out (ys.take (k+1))=Bm (yE r out (ys.take k)) (r,y):=by
 rw[MZ,h];exact Uv r out (ys.take k) y
theorem Sm{N:List RN}{c:Nat}{ls:List jL}{p:jL}(h:ls[i]?=some p):wU N c [] (ls.take (i+1))=yE p.1 (wU N c [] (ls.take i)) (yO N c p.2):=by
 rw[MZ,h];exact Sl N c [] (ls.take i) p
theorem Xs{L:List NV}(hf:mK (jB L) aQ ks)(c:Nat)(hc:c<256){w:tW}(h:FR fb w L gN aJ){P:Nat->Prop}{v:tV}{ls:List jL}(hv:Ax w P v ls)(hl:ls.length<=1000000)(hu:∀p,p∈ls->UB (jB L) aQ p):
  QX ME 56 #[.pointer (some ⟨fb,0,none⟩),v,.int .i64 (c:Int)] w λ e w'=>∃v',e=.returned v'/\Bl w w'/\Ax w' (λ g=>w.heap.size<=g) v' (lI (jB L) c ls):=by
 obtain⟨a,ca,rfl,hv⟩:=hv;obtain⟨n,en⟩:=xE (ls.length)
 rw[en]at hl ⊢;have eR:=fV en;have HV:=fV hv;have HF:=fV h;have HU:=fV hu;have hB:=fV (λ(p:jL) J (W:tW) hW (u:tV) (hu:IL W u p.2)=>Xp (fb:=fb) (gN:=gN) (aJ:=aJ) hf c hc (p:=p) J (w:=W) hW (v:=u) hu);have aT:=fV (λ(i k:Nat)(p:jL) J=>hf.mid (c:=c) hu (i:=i) (k:=k) (p:=p) J);have eX:=fV (λ(p:jL) J=>hf.row_bnd (p:=p) J c);clear en hv hu h hf;go_enter func56,ntmps56;go_wp2_with fail
 go_loopw [7,8] (λ y z wr=>∃(i:Nat)(cs:List (List tV)),i<=n/\z=.int .i64 (i:Int)/\GR wF 188 2 w w (.slice none 0 0) wr y (wU (jB L) c [] (ls.take i)) cs) (λ _ z _=>n-(QO z).toNat)
 case atStart=>exact⟨0,[],by omega,rfl,GR.start _ _ _ w⟩
 case round=>
  obtain⟨i,cs,hi,rfl,F⟩:=hrel;have HG:=fV F;have rT:=F.bl.size;by_cases qR:i<n
  ·obtain⟨p,J⟩:∃p,ls[i]?=some p:=⟨ls[i]'(by rw[eR.o];exact qR),LD _⟩
   obtain⟨g,rfl,_,hg,hC⟩:=HV.o.resolve_left (λ e=>by rw[e]at J;simp at J);obtain⟨q,hq,hG⟩:=hC i p J;have rL:w.cell? ⟨g,i*2,none⟩=some (.int .i64 (p.1:Int)):=by have:=hq 0 _ rfl;exact this
   have y2:wr.cell? ⟨g,i*2+1,none⟩=some q:=(F.bl.cell (p:=⟨g,i*2+1,none⟩) hg).trans (by have:=hq 1 _ rfl;exact this);have cP:QP (IL wr q p.2):=hG.il.below (B:=w.heap.size) ⟨F.bl.os,F.bl.tape,F.bl.output,F.bl.size,F.bl.block⟩ lR;obtain⟨qa,qc,rfl,_,_⟩:=hG;have bS:=HU.o p (LK J);have eT:=fV bS;obtain⟨rO,hQ⟩:=eX.o p bS;have iN:=fV hQ;have A1:=iI i n (by omega)
   have lH:=fV (Sm (N:=jB L) (c:=c) J);clear hq hC J bS hQ F;go_upto_region 6 with fail;refine(hB.o p eT.o _ (HF.o.below (B:=w.heap.size) ⟨HG.o.bl.os,HG.o.bl.tape,HG.o.bl.output,HG.o.bl.size,HG.o.bl.block⟩ lR) _ (cP.o.below ⟨rfl,rfl,rfl,lR,λ _ _=>rfl⟩ lR)).mono ?_;rintro e w1 ⟨vm,rfl,I,hL⟩;have U:Bl wr w1:=⟨I.os,I.tape,I.output,I.size,I.block⟩
   have hX:=fV (HG.o.below wF.keeps U);obtain⟨am,cm,rfl,hR⟩:=hL;have nL:=fV hR;have A0:=U.size;have hP:QP (∀k,wr.heap.size<=k->u7.ownBlock≠some k):=λ k hk e=>by
    have:=(HG.o.ro.1.lt k e).2;omega
   have hV:=fV (λ k=>aT.o i k p eT.o);clear hR I U HG y2 cP hB aT eX;have A3:w.heap.size<=wr.heap.size:=rT;generalize wr.heap.size=sW at*;generalize yO (jB L) c p.2=ys at*;generalize wU (jB L) c [] (ls.take i)=out0 at*;obtain⟨M,eM⟩:=xE (ys.length)
   rw[eM]at rO ⊢;have eO:=fV eM;clear eM;go_wp2_with fail
   go_loopw [7,10] (λ y2 z2 tL=>∃(k:Nat)(cs:List (List tV)),k<=M/\z2=.int .i64 (k:Int)/\GR wF 188 2 w w1 u7 tL y2 (yE p.1 out0 (ys.take k)) cs) (λ _ z2 _=>M-(QO z2).toNat)
   case atStart=>exact⟨0,cs,by omega,rfl,hX.o.from⟩
   case round=>
    obtain⟨k,bO,hk,rfl,bK⟩:=hrel;have D:=fV bK;clear bK;by_cases qL:k<M
    ·obtain⟨y,hy⟩:∃y,ys[k]?=some y:=⟨ys[k]'(by rw[eO.o];exact qL),LD _⟩
     obtain⟨gm,rfl,hE,bC,hD⟩:=nL.o.resolve_left (λ e=>by rw[e]at hy;simp at hy);obtain⟨u,hu,hH⟩:=hD k y hy;have cN:∀j,sW<=j->j<w1.heap.size->wr.heap[j]?=w1.heap[j]? :=λ j h1 h2=>D.o.gr.block j h2 (λ e=>hP.o j h1 e.symm)
     have y1:wr.cell? ⟨gm,k,none⟩=some u:=(LG (w:=w1) (a:=⟨gm,k,none⟩) (cN gm hE bC)).trans hu;have y0:wr.cell? ⟨g,i*2,none⟩=some (.int .i64 (p.1:Int)):=(D.o.bl.cell (p:=⟨g,i*2,none⟩) hg).trans rL;have hN:∀g,u7.ownBlock=some g->¬(sW<=g/\g<w1.heap.size):=λ g e h2=>by
      rcases D.o.ow g e with e1|e1
      ·exact hP.o g h2.1 e1
      ·omega
     have eL:QP (DC wr (λ g=>w.heap.size<=g/\u7.ownBlock≠some g) u y):=by
      obtain⟨a,q,e,h1,h2⟩:=hH;refine⟨a,q,e,h1,?_⟩;rcases h2 with h2|⟨g2,o2,k1,k2,k3,_,k4⟩
      ·exact .inl h2
      ·exact .inr ⟨g2,o2,k1,⟨by omega,λ e=>hN g2 e ⟨k2,k3⟩⟩,LQ k3 D.o.gr.size,λ i m hm=>(LG (w:=w1) (a:=⟨g2,o2+i,none⟩) (cN g2 k2 k3)).trans (k4 i m hm)⟩
     obtain⟨ua,uc,rfl,_,_⟩:=hH;have nN:=fV (iN.o y (LK hy)).2;have Z:=fV (Uw (r:=p.1) (out:=out0) hy);have A2:=iI k M (by omega)
     have eS:=fV (hV.o k);have tO:gm<wr.heap.size:=LQ bC D.o.gr.size;have tT:g<wr.heap.size:=LQ hg D.o.bl.size;clear cN hu hy hD hN;go_upto_region 9 with fail
     go_cut [11] from 27 to 51 (λ x wx=>x=.pointer (some ⟨wr.heap.size,0,none⟩)/\Bl wr wx/\wr.heap.size<wx.heap.size/\wx.cell? ⟨wr.heap.size,0,none⟩=some (.int .i64 (p.1:Int))/\wx.cell? ⟨wr.heap.size,1,none⟩=some (.slice ua y.length uc))
     case first=>
      go_region
      all_goals
       go_wp2_with fail;go_meet
       case rel=>
        have hb:Bl wr (wr.alloc (.cells #[.int .i64 (p.1:Int),.slice ua y.length uc] 188)):=bR.alloc lR _;exact⟨rfl,⟨hb.os,hb.tape,hb.output,hb.size,hb.block⟩,by show wr.heap.size<(wr.alloc _).heap.size;simp,(MH _ _ _ 0 rfl).trans rfl,(MH _ _ _ 1 rfl).trans rfl⟩
     case rest=>
      obtain⟨rfl,aR,hS,c0,c1⟩:=hcut;have Q:=fV (D.o.below wF.keeps aR);have V:QP (DC wc (λ g=>w.heap.size<=g/\u7.ownBlock≠some g) (.slice ua y.length uc) y):=eL.o.keep aR.size (λ j J hj=>⟨aR.block j hj,J⟩);obtain⟨ao,co,eo⟩:=gA Q.o.ro.1;subst eo;obtain⟨hI,hK⟩:=eS.o;have hU:=fV hK;clear D aR eL y0 y1 hK eS;generalize yE p.1 out0 (ys.take k)=xk at*;obtain⟨nk,ek⟩:=xE (xk.length)
      rw[ek]at hI V Q ⊢;have bM:=fV ek;clear ek;generalize wr.heap.size=sR at*;go_wp2_with fail;refine(Dr (r:=p.1) (Q.o.lf.below (w':=wc) ⟨rfl,rfl,rfl,lR,λ _ _=>rfl⟩) (V.o.il.below (w':=wc) ⟨rfl,rfl,rfl,lR,λ _ _=>rfl⟩ lR) (by rw[bM.o];omega) hU.o nN.o).mono ?_;rintro e w5 ⟨rfl,Y⟩;have C:Bl wc w5:=⟨Y.os,Y.tape,Y.output,Y.size,Y.block⟩
      have aO:=fV (Q.o.below wF.keeps C);have eN:=fV (V.o.keep (P':=λ g=>w.heap.size<=g/\(ML ao nk co).ownBlock≠some g) C.size (λ j J hj=>⟨C.block j hj,J⟩));have z0:=(C.cell (p:=⟨sR,0,none⟩) hS).trans c0;have z1:=(C.cell (p:=⟨sR,1,none⟩) hS).trans c1;have B1:=C.size;clear Q V c0 c1 Y C
      cases hh:nE xk (p.1,y)with
      | true=>
       have bN:QP (yE p.1 out0 (ys.take (k+1))=xk):=by unfold QP;rw[Z.o,DO hh]
       clear hh z0 z1;go_wp2;go_roundw
       case rel=>exact⟨k+1,bO,by omega,by go_num,by rw[bN.o];exact aO.o⟩
       case measure=>simp[QO];omega
      | false=>
       have bN:QP (yE p.1 out0 (ys.take (k+1))=xk++[(p.1,y)]):=by unfold QP;rw[Z.o,Zz hh]
       have hT:QP (wF w5 (λ g=>w.heap.size<=g/\(ML ao nk co).ownBlock≠some g) [.int .i64 (p.1:Int),.slice ua y.length uc] (p.1,y)):=⟨_,rfl,eN.o⟩
       have hA:=fV aO.o.ro.1;rw[bM.o]at hA;have B2:=aO.o.bl.size;clear hh Z;go_wp2_with (first|(at_builtin;refine gB w5 rfl (.tmp 48) (.tmp 50) 145 rfl w.heap.size 188 (.agg #[.int .i64 0,.slice none 0 0]) 2 32 underlying145 dI rfl (by decide) (by decide) (.slice ao nk co) nk bO.flatten [.int .i64 (p.1:Int),.slice ua y.length uc] _ rfl hA.o _ rfl rfl rfl (by simp[LS]) (by omega) (by omega) ?_;intro g4 cap4 w4 aL X aW hM;have hY:=fV (aO.o.app wF.keeps bM.o hT.o rfl aL X aW);clear aL X aW hM));go_roundw
       case rel=>exact⟨k+1,_,by omega,by go_num,by rw[bN.o];exact hY.o⟩
       case measure=>simp[QO];omega
    ·have hJ:k=M:=by omega
     have dl:=dF k M (by omega)
     have bT:=D.o;rw[hJ,<-eO.o,MO,<-lH.o]at bT;have Q:=fV bT.up;clear bT hJ D;go_wp2;go_roundw
     case rel=>exact⟨i+1,bO,by omega,by go_num,Q.o⟩
     case measure=>simp[QO];omega
  ·have hF:i=n:=by omega
   have cF:=HG.o;rw[hF,<-eR.o,MO]at cF;have gL:=fV cF;have dl:=dF i n (by omega)
   clear hF cF HG F;go_wp2;go_ret;exact⟨_,rfl,gL.o.bl,gL.o.lf⟩
structure II(fb:Nat)(w:tW)(R:List RV)(gR cR:Nat):Prop where
 c1:w.cell? ⟨fb,1,none⟩=some (.slice (some ⟨gR,0,none⟩) R.length cR)
 rl:∀(j:Nat)(x:RV),R[j]?=some x->w.rangeAt gR (j*3) x.cells/\x.g<w.heap.size/\∀i,i<4->w.cell? ⟨x.g,i,none⟩=some (.bool (x.f i))
 b0:fb<w.heap.size
 b1:gR<w.heap.size
theorem II.below{w w':tW}{R:List RV}(h:II fb w R gR cR)(o:Below B w w')(J:w.heap.size<=B):II fb w' R gR cR:=by
 have Q:=o.size;have F:=h.b0;have I:=h.b1;exact⟨(o.cell (p:=⟨fb,1,none⟩) (by show fb<B;omega)).trans h.c1,λ j x D=>by
  obtain⟨a,b,c⟩:=h.rl j x D;exact⟨λ i v C=>(o.cell (p:=⟨gR,j*3+i,none⟩) (by show gR<B;omega)).trans (a i v C),by omega,λ i hi=>(o.cell (p:=⟨x.g,i,none⟩) (by show x.g<B;omega)).trans (c i hi)⟩,by omega,by omega⟩
theorem Uh:∀(R:List RV)(j:Nat)(x:RV)(i:Nat)(v:tV),R[j]?=some x->x.cells[i]?=some v->(BT R)[j*3+i]?=some v
 | [],j,x,i,v,h,_=>by simp at h
 | y::R,0,x,i,v,h,hv=>by
  have e:=sJ h
  subst e;have hi:i<y.cells.length:=(LF.1 hv).1;show(y.cells++BT R)[0*3+i]?=some v;rw[Nat.zero_mul,MB,LJ hi];exact hv
 | y::R,j+1,x,i,v,h,hv=>by
  have:=Uh R j x i v (by simpa using h) hv;show(y.cells++BT R)[(j+1)*3+i]?=some v;have o:y.cells.length=3:=rfl;rw[LP (by omega),o,show(j+1)*3+i-3=j*3+i by omega];exact this
theorem FN.aX{w:tW}{O:Nat->Nat}{L:List NV}{vN vR:tV}{R:List RV}{pl cn:Nat}{N:List RN}{ls:List mR}(h:FN fb w O L vN vR (BT R) R.length pl cn)(F:Sx w O N R ls)(X:0<R.length):∃gR cR,II fb w R gR cR:=by
 have o:=h.rr;rcases iL o with e|⟨g,aJ,e⟩
 ·exfalso;obtain⟨a,c,D⟩:=gA o;rw[e]at D;injection D with _ V _;omega
 ·refine⟨g,aJ,by rw[<-e];exact h.c1,λ j x C=>?_,h.wt.2,(o.lt g (by rw[e];rfl)).2⟩;have I:j<ls.length:=by rw[<-F.1];exact(LF.1 C).1
  obtain⟨⟨_,Q,U⟩,_⟩:=F.2 j x _ C (LD I);refine⟨λ i v J=>?_,Q,U⟩;have:=o.cells (g:=g) (by rw[e];rfl) (j*3+i) v (Uh R j x i v C J);rw[oI,MB]at this;exact this
def rC(bE:Nat):Nat->List RV->List jL
 | _,[]=>[]
 | r,x::R=>(if x.f bE=true then [(r,[x.n])]else [])++rC bE (r+1) R
theorem Fw(bE:Nat)(x:RV):∀(R:List RV)(r:Nat),rC bE r (R++[x])=rC bE r R++(if x.f bE=true then [(r+R.length,[x.n])]else [])
 | [],r=>by simp[rC]
 | y::R,r=>by
  show(if y.f bE=true then [(r,[y.n])]else [])++rC bE (r+1) (R++[x])=((if y.f bE=true then [(r,[y.n])]else [])++rC bE (r+1) R)++_;rw[Fw bE x R (r+1),MJ,MN,show r+1+R.length=r+(R.length+1) by omega]
theorem Vc{R:List RV}{x:RV}(h:R[i]?=some x):rC bE 0 (R.take (i+1))=rC bE 0 (R.take i)++(if x.f bE=true then [(i,[x.n])]else []):=by
 have o:=(LF.1 h).1;rw[MZ,h];have:=Fw bE x (R.take i) 0;rw[NF,OJ (by omega),MB]at this;exact this
theorem Bs(bE:Nat):∀(R:List RV)(r:Nat),(rC bE r R).length<=R.length
 | [],r=>by simp[rC]
 | x::R,r=>by
  have:=Bs bE R (r+1);unfold rC;rw[LI,MN];split
  ·rw[LM];omega
  ·simp only[NZ];omega
theorem Q1{p:jL}:∀{R:List RV}{r:Nat},p∈rC bE r R↔∃(j:Nat)(x:RV),R[j]?=some x/\x.f bE=true/\p=(r+j,[x.n])
 | [],r=>by
  constructor
  ·intro h;exact absurd h ND
  ·rintro⟨j,x,h,_⟩;simp at h
 | y::R,r=>by
  unfold rC;rw[OI,Q1];constructor
  ·rintro(h|⟨j,x,o,C,D⟩)
   ·split at h
    ·rename_i F;exact⟨0,y,rfl,F,by rw[MM.1 h];rfl⟩
    ·exact absurd h ND
   ·exact⟨j+1,x,by simpa using o,C,by rw[D,show r+1+j=r+(j+1) by omega]⟩
  ·rintro⟨j,x,o,C,D⟩
   cases j with
   | zero=>
    have e:=sJ o
    subst e;left;rw[aB C,D];exact MM.2 rfl
   | succ j=>exact .inr ⟨j,x,by simpa using o,C,by rw[D,show r+1+j=r+(j+1) by omega]⟩
theorem Rf{R:List RV}(hc:bE<4)(hR:R.length<=1000){w:tW}(h:II fb w R gR cR):
  QX ME 55 #[.pointer (some ⟨fb,0,none⟩),.int .i64 (bE:Int)] w λ e w'=>∃v',e=.returned v'/\Bl w w'/\Ax w' (λ g=>w.heap.size<=g) v' (rC bE 0 R):=by
 obtain⟨n,en⟩:=xE (R.length)
 have k1:=h.c1;rw[en]at hR k1;have Z:=fV en;have HF:=fV h;have bT:=h.b0;have eL:(0:Int)<=(bE:Int)/\(bE:Int)<(4:Int):=by omega
 clear en h;go_enter func55,ntmps55;go_wp2_with fail
 go_loopw [5,6] (λ y z wr=>∃(i:Nat)(cs:List (List tV)),i<=n/\z=.int .i64 (i:Int)/\GR wF 188 2 w w (.slice none 0 0) wr y (rC bE 0 (R.take i)) cs) (λ _ z _=>n-(QO z).toNat)
 case atStart=>exact⟨0,[],by omega,rfl,GR.start _ _ _ w⟩
 case round=>
  obtain⟨i,cs,hi,rfl,F⟩:=hrel;have J:=fV F;have cP:=F.bl.size;have c1:wr.cell? ⟨fb,1,none⟩=some (.slice (some ⟨gR,0,none⟩) n cR):=(F.bl.cell (p:=⟨fb,1,none⟩) bT).trans k1;have bO:=fV (HF.o.below F.bl lR);by_cases cN:i<n
  ·obtain⟨x,hx⟩:∃x,R[i]?=some x:=⟨R[i]'(by rw[Z.o];exact cN),LD _⟩
   obtain⟨hq,eN,bK⟩:=bO.o.rl i x hx;have y0:wr.cell? ⟨gR,i*3,none⟩=some (.slice (some ⟨x.g,0,none⟩) 4 4):=by have:=hq 0 _ rfl;exact this
   have y2:wr.cell? ⟨gR,i*3+2,none⟩=some (.int .i64 (x.n:Int)):=by have:=hq 2 _ rfl;exact this
   have y4:=bK bE hc;have eM:=iI i n (by omega)
   have D:=fV (Vc (bE:=bE) hx);have Y:=fV (Bs bE (R.take i) 0);clear hq bK hx F
   cases hf:x.f bE with
   | false=>
    rw[hf]at y4 D;have U:QP (rC bE 0 (R.take (i+1))=rC bE 0 (R.take i)):=by unfold QP;rw[D.o,aA (by decide),MT]
    clear hf D;go_wp2;go_roundw
    case rel=>exact⟨i+1,cs,by omega,by go_num,by rw[U.o];exact J.o⟩
    case measure=>simp[QO];omega
   | true=>
    rw[hf]at y4 D;have U:QP (rC bE 0 (R.take (i+1))=rC bE 0 (R.take i)++[(i,[x.n])]):=by unfold QP;rw[D.o,aB rfl]
    have cF:(rC bE 0 (R.take i)).length<=1000:=by have:=Y.o;rw[NF]at this;omega
    clear hf D Y;obtain⟨ao,co,eo⟩:=gA J.o.ro.1;subst eo;have aT:Bl wr (wr.alloc (.cells #[.int .i64 (x.n:Int)] 3)):=bR.alloc lR _;have bM:(wr.alloc (.cells #[.int .i64 (x.n:Int)] 3)).heap.size=wr.heap.size+1:=by simp
    generalize rC bE 0 (R.take i)=xk at*;obtain⟨nk,ek⟩:=xE (xk.length)
    rw[ek]at cF J ⊢;have X:=fV ek;clear ek;have aL:=fV (J.o.below wF.keeps aT);have aR:=fV aL.o.ro.1;rw[X.o]at aR;have bN:QP (wF (wr.alloc (.cells #[.int .i64 (x.n:Int)] 3)) (λ g=>w.heap.size<=g/\(ML ao nk co).ownBlock≠some g) [.int .i64 (i:Int),.slice (some ⟨wr.heap.size,0,none⟩) 1 1] (i,[x.n])):=⟨_,rfl,_,_,rfl,by simp,.inr ⟨wr.heap.size,0,rfl,⟨cP,λ e=>by have:=(J.o.ro.1.lt _ e).2;omega⟩,by omega,λ j m hm=>by
     cases j with
     | zero=>
      have e:x.n=m:=by simpa using hm
      subst e;rw[OB]
      rfl
     | succ j=>simp at hm⟩⟩
    have HZ:=fV bM;clear aT bM J;go_wp2_with (first|(at_builtin;refine gB (wr.alloc (.cells #[.int .i64 (x.n:Int)] 3)) rfl (.tmp 27) (.tmp 39) 145 rfl w.heap.size 188 (.agg #[.int .i64 0,.slice none 0 0]) 2 32 underlying145 dI rfl (by decide) (by decide) (.slice ao nk co) nk cs.flatten [.int .i64 (i:Int),.slice (some ⟨wr.heap.size,0,none⟩) 1 1] _ rfl aR.o (wr.heap.size+1) HZ.o rfl rfl (by simp[LS]) (by omega) (by have:=HZ.o;omega) ?_;intro g4 cap4 w4 I C Q bC;have bS:=fV (aL.o.app wF.keeps X.o bN.o rfl I C Q).up;clear I C Q bC));go_roundw
    case rel=>exact⟨i+1,_,by omega,by go_num,by rw[U.o];exact bS.o⟩
    case measure=>simp[QO];omega
  ·have aW:i=n:=by omega
   have V:=J.o;rw[aW,<-Z.o,MO]at V;have aO:=fV V;have dl:=dF i n (by omega)
   clear aW V J F;go_wp2;go_ret;exact⟨_,rfl,aO.o.bl,aO.o.lf⟩
theorem Ru{N:List RN}{l:List jL}{p:jL}(h:l[i]?=some p):qB N (l.take (i+1))=Fj N (qB N (l.take i)) p:=by
 rw[MZ,h];exact Hj N (l.take i) p
theorem Xv{N:List RN}{l:List jL}{R:Nat}(h:∀x,x∈l->x.1<R): -1<=qB N l/\qB N l<R:=by
 rcases q8 N l with⟨o,_⟩|⟨r,o,⟨p,C,D,_⟩,_⟩
 ·omega
 ·have:=h p C;omega
theorem Mz{L:List NV}(hs:qX (jB L))(hc:gI (jB L))(hL:L.length<=100000){w:tW}{P:Nat->Prop}{v:tV}{ls:List jL}(h:FR fb w L gN aJ)(hv:Ax w P v ls)(hl:ls.length<=1000000)(hb:∀x,x∈ls->x.1<1000/\x.2.length<=1000000/\∀m,m∈x.2->m<L.length):
  QX ME 57 #[.pointer (some ⟨fb,0,none⟩),v] w λ e w'=>e=.returned (.int .i64 (qB (jB L) ls))/\Bl w w':=by
 obtain⟨a,ca,rfl,hv⟩:=hv;obtain⟨n,en⟩:=xE (ls.length)
 rw[en]at hl ⊢;have Y:=fV en;have HV:=fV hv;have bK:=fV hb;have HF:=fV h;have bM:=fV (λ(W:tW) hW (u:tV) (ns:List Nat) (hu:IL W u ns) hn hln=>Xl (fb:=fb) (gN:=gN) (aJ:=aJ) hs hc hL (w:=W) hW (v:=u) (ns:=ns) hu hn hln);clear en hv hb h hs hc hL;go_enter func57,ntmps57;go_wp2_with fail
 go_loopw [5,6] (λ y z wr=>∃(i:Nat)(b:Int),i<=n/\z=.int .i64 (i:Int)/\y=.int .i64 b/\ -1<=b/\b<1000/\QP (b=qB (jB L) (ls.take i))/\Bl w wr) (λ _ z _=>n-(QO z).toNat)
 case atStart=>exact⟨0, -1,by omega,rfl,rfl,by omega,by omega,fV rfl,bR⟩
 case round=>
  obtain⟨i,b,hi,rfl,rfl,Z,aL,HA,J⟩:=hrel;have I:=fV J;have cP:=J.size;by_cases bT:i<n
  ·obtain⟨y,X⟩:∃y,ls[i]?=some y:=⟨ls[i]'(by rw[Y.o];exact bT),LD _⟩
   obtain⟨g,rfl,_,hg,hc⟩:=HV.o.resolve_left (λ e=>by rw[e]at X;simp at X);obtain⟨q,hq,aR⟩:=hc i y X;have aT:w.cell? ⟨g,i*2,none⟩=some (.int .i64 (y.1:Int)):=by have:=hq 0 _ rfl;exact this
   have y2:wr.cell? ⟨g,i*2+1,none⟩=some q:=(J.cell (p:=⟨g,i*2+1,none⟩) hg).trans (by have:=hq 1 _ rfl;exact this);have bN:QP (IL wr q y.2):=aR.il.below J lR;obtain⟨qa,qc,rfl,_,_⟩:=aR;obtain⟨cF,aW,bC⟩:=bK.o y (LK X);have bO:=fV aW;have bS:=fV bC;have cN:=iI i n (by omega)
   have C:QP (qB (jB L) (ls.take (i+1))=Fj (jB L) b y):=by unfold QP;rw[Ru X,HA.o]
   clear hq hc X aW bC J;go_upto_region 6 with fail;refine(bM.o _ (HF.o.below (B:=w.heap.size) ⟨I.o.os,I.o.tape,I.o.output,I.o.size,I.o.block⟩ lR) _ y.2 (bN.o.below ⟨rfl,rfl,rfl,lR,λ _ _=>rfl⟩ lR) bS.o bO.o).mono ?_;rintro e w3 ⟨rfl,F⟩;have U:Bl w w3:=⟨F.os.trans I.o.os,F.tape.trans I.o.tape,F.output.trans I.o.output,MA I.o.size F.size,λ k hk=>(F.block k (LQ hk I.o.size)).trans (I.o.block k hk)⟩
   have Q:=fV U;have y1:w3.cell? ⟨g,i*2,none⟩=some (.int .i64 (y.1:Int)):=(U.cell (p:=⟨g,i*2,none⟩) hg).trans aT;clear F U aT y2
   cases hd:xF (jB L) y.2 with
   | false=>
    have D:QP (b=qB (jB L) (ls.take (i+1))):=by unfold QP;rw[C.o,Fj,hd,aA (by simp)]
    clear hd C;go_wp2;go_roundw
    case rel=>exact⟨i+1,b,by omega,by go_num,rfl,Z,aL,D,Q.o⟩
    case measure=>simp[QO];omega
   | true=>
    by_cases V:b= -1
    ·have D:QP ((y.1:Int)=qB (jB L) (ls.take (i+1))):=by unfold QP;rw[C.o,Fj,hd,aB ⟨rfl,.inl V⟩]
     have d1:(b== -1)=true:=by rw[V];rfl
     clear hd C V;go_wp2;go_roundw
     case rel=>exact⟨i+1,(y.1:Int),by omega,by go_num,rfl,by omega,by omega,D,Q.o⟩
     case measure=>simp[QO];omega
    ·have d1:(b== -1)=false:=by rw[aC];exact V
     by_cases h2:(y.1:Int)<b
     ·have D:QP ((y.1:Int)=qB (jB L) (ls.take (i+1))):=by unfold QP;rw[C.o,Fj,hd,aB ⟨rfl,.inr h2⟩]
      have d2:decide ((y.1:Int)<b)=true:=by simp;omega
      clear hd C V;go_wp2;go_roundw
      case rel=>exact⟨i+1,(y.1:Int),by omega,by go_num,rfl,by omega,by omega,D,Q.o⟩
      case measure=>simp[QO];omega
     ·have D:QP (b=qB (jB L) (ls.take (i+1))):=by unfold QP;rw[C.o,Fj,hd,aA (λ h=>by rcases h.2 with h|h<;>omega)]
      have d2:decide ((y.1:Int)<b)=false:=by simp;omega
      clear hd C V;go_wp2;go_roundw
      case rel=>exact⟨i+1,b,by omega,by go_num,rfl,Z,aL,D,Q.o⟩
      case measure=>simp[QO];omega
  ·have aO:i=n:=by omega
   have HR:QP (b=qB (jB L) ls):=by
    unfold QP;rw[HA.o,aO,<-Y.o,MO]
   have dl:=dF i n (by omega)
   clear aO;go_wp2;go_ret;exact⟨by rw[<-HR.o];rfl,I.o⟩
section
structure GM(gb B:Nat)(w:tW)(O:Nat->Nat)(vL vO vT:tV)(Ls:List (List jL))(Of:List Int)(bF:List (Nat->Int))(cL cO cT:List (List tV)):Prop where
 c0:w.cell? ⟨gb,0,none⟩=some vL
 c1:w.cell? ⟨gb,1,none⟩=some vO
 c2:w.cell? ⟨gb,2,none⟩=some vT
 fz:∀i,w.frozen? ⟨gb,i,none⟩=false
 wt:O gb=1/\gb<w.heap.size/\B<=gb
 rL:sT Aq 145 1 w B (λ g=>O g=0) vL Ls cL
 rO:sT yU 3 1 w B (λ g=>O g=0) vO Of cO
 rT:sT wW 59 1 w B (λ g=>O g=0) vT bF cT
 tL:∀k,vL.ownBlock=some k->O k=2
 tO:∀k,vO.ownBlock=some k->O k=3
 tT:∀k,vT.ownBlock=some k->O k=4
 fr:∀k,w.heap.size<=k->O k=0
section
variable {gb B:Nat}{w w':tW}{O O':Nat->Nat}{vL vO vT:tV}{Ls:List (List jL)}{Of:List Int}{bF:List (Nat->Int)}{cL cO cT:List (List tV)}
theorem GM.keep(h:GM gb B w O vL vO vT Ls Of bF cL cO cT)(I:w.heap.size<=w'.heap.size)(C:∀k,k<w.heap.size->O k≠5->w'.heap[k]?=w.heap[k]? /\O' k=O k)(Q:∀k,w'.heap.size<=k->O' k=0):GM gb B w' O' vL vO vT Ls Of bF cL cO cT:=by
 obtain⟨X,J,b2⟩:=h.wt;obtain⟨D,U⟩:=C gb J (by omega);have F:∀k,O k=0->k<w.heap.size->w'.heap[k]?=w.heap[k]? /\O' k=0:=λ k V o=>by
  obtain⟨a,b⟩:=C k o (by omega);exact⟨a,by omega⟩
 exact⟨(LG (w:=w) (a:=⟨gb,0,none⟩) D).trans h.c0,(LG (w:=w) (a:=⟨gb,1,none⟩) D).trans h.c1,(LG (w:=w) (a:=⟨gb,2,none⟩) D).trans h.c2,λ i=>(LU (w:=w) (a:=⟨gb,i,none⟩) D).trans (h.fz i),⟨by omega,by omega,b2⟩,
  h.rL.keep Aq.keeps I (λ k o=>(C k (h.rL.1.lt k o).2 (by have:=h.tL k o;omega)).1) F,h.rO.keep yU.keeps I (λ k o=>(C k (h.rO.1.lt k o).2 (by have:=h.tO k o;omega)).1) F,h.rT.keep wW.keeps I (λ k o=>(C k (h.rT.1.lt k o).2 (by have:=h.tT k o;omega)).1) F,
  λ k o=>by have:=h.tL k o;have:=(C k (h.rL.1.lt k o).2 (by omega)).2;omega,λ k o=>by have:=h.tO k o;have:=(C k (h.rO.1.lt k o).2 (by omega)).2;omega,λ k o=>by have:=h.tT k o;have:=(C k (h.rT.1.lt k o).2 (by omega)).2;omega,Q⟩
theorem GM.below(h:GM gb B w O vL vO vT Ls Of bF cL cO cT)(o:Bl w w'):GM gb B w' O vL vO vT Ls Of bF cL cO cT:=h.keep o.size (λ k C _=>⟨o.block k C,rfl⟩) (λ k C=>h.fr k (MA o.size C))
theorem GM.pushL(h:GM gb B w O vL vO vT Ls Of bF cL cO cT){w4:tW}{o:Obj}{g aJ n:Nat}{u:List tV}{x:List jL}(hn:Ls.length=n)(hu:Aq w (λ g=>O g=0) u x)(aW:u.length=1)
  (J:w4.ownsRow B 145 1 (.slice (some ⟨g,0,none⟩) (n+1) aJ) (n+1) (cL.flatten++u)) (D:(w.alloc o).grownBy w4 vL.ownBlock) (aL:vL.ownBlock=some g\/g=w.heap.size+1):
  GM gb B (w4.setCell ⟨gb,0,none⟩ (.slice (some ⟨g,0,none⟩) (n+1) aJ)) (λ k=>if k=g then 2 else O k) (.slice (some ⟨g,0,none⟩) (n+1) aJ) vO vT (Ls++[x]) Of bF (cL++[u]) cO cT/\
  (∀k,k<w.heap.size->O k≠1->O k≠2->(w4.setCell ⟨gb,0,none⟩ (.slice (some ⟨g,0,none⟩) (n+1) aJ)).heap[k]?=w.heap[k]? /\(if k=g then 2 else O k)=O k)/\w.heap.size<=w4.heap.size/\∀w0,Below B w0 w->Below B w0 (w4.setCell ⟨gb,0,none⟩ (.slice (some ⟨g,0,none⟩) (n+1) aJ)):=by
 obtain⟨o1,b1,b2⟩:=h.wt;have bK:=D.size;have ez:(w.alloc o).heap.size=w.heap.size+1:=by simp
 have bC:=(J.lt g rfl)
 have bM:(w4.setCell ⟨gb,0,none⟩ (.slice (some ⟨g,0,none⟩) (n+1) aJ)).heap.size=w4.heap.size:=by simp[MC]
 have Y:g<w.heap.size->O g=2:=λ hg=>by
  rcases aL with e|e
  ·exact h.tL g e
  ·omega
 have U:g≠gb:=λ e=>by
  have:=Y (by omega);rw[e]at this;omega
 have F:∀k,k<w.heap.size->O k≠1->O k≠2->(w4.setCell ⟨gb,0,none⟩ (.slice (some ⟨g,0,none⟩) (n+1) aJ)).heap[k]?=w.heap[k]? /\(if k=g then 2 else O k)=O k:=λ k C h1 h2=>by
  have aO:k≠gb:=λ e=>h1 (by rw[e];exact o1)
  have aR:k≠g:=λ e=>h2 (by rw[e];exact Y (by omega))
  exact⟨(iC w4 gb 0 _ aO).trans ((D.block k (by omega) (λ e=>h2 (h.tL k e.symm))).trans (LN w o k C)),aA aR⟩
 have Q:w4.heap[gb]?=w.heap[gb]? :=(D.block gb (by omega) (λ e=>by have:=h.tL gb e.symm;omega)).trans (LN w o gb b1);have hc:∀i,i≠0->(w4.setCell ⟨gb,0,none⟩ (.slice (some ⟨g,0,none⟩) (n+1) aJ)).cell? ⟨gb,i,none⟩=w.cell? ⟨gb,i,none⟩:=λ i hi=>by
  rw[LR (h:=by intro e';injection e';omega)];exact LG (w:=w) (a:=⟨gb,i,none⟩) Q
 have hP:∀k,O k=0->k<w.heap.size->(w4.setCell ⟨gb,0,none⟩ (.slice (some ⟨g,0,none⟩) (n+1) aJ)).heap[k]?=w.heap[k]? /\(if k=g then 2 else O k)=0:=λ k X C=>by
  obtain⟨a,b⟩:=F k C (by omega) (by omega);exact⟨a,by rw[b];exact X⟩
 have Z:=h.rL.app Aq.keeps (P':=λ k=>(if k=g then 2 else O k)=0) hn hu aW J D (λ k X C=>⟨λ e=>by have:=h.tL k e;omega,(hP k X C).2⟩);have V:sT Aq 145 1 (w4.setCell ⟨gb,0,none⟩ (.slice (some ⟨g,0,none⟩) (n+1) aJ)) B (λ k=>(if k=g then 2 else O k)=0) (.slice (some ⟨g,0,none⟩) (n+1) aJ) (Ls++[x]) (cL++[u]):=
  Z.keep Aq.keeps (by omega) (λ k C=>iC w4 gb 0 _ (λ e=>by
   have e2:g=k:=by simpa[LZ]using C
   exact U (by rw[e2];exact e))) (λ k X _=>⟨iC w4 gb 0 _ (λ e=>by
   rw[e,aA (Ne.symm U)]at X;omega),X⟩)
 refine⟨⟨LY _ _ _ ((LG (w:=w) (a:=⟨gb,0,none⟩) Q).trans h.c0),(hc 1 (by omega)).trans h.c1,(hc 2 (by omega)).trans h.c2,λ i=>by rw[MF];exact(LU (w:=w) (a:=⟨gb,i,none⟩) Q).trans (h.fz i),⟨(aA (Ne.symm U)).trans o1,by omega,b2⟩,V,h.rO.keep yU.keeps (by omega) (λ k C=>(F k (h.rO.1.lt k C).2 (by have:=h.tO k C;omega) (by have:=h.tO k C;omega)).1) hP,h.rT.keep wW.keeps (by omega) (λ k C=>(F k (h.rT.1.lt k C).2 (by have:=h.tT k C;omega) (by have:=h.tT k C;omega)).1) hP,λ k C=>by
  have e2:g=k:=by simpa[LZ]using C
  exact aB e2.symm,λ k C=>by
  have h3:=h.tO k C;have h4:=(F k (h.rO.1.lt k C).2 (by omega) (by omega)).2;exact h4.trans h3,λ k C=>by
  have h3:=h.tT k C;have h4:=(F k (h.rT.1.lt k C).2 (by omega) (by omega)).2;exact h4.trans h3,λ k C=>?_⟩,F,by omega,λ w0 I=>?_⟩
 ·have:k≠g:=by omega
  simp only[aA this];exact h.fr k (by omega)
 ·have hs:=(NK B w4).setCell (p:=⟨gb,0,none⟩) b2 (.slice (some ⟨g,0,none⟩) (n+1) aJ);refine⟨hs.os.trans (D.os.trans I.os),hs.tape.trans (D.tape.trans I.tape),hs.output.trans (D.output.trans I.output),by have:=I.size;omega,λ k C=>?_⟩;have h1:=hs.block k C;have aT:k<w.heap.size:=by omega
  exact h1.trans (((D.block k (by omega) (λ e=>by have:=(h.rL.1.lt k e.symm).1;omega)).trans (LN w o k aT)).trans (I.block k C))
theorem GM.pushO(h:GM gb B w O vL vO vT Ls Of bF cL cO cT){w4:tW}{o:Obj}{g aJ n:Nat}{u:List tV}{x:Int}(hn:Of.length=n)(hu:yU w (λ g=>O g=0) u x)(aW:u.length=1)
  (J:w4.ownsRow B 3 1 (.slice (some ⟨g,0,none⟩) (n+1) aJ) (n+1) (cO.flatten++u)) (D:(w.alloc o).grownBy w4 vO.ownBlock) (aL:vO.ownBlock=some g\/g=w.heap.size+1):
  GM gb B (w4.setCell ⟨gb,1,none⟩ (.slice (some ⟨g,0,none⟩) (n+1) aJ)) (λ k=>if k=g then 3 else O k) vL (.slice (some ⟨g,0,none⟩) (n+1) aJ) vT Ls (Of++[x]) bF cL (cO++[u]) cT/\
  (∀k,k<w.heap.size->O k≠1->O k≠3->(w4.setCell ⟨gb,1,none⟩ (.slice (some ⟨g,0,none⟩) (n+1) aJ)).heap[k]?=w.heap[k]? /\(if k=g then 3 else O k)=O k)/\w.heap.size<=w4.heap.size/\∀w0,Below B w0 w->Below B w0 (w4.setCell ⟨gb,1,none⟩ (.slice (some ⟨g,0,none⟩) (n+1) aJ)):=by
 obtain⟨o1,b1,b2⟩:=h.wt;have bK:=D.size;have ez:(w.alloc o).heap.size=w.heap.size+1:=by simp
 have bC:=(J.lt g rfl)
 have bM:(w4.setCell ⟨gb,1,none⟩ (.slice (some ⟨g,0,none⟩) (n+1) aJ)).heap.size=w4.heap.size:=by simp[MC]
 have Y:g<w.heap.size->O g=3:=λ hg=>by
  rcases aL with e|e
  ·exact h.tO g e
  ·omega
 have U:g≠gb:=λ e=>by
  have:=Y (by omega);rw[e]at this;omega
 have F:∀k,k<w.heap.size->O k≠1->O k≠3->(w4.setCell ⟨gb,1,none⟩ (.slice (some ⟨g,0,none⟩) (n+1) aJ)).heap[k]?=w.heap[k]? /\(if k=g then 3 else O k)=O k:=λ k C h1 h2=>by
  have aO:k≠gb:=λ e=>h1 (by rw[e];exact o1)
  have aR:k≠g:=λ e=>h2 (by rw[e];exact Y (by omega))
  exact⟨(iC w4 gb 1 _ aO).trans ((D.block k (by omega) (λ e=>h2 (h.tO k e.symm))).trans (LN w o k C)),aA aR⟩
 have Q:w4.heap[gb]?=w.heap[gb]? :=(D.block gb (by omega) (λ e=>by have:=h.tO gb e.symm;omega)).trans (LN w o gb b1);have hc:∀i,i≠1->(w4.setCell ⟨gb,1,none⟩ (.slice (some ⟨g,0,none⟩) (n+1) aJ)).cell? ⟨gb,i,none⟩=w.cell? ⟨gb,i,none⟩:=λ i hi=>by
  rw[LR (h:=by intro e';injection e';omega)];exact LG (w:=w) (a:=⟨gb,i,none⟩) Q
 have hP:∀k,O k=0->k<w.heap.size->(w4.setCell ⟨gb,1,none⟩ (.slice (some ⟨g,0,none⟩) (n+1) aJ)).heap[k]?=w.heap[k]? /\(if k=g then 3 else O k)=0:=λ k X C=>by
  obtain⟨a,b⟩:=F k C (by omega) (by omega);exact⟨a,by rw[b];exact X⟩
 have Z:=h.rO.app yU.keeps (P':=λ k=>(if k=g then 3 else O k)=0) hn hu aW J D (λ k X C=>⟨λ e=>by have:=h.tO k e;omega,(hP k X C).2⟩);have V:sT yU 3 1 (w4.setCell ⟨gb,1,none⟩ (.slice (some ⟨g,0,none⟩) (n+1) aJ)) B (λ k=>(if k=g then 3 else O k)=0) (.slice (some ⟨g,0,none⟩) (n+1) aJ) (Of++[x]) (cO++[u]):=
  Z.keep yU.keeps (by omega) (λ k C=>iC w4 gb 1 _ (λ e=>by
   have e2:g=k:=by simpa[LZ]using C
   exact U (by rw[e2];exact e))) (λ k X _=>⟨iC w4 gb 1 _ (λ e=>by
   rw[e,aA (Ne.symm U)]at X;omega),X⟩)
 refine⟨⟨(hc 0 (by omega)).trans h.c0,LY _ _ _ ((LG (w:=w) (a:=⟨gb,1,none⟩) Q).trans h.c1),(hc 2 (by omega)).trans h.c2,λ i=>by rw[MF];exact(LU (w:=w) (a:=⟨gb,i,none⟩) Q).trans (h.fz i),⟨(aA (Ne.symm U)).trans o1,by omega,b2⟩,h.rL.keep Aq.keeps (by omega) (λ k C=>(F k (h.rL.1.lt k C).2 (by have:=h.tL k C;omega) (by have:=h.tL k C;omega)).1) hP,V,h.rT.keep wW.keeps (by omega) (λ k C=>(F k (h.rT.1.lt k C).2 (by have:=h.tT k C;omega) (by have:=h.tT k C;omega)).1) hP,λ k C=>by
  have h3:=h.tL k C;have h4:=(F k (h.rL.1.lt k C).2 (by omega) (by omega)).2;exact h4.trans h3,λ k C=>by
  have e2:g=k:=by simpa[LZ]using C
  exact aB e2.symm,λ k C=>by
  have h3:=h.tT k C;have h4:=(F k (h.rT.1.lt k C).2 (by omega) (by omega)).2;exact h4.trans h3,λ k C=>?_⟩,F,by omega,λ w0 I=>?_⟩
 ·have:k≠g:=by omega
  simp only[aA this];exact h.fr k (by omega)
 ·have hs:=(NK B w4).setCell (p:=⟨gb,1,none⟩) b2 (.slice (some ⟨g,0,none⟩) (n+1) aJ);refine⟨hs.os.trans (D.os.trans I.os),hs.tape.trans (D.tape.trans I.tape),hs.output.trans (D.output.trans I.output),by have:=I.size;omega,λ k C=>?_⟩;have h1:=hs.block k C;have aT:k<w.heap.size:=by omega
  exact h1.trans (((D.block k (by omega) (λ e=>by have:=(h.rO.1.lt k e.symm).1;omega)).trans (LN w o k aT)).trans (I.block k C))
theorem GM.pushT(h:GM gb B w O vL vO vT Ls Of bF cL cO cT){w4:tW}{o:Obj}{g aJ n:Nat}{u:List tV}{x:Nat->Int}(hn:bF.length=n)(hu:wW w (λ g=>O g=0) u x)(aW:u.length=1)
  (J:w4.ownsRow B 59 1 (.slice (some ⟨g,0,none⟩) (n+1) aJ) (n+1) (cT.flatten++u)) (D:(w.alloc o).grownBy w4 vT.ownBlock) (aL:vT.ownBlock=some g\/g=w.heap.size+1):
  GM gb B (w4.setCell ⟨gb,2,none⟩ (.slice (some ⟨g,0,none⟩) (n+1) aJ)) (λ k=>if k=g then 4 else O k) vL vO (.slice (some ⟨g,0,none⟩) (n+1) aJ) Ls Of (bF++[x]) cL cO (cT++[u])/\
  (∀k,k<w.heap.size->O k≠1->O k≠4->(w4.setCell ⟨gb,2,none⟩ (.slice (some ⟨g,0,none⟩) (n+1) aJ)).heap[k]?=w.heap[k]? /\(if k=g then 4 else O k)=O k)/\w.heap.size<=w4.heap.size/\∀w0,Below B w0 w->Below B w0 (w4.setCell ⟨gb,2,none⟩ (.slice (some ⟨g,0,none⟩) (n+1) aJ)):=by
 obtain⟨o1,b1,b2⟩:=h.wt;have bK:=D.size;have ez:(w.alloc o).heap.size=w.heap.size+1:=by simp
 have bC:=(J.lt g rfl)
 have bM:(w4.setCell ⟨gb,2,none⟩ (.slice (some ⟨g,0,none⟩) (n+1) aJ)).heap.size=w4.heap.size:=by simp[MC]
 have Y:g<w.heap.size->O g=4:=λ hg=>by
  rcases aL with e|e
  ·exact h.tT g e
  ·omega
 have U:g≠gb:=λ e=>by
  have:=Y (by omega);rw[e]at this;omega
 have F:∀k,k<w.heap.size->O k≠1->O k≠4->(w4.setCell ⟨gb,2,none⟩ (.slice (some ⟨g,0,none⟩) (n+1) aJ)).heap[k]?=w.heap[k]? /\(if k=g then 4 else O k)=O k:=λ k C h1 h2=>by
  have aO:k≠gb:=λ e=>h1 (by rw[e];exact o1)
  have aR:k≠g:=λ e=>h2 (by rw[e];exact Y (by omega))
  exact⟨(iC w4 gb 2 _ aO).trans ((D.block k (by omega) (λ e=>h2 (h.tT k e.symm))).trans (LN w o k C)),aA aR⟩
 have Q:w4.heap[gb]?=w.heap[gb]? :=(D.block gb (by omega) (λ e=>by have:=h.tT gb e.symm;omega)).trans (LN w o gb b1);have hc:∀i,i≠2->(w4.setCell ⟨gb,2,none⟩ (.slice (some ⟨g,0,none⟩) (n+1) aJ)).cell? ⟨gb,i,none⟩=w.cell? ⟨gb,i,none⟩:=λ i hi=>by
  rw[LR (h:=by intro e';injection e';omega)];exact LG (w:=w) (a:=⟨gb,i,none⟩) Q
 have hP:∀k,O k=0->k<w.heap.size->(w4.setCell ⟨gb,2,none⟩ (.slice (some ⟨g,0,none⟩) (n+1) aJ)).heap[k]?=w.heap[k]? /\(if k=g then 4 else O k)=0:=λ k X C=>by
  obtain⟨a,b⟩:=F k C (by omega) (by omega);exact⟨a,by rw[b];exact X⟩
 have Z:=h.rT.app wW.keeps (P':=λ k=>(if k=g then 4 else O k)=0) hn hu aW J D (λ k X C=>⟨λ e=>by have:=h.tT k e;omega,(hP k X C).2⟩);have V:sT wW 59 1 (w4.setCell ⟨gb,2,none⟩ (.slice (some ⟨g,0,none⟩) (n+1) aJ)) B (λ k=>(if k=g then 4 else O k)=0) (.slice (some ⟨g,0,none⟩) (n+1) aJ) (bF++[x]) (cT++[u]):=
  Z.keep wW.keeps (by omega) (λ k C=>iC w4 gb 2 _ (λ e=>by
   have e2:g=k:=by simpa[LZ]using C
   exact U (by rw[e2];exact e))) (λ k X _=>⟨iC w4 gb 2 _ (λ e=>by
   rw[e,aA (Ne.symm U)]at X;omega),X⟩)
 refine⟨⟨(hc 0 (by omega)).trans h.c0,(hc 1 (by omega)).trans h.c1,LY _ _ _ ((LG (w:=w) (a:=⟨gb,2,none⟩) Q).trans h.c2),λ i=>by rw[MF];exact(LU (w:=w) (a:=⟨gb,i,none⟩) Q).trans (h.fz i),⟨(aA (Ne.symm U)).trans o1,by omega,b2⟩,h.rL.keep Aq.keeps (by omega) (λ k C=>(F k (h.rL.1.lt k C).2 (by have:=h.tL k C;omega) (by have:=h.tL k C;omega)).1) hP,h.rO.keep yU.keeps (by omega) (λ k C=>(F k (h.rO.1.lt k C).2 (by have:=h.tO k C;omega) (by have:=h.tO k C;omega)).1) hP,V,λ k C=>by
  have h3:=h.tL k C;have h4:=(F k (h.rL.1.lt k C).2 (by omega) (by omega)).2;exact h4.trans h3,λ k C=>by
  have h3:=h.tO k C;have h4:=(F k (h.rO.1.lt k C).2 (by omega) (by omega)).2;exact h4.trans h3,λ k C=>by
  have e2:g=k:=by simpa[LZ]using C
  exact aB e2.symm,λ k C=>?_⟩,F,by omega,λ w0 I=>?_⟩
 ·have:k≠g:=by omega
  simp only[aA this];exact h.fr k (by omega)
 ·have hs:=(NK B w4).setCell (p:=⟨gb,2,none⟩) b2 (.slice (some ⟨g,0,none⟩) (n+1) aJ);refine⟨hs.os.trans (D.os.trans I.os),hs.tape.trans (D.tape.trans I.tape),hs.output.trans (D.output.trans I.output),by have:=I.size;omega,λ k C=>?_⟩;have h1:=hs.block k C;have aT:k<w.heap.size:=by omega
  exact h1.trans (((D.block k (by omega) (λ e=>by have:=(h.rT.1.lt k e.symm).1;omega)).trans (LN w o k aT)).trans (I.block k C))
structure CR(w:tW)(O:Nat->Nat)(B rb:Nat)(f:Nat->Int)(b:Nat):Prop where
 wt:O rb=5/\rb<w.heap.size/\B<=rb
 c:∀j,j<b->w.cell? ⟨rb,j,none⟩=some (.int .i64 (f j))
 a:∀j,j<256->∃x:Int,w.cell? ⟨rb,j,none⟩=some (.int .i64 x)
 fz:∀i,w.frozen? ⟨rb,i,none⟩=false
theorem CR.keep{f:Nat->Int}(h:CR w O B rb f b)(I:w.heap.size<=w'.heap.size)(o:w'.heap[rb]?=w.heap[rb]? /\O' rb=O rb):CR w' O' B rb f b:=by
 obtain⟨J,F,b2⟩:=h.wt;refine⟨⟨by omega,by omega,b2⟩,λ j C=>(LG (w:=w) (a:=⟨rb,j,none⟩) o.1).trans (h.c j C),λ j C=>?_,λ i=>(LU (w:=w) (a:=⟨rb,i,none⟩) o.1).trans (h.fz i)⟩;obtain⟨x,D⟩:=h.a j C;exact⟨x,(LG (w:=w) (a:=⟨rb,j,none⟩) o.1).trans D⟩
theorem CR.put{f f':Nat->Int}(h:CR w O B rb f b)(I:b<256){t:Int}(Q:f' b=t)(J:∀j,j<b->f' j=f j):CR (w.setCell ⟨rb,b,none⟩ (.int .i64 t)) O B rb f' (b+1):=by
 obtain⟨V,X,b2⟩:=h.wt;have Y:(w.setCell ⟨rb,b,none⟩ (.int .i64 t)).heap.size=w.heap.size:=by simp[MC]
 have C:∀j,j≠b->(w.setCell ⟨rb,b,none⟩ (.int .i64 t)).cell? ⟨rb,j,none⟩=w.cell? ⟨rb,j,none⟩:=λ j o=>LR _ _ _ _ (by intro F;injection F;omega)
 obtain⟨x,U⟩:=h.a b I;have D:(w.setCell ⟨rb,b,none⟩ (.int .i64 t)).cell? ⟨rb,b,none⟩=some (.int .i64 t):=LY _ _ _ U;refine⟨⟨V,by omega,b2⟩,λ j o=>?_,λ j o=>?_,λ i=>by rw[MF];exact h.fz i⟩
 ·by_cases e:j=b
  ·rw[e,D,Q]
  ·rw[C j e,J j (by omega)];exact h.c j (by omega)
 ·by_cases e:j=b
  ·rw[e];exact⟨t,D⟩
  ·rw[C j e];exact h.a j o
theorem GM.set(h:GM gb B w O vL vO vT Ls Of bF cL cO cT){rb:Nat}(D:O rb=5)(j:Nat)(x:tV):GM gb B (w.setCell ⟨rb,j,none⟩ x) O vL vO vT Ls Of bF cL cO cT:=
 h.keep (by simp[MC]) (λ k _ o=>⟨iC w rb j _ (λ e=>o (by rw[e];exact D)),rfl⟩) (λ k C=>h.fr k (by simpa[MC]using C))
theorem GM.done(h:GM gb B w O vL vO vT Ls Of bF cL cO cT){rb:Nat}{f:Nat->Int}(o:CR w O B rb f 256):GM gb B w (λ k=>if k=rb then 0 else O k) vL vO vT Ls Of bF cL cO cT/\wW w (λ g=>(if g=rb then 0 else O g)=0) [.slice (some ⟨rb,0,none⟩) 256 256] f:=by
 obtain⟨I,C,b2⟩:=o.wt;exact⟨h.keep lR (λ k _ D=>⟨rfl,aA (λ e=>D (by rw[e];exact I))⟩) (λ k F=>by
  have:k≠rb:=by omega
  simp only[aA this];exact h.fr k F),rb,rfl,aB rfl,C,o.c⟩
end
end
section
theorem R1{w:tW}{xs:List tV}(o:B<=g)(h:w.heap[g]?=some (.cells xs.toArray T (0,0)))(hn:xs.length=n*z)(C:n<=1000):w.ownsRow B T z (.slice (some ⟨g,0,none⟩) n n) n xs:=
 ⟨hn,.inr ⟨g,n,xs.toArray,rfl,o,h,lR,by unfold QW;omega,by simp[hn],by rw[<-hn];simp⟩⟩
theorem GM.start{w:tW}{C:tV}{l0:List jL}(hB:B<=w.heap.size)(hl:Ax w (λ g=>B<=g) C l0):
  GM (w.heap.size+1+1) B (((w.alloc (.cells #[C] 145)).alloc (.cells #[.int .i64 (-1)] 3)).alloc (.cells #[.slice (some ⟨w.heap.size,0,none⟩) 1 1,.slice (some ⟨w.heap.size+1,0,none⟩) 1 1,.slice none 0 0] 133))
   (λ k=>if k=w.heap.size then 2 else if k=w.heap.size+1 then 3 else if k=w.heap.size+1+1 then 1 else 0) (.slice (some ⟨w.heap.size,0,none⟩) 1 1) (.slice (some ⟨w.heap.size+1,0,none⟩) 1 1) (.slice none 0 0) [l0] [-1] [] [[C]] [[.int .i64 (-1)]] []/\
  Bl w (((w.alloc (.cells #[C] 145)).alloc (.cells #[.int .i64 (-1)] 3)).alloc (.cells #[.slice (some ⟨w.heap.size,0,none⟩) 1 1,.slice (some ⟨w.heap.size+1,0,none⟩) 1 1,.slice none 0 0] 133)):=by
 have z1:(w.alloc (.cells #[C] 145)).heap.size=w.heap.size+1:=by simp
 have Y:((w.alloc (.cells #[C] 145)).alloc (.cells #[.int .i64 (-1)] 3)).heap.size=w.heap.size+1+1:=by simp
 generalize hw1:w.alloc (.cells #[C] 145)=w1 at*;generalize hw2:w1.alloc (.cells #[.int .i64 (-1)] 3)=w2 at*;generalize hw3:w2.alloc (.cells #[.slice (some ⟨w.heap.size,0,none⟩) 1 1,.slice (some ⟨w.heap.size+1,0,none⟩) 1 1,.slice none 0 0] 133)=w3 at*;have z3:w3.heap.size=w.heap.size+1+1+1:=by rw[<-hw3];simp[Y]
 have X:∀k,k<w1.heap.size->w2.heap[k]?=w1.heap[k]? :=λ k o=>by rw[<-hw2];exact LN w1 _ k o
 have I:∀k,k<w2.heap.size->w3.heap[k]?=w2.heap[k]? :=λ k o=>by rw[<-hw3];exact LN w2 _ k o
 have aL:∀k,k<w.heap.size->w1.heap[k]?=w.heap[k]? :=λ k o=>by rw[<-hw1];exact LN w _ k o
 have a1:w3.heap[w.heap.size]?=some (.cells #[C] 145 (0,0)):=by rw[I _ (by omega),X _ (by omega),<-hw1];exact heap_alloc_new w _
 have Z:w3.heap[w.heap.size+1]?=some (.cells #[.int .i64 (-1)] 3 (0,0)):=by rw[I _ (by omega),<-hw2,<-z1];exact heap_alloc_new w1 _
 have V:Bl w w3:=by
  have b1:Bl w w1:=by rw[<-hw1];exact bR.alloc lR _
  have b2:Bl w w2:=by rw[<-hw2];exact b1.alloc (by omega) _
  rw[<-hw3];exact b2.alloc (by omega) _
 have D:∀i,w3.cell? ⟨w.heap.size+1+1,i,none⟩=(#[.slice (some ⟨w.heap.size,0,none⟩) 1 1,.slice (some ⟨w.heap.size+1,0,none⟩) 1 1,.slice none 0 0]:Array tV)[i]? :=λ i=>by rw[<-hw3];exact MH _ _ _ i Y.symm
 refine⟨⟨D 0,D 1,D 2,λ i=>by rw[<-hw3];exact NR _ _ _ i Y.symm,⟨?_,by omega,by omega⟩,⟨R1 hB a1 rfl (by decide),rfl,λ c D=>?_,λ j c x F U=>?_⟩,⟨R1 (xs:= [.int .i64 (-1)]) (by omega) Z rfl (by decide),rfl,λ c D=>?_,λ j c x F U=>?_⟩,sT.start _ _ _,λ k o=>?_,λ k o=>?_,λ k o=>(by cases o),λ k o=>?_⟩,V⟩
 ·rw[aA (by omega),aA (by omega),aB rfl]
 ·rw[MM.1 D];rfl
 ·cases j with
  | zero=>
   have J: [C]=c:=by simpa using F
   have Q:=sJ U
   subst J Q;exact⟨C,rfl,hl.keep V.size (λ k _ o=>⟨V.block k o,by simp only[aA (show k≠w.heap.size by omega),aA (show k≠w.heap.size+1 by omega),aA (show k≠w.heap.size+1+1 by omega)]⟩)⟩
  | succ j=>simp at F
 ·rw[MM.1 D];rfl
 ·cases j with
  | zero=>
   have J: [.int .i64 (-1)]=c:=by simpa using F
   have Q:(-1:Int)=x:=by simpa using U
   subst J Q
   rfl
  | succ j=>simp at F
 ·have e:w.heap.size=k:=by simpa[LZ]using o
  exact aB e.symm
 ·have e:w.heap.size+1=k:=by simpa[LZ]using o
  rw[aA (by omega),aB e.symm]
 ·rw[aA (by omega),aA (by omega),aA (by omega)]
def uB(bF:List (Nat->Int))(To:Nat->Nat->Int)(p:Nat):Prop:=bF.length=p/\∀(i:Nat)(f:Nat->Int),bF[i]?=some f->∀j,j<256->f j=To i j
theorem uB.upd{bF:List (Nat->Int)}{To:Nat->Nat->Int}(h:uB bF To p)(t:Int):uB bF (Av To p b t) p:=⟨h.1,λ i f o j C=>by
 have:=(LF.1 o).1;rw[mP (λ e=>by have:=h.1;omega)];exact h.2 i f o j C⟩
theorem uB.snoc{bF:List (Nat->Int)}{To:Nat->Nat->Int}(h:uB bF To p):uB (bF++[To p]) To (p+1):=by
 refine⟨by rw[LI,LM,h.1],λ i f o j C=>?_⟩;by_cases hi:i<bF.length
 ·rw[LJ hi]at o;exact h.2 i f o j C
 ·have:=(LF.1 o).1;rw[LI,LM]at this;have e:i=bF.length:=by omega
  subst e;rw[LP lR,NC]at o;have e:To p=f:=by simpa using o
  rw[<-e,h.1]
theorem e8{N:List RN}{R:List RV}:∀x,x∈rC bE 0 R->UB N (R.map RV.n) x:=λ x D=>by
 obtain⟨j,y,o,_,C⟩:=Q1.1 D;rw[C,MB];exact⟨y.n,by rw[MQ,o];rfl,.inl rfl⟩
section
variable {N:List RN}{aQ ks:List Nat}{l0:List jL}{Ls:List (List jL)}{Of:List Int}{To:Nat->Nat->Int}{p b:Nat}
theorem GI.ub(D:∀x,x∈l0->UB N aQ x)(h:GI N aQ l0 Ls Of To p b):∀o,o∈Ls->∀x,x∈o->UB N aQ x:=λ o F x C=>by
 obtain⟨i,hi⟩:=MW F;by_cases e:i=0
 ·rw[e,h.z]at hi;injection hi with hi;rw[<-hi]at C;exact D x C
 ·exact((h.ok i o (by omega) hi).2.2 x C).ub
theorem GI.bnds(C:mK N aQ ks)(F:∀x,x∈l0->UB N aQ x)(I:l0.length<=1000)(h:GI N aQ l0 Ls Of To p b):∀o,o∈Ls->o.length<=1000000/\∀x,x∈o->x.2.length<=1000000:=λ o D=>by
 refine⟨?_,λ x J=>by have:=(C.bnd (h.ub F o D x J)).2.1;omega⟩;obtain⟨i,hi⟩:=MW D;by_cases e:i=0
 ·rw[e,h.z]at hi;injection hi with hi;rw[<-hi];omega
 ·obtain⟨_,Q,U⟩:=h.ok i o (by omega) hi;have:=C.few Q U;omega
theorem GI.twin(I:mK N aQ ks){lw:List Nat}(o:G7 N lw)(h:GI N aQ l0 Ls Of To p b)(U:b<256){l:List jL}(J:Ls[p]?=some l){x:Nat}(Q:lw[b]?=some x)(C:x<b):Ar N Ls l b (To p x):=by
 obtain⟨_,_,F⟩:=o b x Q;have D:=h.lead p x l ⟨by omega,.inr ⟨rfl,C⟩⟩ J;unfold Ar at D⊢;rw[<-Hq I.cl F l];exact D
theorem GI.found(h:GI N aQ l0 Ls Of To p b){l:List jL}(D:lI N b l≠ []){i:Nat}{C:List jL}(hi:0<i)(o:Ls[i]?=some C)(F:pO C (lI N b l)=true):Ar N Ls l b (i:Int):=
 .inr ⟨i,C,rfl,hi,o,D,(Ca (h.ok i C hi o).2.1 (Q4 _ _ _)).1 F⟩
end
end
theorem eK:(Tryz.prog.info? 145).map (λ i=>(i.zero,i.size,i.bytes))=some (some (.slice none 0 0),1,24):=by kernel_rfl
def Ht(N:List RN)(aQ:List Nat)(l0:List jL)(B gb:Nat)(w':tW)(Ls:List (List jL))(Of:List Int)(To:Nat->Nat->Int):Prop:=
 GI N aQ l0 Ls Of To Ls.length 0/\∃(O:Nat->Nat)(vL vO vT:tV)(bF:List (Nat->Int)) (cL cO cT:List (List tV)),GM gb B w' O vL vO vT Ls Of bF cL cO cT/\uB bF To Ls.length
theorem Rl{L:List NV}{R:List RV}(hf:mK (jB L) (R.map RV.n) ks)(Hb:bE<4){w:tW}(h:FR fb w L gN aJ)(hr:II fb w R gR cR){v:tV}{lw:List Nat}(hv:IL w v lw)(A1:lw.length=256)(f4:G7 (jB L) lw):
  QX ME 46 #[.pointer (some ⟨fb,0,none⟩),.int .i64 (bE:Int),v] w λ e w'=>∃(gb:Nat)(Ls:List (List jL)) (Of:List Int) (To:Nat->Nat->Int),e=.returned (.pointer (some ⟨gb,0,none⟩))/\Bl w w'/\Ht (jB L) (R.map RV.n) (rC bE 0 R) w.heap.size gb w' Ls Of To:=by
 have hR:R.length<=8:=by have:=hf.r8;rw[MU]at this;exact this
 obtain⟨a,vc,rfl,_,hv⟩:=hv;obtain⟨gl,ol,rfl,j3,e2⟩:=hv.resolve_left (λ e=>by rw[e]at A1;simp at A1);have h6:=fV e2;have Y:=fV hf;have HF:=fV h;have i2:=fV A1;have c3:=fV f4;have b0:=fV (Rf (fb:=fb) (gR:=gR) (cR:=cR) Hb (R:=R) (by omega) hr);have d4:QP (∀x,x∈rC bE 0 R->UB (jB L) (R.map RV.n) x):=e8;have h9:QP ((rC bE 0 R).length<=1000):=by have:=Bs bE R 0;unfold QP;omega
 obtain⟨i0,H2,g3,A3,g6⟩:=QT bY;have HI:QP (Tryz.prog.info? 3=some i0/\i0.zero=some (.int .i64 0)/\i0.size=1/\i0.bytes=8):=⟨H2,g3,A3,g6⟩
 rw[A1];clear H2 g3 A3 g6 hf h hr A1 f4 e2 hv;generalize R.map RV.n=aQ at*;generalize rC bE 0 R=l0 at*;go_enter func46,ntmps46;go_upto_region 2 with fail;refine b0.o.mono ?_;rintro e w1 ⟨v0,rfl,Ha,W0⟩;have a8:=fV Ha;have A3:=Ha.size;have a3:=GM.start A3 W0;obtain⟨va,aU,rfl,_⟩:=W0;have h7:=fV a3.1;have a9:=fV a3.2;clear Ha a3 b0;go_wp2_with fail;generalize ((w1.alloc (.cells #[.slice va l0.length aU] 145)).alloc (.cells #[.int .i64 (-1)] 3)).alloc (.cells #[.slice (some ⟨w1.heap.size,0,none⟩) 1 1,.slice (some ⟨w1.heap.size+1,0,none⟩) 1 1,.slice none 0 0] 133)=W2 at*;have h5:QP (Bl w W2):=mA a8.o a9.o;generalize w1.heap.size+1+1=gb at*;clear a8 a9 A3
 go_loopw [9] (λ z wr=>∃(p:Nat)(Ls:List (List jL)) (Of:List Int) (To:Nat->Nat->Int) (O:Nat->Nat) (vL vO vT:tV) (bF:List (Nat->Int)) (cL cO cT:List (List tV)),z=.int .i64 (p:Int)/\p<=Ls.length/\GI (jB L) aQ l0 Ls Of To p 0/\GM gb w.heap.size wr O vL vO vT Ls Of bF cL cO cT/\uB bF To p/\Bl w wr) (λ z _=>1026-(QO z).toNat)
 case atStart=>exact⟨0,[l0],[-1],λ _ _=>0,_,_,_,_,[],_,_,_,rfl,by simp,GI.start _ _ _ _,h7.o,⟨rfl,λ i f hf=>by simp at hf⟩,h5.o⟩
 case round=>
  obtain⟨p,Ls,Of,To,O,vL,vO,vT,bF,cL,cO,cT,rfl,hp,cF,F,gL,bT⟩:=hrel;have sR:=cF.few Y.o;have W4:0<Ls.length:=(LF.1 cF.z).1;have I:=fV cF;have bS:=fV F;have eM:=fV gL;have U:=fV bT;have a5:=bT.size;have H1:=F.wt.2.1;have c0:=F.c0;obtain⟨aL,qL,eL⟩:=gA F.rL.1;rw[eL]at c0;obtain⟨nL,X2⟩:=xE (Ls.length)
  rw[X2]at c0 sR W4 hp;have B2:=fV X2;clear cF F gL bT X2 eL;by_cases f5:p<nL
  ·have e4:=dT p nL (by omega)
   go_upto_region 7 with(first|(at_make;refine QU wr rfl _ _ 59 rfl wr.heap.size 3 i0 (.int .i64 0) 1 MS HI.o.1 HI.o.2.1 HI.o.2.2.1 .i64 .i64 _ _ 256 rfl rfl rfl rfl (by rw[HI.o.2.2.2];omega) (by unfold QW;omega) lR ?_;intro w3 eN hP))
   have H0:Bl wr w3:=⟨hP.os,hP.tape,hP.output,hP.size,λ k hk=>hP.block k hk (by simp)⟩
   have g8:wr.heap.size<w3.heap.size:=(eN.lt wr.heap.size rfl).2;have J:CR w3 (λ k=>if k=wr.heap.size then 5 else O k) w.heap.size wr.heap.size (To p) 0:=by
    refine⟨⟨aB rfl,g8,a5⟩,λ j hj=>by omega,λ j hj=>⟨0,?_⟩,λ i=>rV eN i⟩;have h1:=eN.cells rfl j (.int .i64 0) (by
     rw[F1,MQ,NM,aB hj];rfl)
    rw[oI,MB]at h1;exact h1
   have S2:GM gb w.heap.size w3 (λ k=>if k=wr.heap.size then 5 else O k) vL vO vT Ls Of bF cL cO cT:=bS.o.keep H0.size (λ k hk _=>⟨H0.block k hk,aA (by omega)⟩) (λ k hk=>by
    have:k≠wr.heap.size:=by omega
    simp only[aA this];exact bS.o.fr k (by omega))
   have N1:=fV S2;have H6:=fV J;have H4:=fV (mA U.o H0);have d2:QP (p<Ls.length):=by unfold QP;rw[B2.o];exact f5
   clear S2 J H0 eN hP bS U c0 e4;generalize wr.heap.size=rb at*;go_wp2_with fail
   go_loopw [11] (λ z a6=>∃(b:Nat)(Ls:List (List jL)) (Of:List Int) (To:Nat->Nat->Int) (O:Nat->Nat) (vL vO vT:tV) (cL cO cT:List (List tV)),z=.int .i64 (b:Int)/\b<=256/\p<Ls.length/\GI (jB L) aQ l0 Ls Of To p b/\GM gb w.heap.size a6 O vL vO vT Ls Of bF cL cO cT/\CR a6 O w.heap.size rb (To p) b/\uB bF To p/\Bl w a6) (λ z _=>256-(QO z).toNat)
   case atStart=>exact⟨0,Ls,Of,To,_,vL,vO,vT,cL,cO,cT,rfl,by omega,d2.o,I.o,N1.o,H6.o,eM.o,H4.o⟩
   case round=>
    clear I N1 H6 H4 d2 eM a5 H1 g8 sR W4 hp f5 B2;obtain⟨b,Ls,Of,To,O,vL,vO,vT,cL,cO,cT,rfl,hb,H3,cF,F,J,gL,bT⟩:=hrel;have sR:=cF.few Y.o;have I:=fV cF;have bS:=fV F;have B1:=fV J;have eM:=fV gL;have U:=fV bT;have a5:=bT.size;have H1:=F.wt.2.1;have j5:=J.wt.2.1;have a2:=J.wt.2.2;have e1:=J.wt.1;by_cases C:b<256
    ·obtain⟨x,hx⟩:∃x,lw[b]?=some x:=⟨lw[b]'(by rw[i2.o];exact C),LD _⟩
     obtain⟨l,hl⟩:∃l,Ls[p]?=some l:=⟨Ls[p]'H3,LD _⟩
     have HL:=fV hl;have y0:wr.cell? ⟨gl,ol+b,none⟩=some (.int .i64 (x:Int)):=(bT.cell (p:=⟨gl,ol+b,none⟩) j3).trans (h6.o b x hx);have m6:=(c3.o b x hx).1;have l4:(0:Int)<=(b:Int)/\(b:Int)<(256:Int):=by omega
     have m5:(0:Int)<=(x:Int)/\(x:Int)<(256:Int):=by omega
     obtain⟨h4,hK⟩:=J.a b C;have fz:=J.fz b;by_cases W3:x<b
     ·have e5:=dT x b (by omega)
      have y1:=J.c x W3;have lH:=fV (I.o.twin Y.o c3.o C hl hx W3);have hC:QP (CR (wr.setCell ⟨rb,b,none⟩ (.int .i64 (To p x))) O w.heap.size rb (Av To p b (To p x) p) (b+1)):=B1.o.put C (qK _ _ _ _) (λ j hj=>mP (λ e=>by omega));have hF:QP (GM gb w.heap.size (wr.setCell ⟨rb,b,none⟩ (.int .i64 (To p x))) O vL vO vT Ls Of bF cL cO cT):=bS.o.set e1 b _;have hB:QP (Bl w (wr.setCell ⟨rb,b,none⟩ (.int .i64 (To p x)))):=U.o.setCell (p:=⟨rb,b,none⟩) a2 _;clear cF F J gL bT hl hx;generalize To p x=tx at*;go_wp2;go_roundw
      case rel=>exact⟨b+1,Ls,Of,Av To p b tx,O,vL,vO,vT,cL,cO,cT,by go_num,by omega,H3,I.o.old C HL.o lH.o,hF.o,hC.o,eM.o.upd _,hB.o⟩
      case measure=>simp[QO];omega
     ·have e5:=dF x b (by omega)
      obtain⟨g2,d5,c,eL,_,l9,⟨q,e3,hq⟩,_,qR⟩:=F.rL.at hl;have c0:=F.c0;rw[eL]at c0;have y2:wr.cell? ⟨g2,p,none⟩=some q:=by have:=qR 0 q (by rw[e3];rfl);rw[NS,MR]at this;exact this
      have HQ:=fV hq;obtain⟨qa,qc,rfl,_⟩:=hq;have m3:(0:Int)<=(p:Int)/\(p:Int)<(Ls.length:Int):=by omega
      have Pl:=LK hl;have c4:=fV (I.o.ub d4.o l Pl);have W7:=fV (I.o.bnds Y.o d4.o h9.o);have i1:=fV (W7.o l Pl).1;have b3:=fV eL;clear cF F J gL bT hl hx qR e3 Pl hK fz;go_upto_region 13 with fail;refine(Xs Y.o b C (HF.o.below (B:=w.heap.size) ⟨U.o.os,U.o.tape,U.o.output,U.o.size,U.o.block⟩ lR) (HQ.o.below (w':=wr) ⟨rfl,rfl,rfl,lR,λ _ _=>rfl⟩) i1.o c4.o).mono ?_;rintro e w4 ⟨vl,rfl,hL,W1⟩;have cN:Bl wr w4:=⟨hL.os,hL.tape,hL.output,hL.size,hL.block⟩
      have hH:=fV (bS.o.below cN);have L1:=fV (B1.o.keep (w':=w4) (O':=O) cN.size ⟨cN.block rb j5,rfl⟩);have H5:=fV (mA U.o cN);have m8:=cN.size;have hW:QP (Ax w4 (λ g=>O g=0) vl (lI (jB L) b l)):=W1.mono (λ k hk _=>bS.o.fr k hk);have iN:=fV (Y.o.step_all c4.o (c:=b));have W5:(lI (jB L) b l).length<=10:=Y.o.few (Q4 _ _ _) iN.o;have E6:QP (∀x,x∈lI (jB L) b l->x.1<1000/\x.2.length<=1000000/\∀m,m∈x.2->m<L.length):=λ x hx=>by
       obtain⟨k1,k2,k3⟩:=Y.o.bnd (iN.o x hx).ub;have:=Y.o.r8;exact⟨by omega,by omega,λ m hm=>by rw[<-lB];exact(k1 m hm).1⟩
      obtain⟨la,lc,j2,_⟩:=W1;subst j2;have e9:gb<w4.heap.size:=by omega
      clear hL cN bS B1 U c0 y0 y2 HQ;go_upto_region 14 with fail;refine(FX (l:=lI (jB L) b l) e9 hH.o.c0 hH.o.rL hW.o (by omega) (by omega) W7.o (by omega) (λ x hx=>(E6.o x hx).2.1)).mono ?_;rintro e w5 ⟨v5,rfl,hM,O5⟩;have bC:Bl w4 w5:=⟨hM.os,hM.tape,hM.output,hM.size,hM.block⟩
      have hI:=fV (hH.o.below bC);have eR:=fV (L1.o.keep (w':=w5) (O':=O) bC.size ⟨bC.block rb (by omega),rfl⟩);have V:=fV (mA H5.o bC);have aW:=fV (hW.o.below bC);have n4:=bC.size;have W6:=fV O5;obtain⟨h4,hK⟩:=eR.o.a b C;have fz:=eR.o.fz b;have hC:QP (∀t:Int,CR (w5.setCell ⟨rb,b,none⟩ (.int .i64 t)) O w.heap.size rb (Av To p b t p) (b+1)):=λ t=>eR.o.put C (qK _ _ _ _) (λ j hj=>mP (λ e=>by omega))
      have hF:QP (∀t:Int,GM gb w.heap.size (w5.setCell ⟨rb,b,none⟩ (.int .i64 t)) O vL vO vT Ls Of bF cL cO cT):=λ t=>hI.o.set e1 b _
      have hB:QP (∀t:Int,Bl w (w5.setCell ⟨rb,b,none⟩ (.int .i64 t))):=λ t=>V.o.setCell (p:=⟨rb,b,none⟩) a2 _
      clear hM bC hH L1 H5 hW O5;by_cases Q:lI (jB L) b l=[]
      ·have lH:QP (Ar (jB L) Ls l b (-1)):= .inl ⟨Q,rfl⟩;have e0:(lI (jB L) b l).length=0:=by rw[Q];rfl
       rw[e0];clear Q e0 W5 E6 iN W6 aW;go_wp2;go_roundw
       case rel=>exact⟨b+1,Ls,Of,Av To p b (-1),O,vL,vO,vT,cL,cO,cT,by go_num,by omega,H3,I.o.old C HL.o lH.o,hF.o _,hC.o _,eM.o.upd _,hB.o _⟩
       case measure=>simp[QO];omega
      ·have j4:0<(lI (jB L) b l).length:=by
        rcases Nat.eq_zero_or_pos (lI (jB L) b l).length with e|e
        ·exact absurd (NY.1 e) Q
        ·exact e
       have k6:=fV Q;have d0:((((lI (jB L) b l).length:Nat):Int)==0)=false:=by rw[aC];omega
       rcases W6.o with⟨rfl,g0⟩|⟨i,l',rfl,H2,f3,e7⟩
       ·have i3:QP (∀(i:Nat)(l':List jL),0<i->Ls[i]?=some l'->¬ ∀x,x∈l'↔x∈lI (jB L) b l):=λ i l' h1 h2 h3=>by
         have:=(Ca (I.o.ok i l' h1 h2).2.1 (Q4 (jB L) b l)).2 h3;rw[g0 i l' h1 h2]at this
         cases this
        have b6:=aW;have c5:=hI.o.c0;have k0:=b3.o;subst k0;clear b3 g0;have c7:=fV (I.o.new C HL.o Q iN.o i3.o);have j0:QP ((lI (jB L) b l).length<=1000000):=by unfold QP;omega
        have l1:gb<w5.heap.size:=by omega
        obtain⟨ns,X4⟩:=xE ((lI (jB L) b l).length)
        rw[X4]at j4 d0 W5 aW ⊢;obtain⟨rr,d6⟩:=xE (qB (jB L) (lI (jB L) b l))
        have d3:=fV d6;have k7:=fV X4;clear Q d6 X4 hK fz hC hF hB;go_upto_region 17 with fail;refine(Mz (fb:=fb) (gN:=gN) (aJ:=aJ) Y.o.sh Y.o.cl (by have:=Y.o.n3;rw[lB]at this;omega) (HF.o.below (B:=w.heap.size) ⟨V.o.os,V.o.tape,V.o.output,V.o.size,V.o.block⟩ lR) (aW.o.below (w':=w5) ⟨rfl,rfl,rfl,lR,λ _ _=>rfl⟩) j0.o E6.o).mono ?_;rintro e w6 ⟨rfl,hN⟩;have bK:Bl w5 w6:=⟨hN.os,hN.tape,hN.output,hN.size,hN.block⟩
        have aR:=fV (hI.o.below bK);have M2:=fV (eR.o.keep (w':=w6) (O':=O) bK.size ⟨bK.block rb (by omega),rfl⟩);have hS:=fV (mA V.o bK);have O0:=fV (aW.o.below bK);have n5:=bK.size;have c6:=aR.o.c0;have f6:=aR.o.fz 0;have l2:=hS.o.size;have O9:gb<w6.heap.size:=by omega
        have hY:=fV aR.o.rL.1;have X0:=fV aR.o.tL;have hD:=fV aR.o.wt.1;have N0:QP (Aq w6 (λ g=>O g=0) [.slice la ns lc] (lI (jB L) b l)):=⟨_,rfl,O0.o⟩
        rw[d3.o];clear hN bK hI eR V aW b6 O0 c5;go_upto_region 18 with(first|(at_builtin;refine gB w6 rfl (.tmp 85) (.tmp 87) 131 rfl w.heap.size 145 (.slice none 0 0) 1 24 underlying131 eK rfl (by decide) (by decide) (.slice (some ⟨g2,0,none⟩) Ls.length d5) Ls.length cL.flatten [.slice la ns lc] _ rfl hY.o _ rfl rfl rfl (by simp[LS]) (by omega) (by omega) ?_;intro g7 hJ w7 A2 Z O6 f9;have m7:=((gH Z (k:=gb) O9 (λ e=>by have:=X0.o gb e.symm;have:=hD.o;omega)).1 0).trans c6;have n7:=((gH Z (k:=gb) O9 (λ e=>by have:=X0.o gb e.symm;have:=hD.o;omega)).2 0).trans f6;have d1:=fV A2;have b4:=fV Z;have a7:=fV O6;clear A2 Z O6))
        obtain⟨S5,T3,k4,O7⟩:=aR.o.pushL rfl N0.o rfl d1.o b4.o a7.o;have X:=fV S5;have f1:=T3 rb (by omega) (by omega) (by omega);have hT:=fV (O7 w hS.o);have k5:(w7.setCell ⟨gb,0,none⟩ (.slice (some ⟨g7,0,none⟩) (Ls.length+1) hJ)).heap.size=w7.heap.size:=by simp[MC]
        have h0:w6.heap.size<=(w7.setCell ⟨gb,0,none⟩ (.slice (some ⟨g7,0,none⟩) (Ls.length+1) hJ)).heap.size:=by omega
        have hG:QP (CR (w7.setCell ⟨gb,0,none⟩ (.slice (some ⟨g7,0,none⟩) (Ls.length+1) hJ)) (λ k=>if k=g7 then 2 else O k) w.heap.size rb (To p) b):=M2.o.keep h0 f1;clear S5 T3 k4 O7 f1 k5 m7 n7 f9 d1 b4 a7 N0 hY X0 aR M2 hS c6 f6 hD;generalize hW8:w7.setCell ⟨gb,0,none⟩ (.slice (some ⟨g7,0,none⟩) (Ls.length+1) hJ)=W8 at*;generalize hO8:(λ k=>if k=g7 then 2 else O k)=O8 at*;clear hW8 hO8;have c8:=X.o.c1;have f8:=X.o.fz 1;obtain⟨aO,qO,eO⟩:=gA X.o.rO.1;subst eO;have P0:gb<W8.heap.size:=by omega
        have l3:=hT.o.size;have O3:=fV X.o.rO.1;have nN:=fV X.o.tO;have hV:=fV X.o.wt.1;have g1:=hG.o.wt.2.1;have k9:=hG.o.wt.1;have m0:Of.length<=2000:=by have:=I.o.len;omega
        go_upto_region 19 with(first|(at_builtin;refine gB W8 rfl (.tmp 95) (.tmp 97) 59 rfl w.heap.size 3 (.int .i64 0) 1 8 MS bY rfl (by decide) (by decide) (.slice aO Of.length qO) Of.length cO.flatten [.int .i64 rr] _ rfl O3.o _ rfl rfl rfl (by simp[LS]) (by omega) (by omega) ?_;intro g9 eS w9 bO D eX A0;have m9:=((gH D (k:=gb) P0 (λ e=>by have:=nN.o gb e.symm;have:=hV.o;omega)).1 1).trans c8;have n9:=((gH D (k:=gb) P0 (λ e=>by have:=nN.o gb e.symm;have:=hV.o;omega)).2 1).trans f8;have hX:=fV bO;have hU:=fV D;have hQ:=fV eX;clear bO D eX))
        obtain⟨bN,sW,g5,bM⟩:=X.o.pushO (x:=rr) rfl (show yU _ _ [.int .i64 rr] rr from rfl) rfl hX.o hU.o hQ.o;have hE:=fV bN;have T2:=sW rb g1 (by omega) (by omega);have hA:=fV (bM w hT.o);have a4:(w9.setCell ⟨gb,1,none⟩ (.slice (some ⟨g9,0,none⟩) (Of.length+1) eS)).heap.size=w9.heap.size:=by simp[MC]
        have cP:QP (CR (w9.setCell ⟨gb,1,none⟩ (.slice (some ⟨g9,0,none⟩) (Of.length+1) eS)) (λ k=>if k=g9 then 3 else O8 k) w.heap.size rb (To p) b):=hG.o.keep (by omega) T2;clear bN sW g5 bM T2 a4 m9 n9 A0 hX hU hQ O3 nN X hG hT c8 f8 hV;generalize hW10:w9.setCell ⟨gb,1,none⟩ (.slice (some ⟨g9,0,none⟩) (Of.length+1) eS)=W10 at*;generalize hO10:(λ k=>if k=g9 then 3 else O8 k)=O10 at*;clear hW10 hO10;obtain⟨h4,hK⟩:=cP.o.a b C;have fz:=cP.o.fz b;have Go:=cP.o.wt.1;have hC:QP (CR (W10.setCell ⟨rb,b,none⟩ (.int .i64 (Ls.length:Int))) O10 w.heap.size rb (Av To p b (Ls.length:Int) p) (b+1)):=cP.o.put C (qK _ _ _ _) (λ j hj=>mP (λ e=>by omega));have hF:=fV (hE.o.set Go b (.int .i64 (Ls.length:Int)));have hB:QP (Bl w (W10.setCell ⟨rb,b,none⟩ (.int .i64 (Ls.length:Int)))):=hA.o.setCell (p:=⟨rb,b,none⟩) a2 _;have W9:=c7.o;rw[d3.o]at W9;have c9:=fV W9;clear W9;go_wp2;go_roundw
        case rel=>exact⟨b+1,_,_,Av To p b (Ls.length:Int),O10,_,_,vT,_,_,cT,by go_num,by omega,by rw[LI,LM];omega,c9.o,hF.o,hC.o,eM.o.upd _,hB.o⟩
        case measure=>simp[QO];omega
       ·have lH:=fV (I.o.found Q H2 f3 e7);generalize (lI (jB L) b l).length=ns at*;clear Q E6 iN W6 aW f3 e7 W7;go_wp2;go_roundw
        case rel=>exact⟨b+1,Ls,Of,Av To p b (i:Int),O,vL,vO,vT,cL,cO,cT,by go_num,by omega,H3,I.o.old C HL.o lH.o,hF.o _,hC.o _,eM.o.upd _,hB.o _⟩
        case measure=>simp[QO];omega
    ·have eb:b=256:=by omega
     subst eb;have e5:decide ((256:Int)<(256:Int))=false:=by decide
     obtain⟨f0,e6⟩:=F.done J;have b5:=fV f0;have b1:=fV e6;have c2:=F.c2;have f2:=F.fz 2;obtain⟨aT,qT,eT⟩:=gA F.rT.1;subst eT;have hY:=fV F.rT.1;have X1:=fV F.tT;have hD:=fV F.wt.1;have m4:bF.length<=2000:=by have:=gL.1;omega
     clear cF F J gL bT f0 e6 bS B1;go_upto_region 5 with(first|(at_builtin;refine gB wr rfl (.tmp 112) (.tmp 114) 66 rfl w.heap.size 59 (.slice none 0 0) 1 24 NB cH rfl (by decide) (by decide) (.slice aT bF.length qT) bF.length cT.flatten [.slice (some ⟨rb,0,none⟩) 256 256] _ rfl hY.o _ rfl rfl rfl (by simp[LS]) (by omega) (by omega) ?_;intro g9 eS w9 bO D eX A0;have m9:=((gH D (k:=gb) H1 (λ e=>by have:=X1.o gb e.symm;have:=hD.o;omega)).1 2).trans c2;have n9:=((gH D (k:=gb) H1 (λ e=>by have:=X1.o gb e.symm;have:=hD.o;omega)).2 2).trans f2;have hX:=fV bO;have hU:=fV D;have hQ:=fV eX;clear bO D eX))
     obtain⟨bN,_,_,bM⟩:=b5.o.pushT rfl b1.o rfl hX.o hU.o hQ.o;have hE:=fV bN;have hA:=fV (bM w U.o);have i4:=fV I.o.aG;have j1:=fV eM.o.snoc;clear bN bM m9 n9 A0 hX hU hQ hY X1 b5 b1 c2 f2 hD;generalize w9.setCell ⟨gb,2,none⟩ (.slice (some ⟨g9,0,none⟩) (bF.length+1) eS)=W10 at*;go_wp2;go_roundw
     case rel=>exact⟨p+1,Ls,Of,To,_,vL,vO,_,_,cL,cO,_,by go_num,by omega,i4.o,hE.o,j1.o,hA.o⟩
     case measure=>simp[QO];omega
  ·have a0:p=nL:=by omega
   have e4:=dF p nL (by omega)
   have h8:QP (GI (jB L) aQ l0 Ls Of To Ls.length 0):=by
    unfold QP;rw[B2.o,<-a0];exact I.o
   have i5:QP (uB bF To Ls.length):=by
    unfold QP;rw[B2.o,<-a0];exact eM.o
   clear a0;go_wp2;go_ret;exact⟨gb,Ls,Of,To,rfl,U.o,h8.o,O,vL,vO,vT,bF,cL,cO,cT,bS.o,i5.o⟩
section
section
variable {n:Nat}{mk:Nat->Nat}{To:Nat->Nat->Int}{al:Nat->Bool}{d:Nat->Nat->Bool}
def I5(mk:Nat->Nat)(To:Nat->Nat->Int)(p:Nat):Prop:=∃z,lF 256 z/\jN mk To p z≠0
theorem Pz(D:b<256)(h:To p b≠ -1)(F:I5 mk To (To p b).toNat):I5 mk To p:=by
 obtain⟨z,o,C⟩:=F;exact⟨b::z,pK D o,by rw[iT h];exact C⟩
theorem y7(h:mk p≠0):I5 mk To p:=⟨[],wM _,h⟩
structure Ap(n:Nat)(mk:Nat->Nat)(To:Nat->Nat->Int)(al:Nat->Bool):Prop where
 sd:∀p,p<n->al p=true->I5 mk To p
 mo:∀p,p<n->mk p≠0->al p=true
 st:∀p b,p<n->b<256->To p b≠ -1->al (To p b).toNat=true->al p=true
theorem Ap.iff(J:oT n 256 To)(h:Ap n mk To al){p:Nat}(C:p<n):al p=true↔I5 mk To p:=by
 refine⟨h.sd p C,?_⟩;rintro⟨z,D,o⟩;have I:∀(z:List Nat)(p:Nat),p<n->lF 256 z->jN mk To p z≠0->al p=true:=by
  intro z
  induction z with
  | nil=>intro p C _ o;exact h.mo p C o
  | cons b z ih=>
   intro p C D o;have F:=D b MV;by_cases e:To p b= -1
   ·rw[lS e]at o;exact absurd rfl o
   ·rw[iT e]at o;have U:=J.rng p b C F;exact h.st p b C F e (ih _ (by omega) (λ c Q=>D c (MY _ Q)) o)
 exact I z p C D o
def mN(al:Nat->Bool)(t:Int):Bool:=decide (0<=t)&&al t.toNat
theorem Gl:mN al t=true↔0<=t/\al t.toNat=true:=by unfold mN;rw[Bool.and_eq_true,aE]
def qS(mk:Nat->Nat)(To:Nat->Nat->Int)(i j:Nat):Prop:=∃z,lF 256 z/\jN mk To i z≠jN mk To j z
theorem qS.symm(h:qS mk To i j):qS mk To j i:=by
 obtain⟨z,o,C⟩:=h;exact⟨z,o,λ e=>C e.symm⟩
theorem yL(h:¬qS mk To i j)(z:List Nat)(C:lF 256 z):jN mk To i z=jN mk To j z:=MD λ o=>h ⟨z,C,o⟩
def oP(al:Nat->Bool)(d:Nat->Nat->Bool)(To:Nat->Nat->Int)(i j b:Nat):Bool:=
 (mN al (To i b) !=mN al (To j b))||(mN al (To i b)&&mN al (To j b)&&d (To i b).toNat (To j b).toNat)
theorem yG(D:oT n 256 To)(h:Ap n mk To al){p b:Nat}(J:p<n)(F:b<256)(I:mN al (To p b)=false)(z:List Nat)(Q:lF 256 z):jN mk To p (b::z)=0:=by
 by_cases e:To p b= -1
 ·rw[lS e]
 ·rw[iT e];have U:=D.rng p b J F;apply MD;intro o;have:al (To p b).toNat=true:=(h.iff D (by omega)).2 ⟨z,Q,o⟩;have C:mN al (To p b)=true:=Gl.2 ⟨by omega,this⟩;rw[I]at C;cases C
theorem oM(C:oT n 256 To){p b:Nat}(I:p<n)(D:b<256)(F:mN al (To p b)=true):(To p b).toNat<n/\To p b≠ -1/\To p b=(((To p b).toNat:Nat):Int)/\al (To p b).toNat=true:=by
 obtain⟨J,o⟩:=Gl.1 F;have Q:=C.rng p b I D;exact⟨by omega,by omega,by omega,o⟩
theorem Sp(F:oT n 256 To)(h:Ap n mk To al){i j b:Nat}(hi:i<n)(Q:j<n)(C:b<256)(Y:∀s t,s<n->t<n->d s t=true->qS mk To s t)(I:oP al d To i j b=true):qS mk To i j:=by
 unfold oP at I
 cases e1:mN al (To i b)with
 | true=>
  obtain⟨U,V,_,Z⟩:=oM F hi C e1
  cases e2:mN al (To j b)with
  | true=>
   obtain⟨m1,m2,_,X⟩:=oM F Q C e2;rw[e1,e2]at I;have J:d (To i b).toNat (To j b).toNat=true:=by simpa using I
   obtain⟨z,D,o⟩:=Y _ _ U m1 J;exact⟨b::z,pK C D,by rw[iT V,iT m2];exact o⟩
  | false=>
   obtain⟨z,D,o⟩:=h.sd _ U Z;exact⟨b::z,pK C D,by rw[iT V,yG F h Q C e2 z D];exact o⟩
 | false=>
  cases e2:mN al (To j b)with
  | true=>
   obtain⟨m1,m2,_,X⟩:=oM F Q C e2;obtain⟨z,D,o⟩:=h.sd _ m1 X;exact⟨b::z,pK C D,by rw[iT m2,yG F h hi C e1 z D];exact λ e=>o e.symm⟩
  | false=>rw[e1,e2]at I;cases I
structure Y5(n:Nat)(mk:Nat->Nat)(To:Nat->Nat->Int)(al:Nat->Bool)(d:Nat->Nat->Bool):Prop where
 sd:∀i j,i<n->j<n->d i j=true->qS mk To i j
 mo:∀i j,i<n->j<n->d i j=false->mk i=mk j
 st:∀i j,i<n->j<n->d i j=false->∀b,b<256->oP al d To i j b=false
theorem Y5.iff(I:oT n 256 To)(V:Ap n mk To al)(h:Y5 n mk To al d){i j:Nat}(hi:i<n)(o:j<n):d i j=true↔qS mk To i j:=by
 refine⟨h.sd i j hi o,?_⟩;rintro⟨z,J,U⟩;have X:∀(z:List Nat)(i j:Nat),i<n->j<n->lF 256 z->d i j=false->jN mk To i z=jN mk To j z:=by
  intro z
  induction z with
  | nil=>intro i j hi o _ Q;exact h.mo i j hi o Q
  | cons b z ih=>
   intro i j hi o J Q;have F:=J b MV;have D:lF 256 z:=λ c Y=>J c (MY _ Y)
   have C:=h.st i j hi o Q b F;unfold oP at C
   cases e1:mN al (To i b)with
   | true=>
    cases e2:mN al (To j b)with
    | true=>
     obtain⟨Z,k2,_,_⟩:=oM I hi F e1;obtain⟨m1,m2,_,_⟩:=oM I o F e2;rw[e1,e2]at C;rw[iT k2,iT m2];exact ih _ _ Z m1 D (by simpa using C)
    | false=>rw[e1,e2]at C;cases C
   | false=>
    cases e2:mN al (To j b)with
    | true=>rw[e1,e2]at C;cases C
    | false=>rw[yG I V hi F e1 z D,yG I V o F e2 z D]
 cases e:d i j with
 | true=>rfl
 | false=>exact absurd (X z i j hi o J e) U
structure TI(al:Nat->Bool)(d:Nat->Nat->Bool)(m:Nat)(bI:Nat->Int)(first:List Nat):Prop where
 fi:∀(s f:Nat),first[s]?=some f->f<m/\(f=0\/al f=true)/\bI f=(s:Int)
 mono:∀(s s' f f':Nat),s<s'->first[s]?=some f->first[s']?=some f'->f<f'/\d f f'=true
 dead:∀p,p<m->0<p->al p=false->bI p= -1
 live:∀p,p<m->(p=0\/al p=true)->∃s f:Nat,bI p=(s:Int)/\first[s]?=some f/\d f p=false/\f<=p
 z:0<m->first[0]?=some 0
theorem TI.start(al:Nat->Bool)(d:Nat->Nat->Bool)(bI:Nat->Int):TI al d 0 bI []:=⟨λ s f h=>by simp at h,λ s o f f' _ h=>by simp at h,λ p h=>by omega,λ p h=>by omega,λ h=>by omega⟩
def Eh(bI:Nat->Int)(m:Nat)(t:Int):Nat->Int:=λ p=>if p=m then t else bI p
section
variable {m:Nat}{bI:Nat->Int}{first:List Nat}
theorem uA(bI:Nat->Int)(m:Nat)(t:Int):Eh bI m t m=t:=aB rfl
theorem oQ(h:p≠m):Eh bI m t p=bI p:=aA h
theorem TI.skip(h:TI al d m bI first)(D:0<m)(I:al m=false):TI al d (m+1) (Eh bI m (-1)) first:=by
 refine⟨λ s f J=>?_,h.mono,λ p Q o F=>?_,λ p Q o=>?_,λ _=>h.z D⟩
 ·obtain⟨a,b,c⟩:=h.fi s f J;exact⟨by omega,b,by rw[oQ (by omega)];exact c⟩
 ·by_cases e:p=m
  ·rw[e,uA]
  ·rw[oQ e];exact h.dead p (by omega) o F
 ·by_cases e:p=m
  ·rw[e]at o;rcases o with o|o
   ·omega
   ·rw[I]at o;cases o
  ·obtain⟨s,f,a,b,c,C⟩:=h.live p (by omega) o;exact⟨s,f,by rw[oQ e];exact a,b,c,C⟩
theorem TI.old(h:TI al d m bI first)(I:0<m)(U:al m=true){s f:Nat}(o:first[s]?=some f)(J:d f m=false):TI al d (m+1) (Eh bI m (s:Int)) first:=by
 have Q:=(h.fi s f o).1;refine⟨λ s f o=>?_,h.mono,λ p V C D=>?_,λ p V C=>?_,λ _=>h.z I⟩
 ·obtain⟨a,b,c⟩:=h.fi s f o;exact⟨by omega,b,by rw[oQ (by omega)];exact c⟩
 ·by_cases e:p=m
  ·rw[e,U]at D;cases D
  ·rw[oQ e];exact h.dead p (by omega) C D
 ·by_cases e:p=m
  ·rw[e];exact⟨s,f,uA _ _ _,o,J,by omega⟩
  ·obtain⟨s,f,a,b,c,F⟩:=h.live p (by omega) C;exact⟨s,f,by rw[oQ e];exact a,b,c,F⟩
theorem TI.new(h:TI al d m bI first)(F:m=0\/al m=true)(hr:d m m=false)(X:∀(s f:Nat),first[s]?=some f->d f m=true):TI al d (m+1) (Eh bI m (first.length:Int)) (first++[m]):=by
 have o:∀(s f:Nat),(first++[m])[s]?=some f->first[s]?=some f\/(s=first.length/\f=m):=λ s f hi=>by
  by_cases V:s<first.length
  ·rw[LJ V]at hi;exact .inl hi
  ·have:=(LF.1 hi).1;rw[LI,LM]at this;have e:s=first.length:=by omega
   subst e;rw[LP lR,NC]at hi;exact .inr ⟨rfl,by simpa using hi.symm⟩
 have C:(first++[m])[first.length]?=some m:=by rw[LP lR,NC];rfl
 refine⟨λ s f U=>?_,λ s s' f f' Z U D=>?_,λ p hp I J=>?_,λ p hp I=>?_,λ _=>?_⟩
 ·rcases o s f U with k|⟨k1,k2⟩
  ·obtain⟨a,b,c⟩:=h.fi s f k;exact⟨by omega,b,by rw[oQ (by omega)];exact c⟩
  ·rw[k1,k2];exact⟨by omega,F,uA _ _ _⟩
 ·have Y:=(LF.1 D).1;rw[LI,LM]at Y;have k:=(o s f U).resolve_right (λ e=>by omega);rcases o s' f' D with k'|⟨k1,k2⟩
  ·exact h.mono s s' f f' Z k k'
  ·rw[k2];exact⟨(h.fi s f k).1,X s f k⟩
 ·by_cases e:p=m
  ·rw[e]at I J;rcases F with F|F
   ·omega
   ·rw[F]at J;cases J
  ·rw[oQ e];exact h.dead p (by omega) I J
 ·by_cases e:p=m
  ·rw[e];exact⟨first.length,m,uA _ _ _,C,hr,lR⟩
  ·obtain⟨s,f,a,b,c,Q⟩:=h.live p (by omega) I;exact⟨s,f,by rw[oQ e];exact a,by rw[LJ (LF.1 b).1];exact b,c,Q⟩
 ·by_cases e:0<m
  ·have hz:=h.z e;rw[LJ (LF.1 hz).1];exact hz
  ·have em:m=0:=by omega
   have Q:first=[]:=by
    cases hfi:first with
    | nil=>rfl
    | cons a l=>
     have:=(h.fi 0 a (by rw[hfi];rfl)).1;omega
   rw[Q,em];rfl
end
def JZ(mk:Nat->Nat)(first:List Nat)(s:Nat):Nat:=mk (first.getD s 0)
def rB(To:Nat->Nat->Int)(al:Nat->Bool)(bI:Nat->Int)(first:List Nat)(s b:Nat):Int:=if mN al (To (first.getD s 0) b)=true then bI (To (first.getD s 0) b).toNat else -1
section
variable {bI:Nat->Int}{first:List Nat}
theorem vQ{f:Nat}(h:first[s]?=some f):first.getD s 0=f:=by rw[LO,h];rfl
theorem TI.obs(U:oT n 256 To)(hl:Ap n mk To al)(hp:Y5 n mk To al d)(h:TI al d n bI first):∀(z:List Nat)(p s:Nat),p<n->(p=0\/al p=true)->bI p=(s:Int)->lF 256 z->jN (JZ mk first) (rB To al bI first) s z=jN mk To p z:=by
 intro z
 induction z with
 | nil=>
  intro p s o hq hs J;obtain⟨C,f,h1,D,Q,_⟩:=h.live p o hq;have e:C=s:=by omega
  subst e;show mk (first.getD C 0)=mk p;rw[vQ D];exact hp.mo f p (h.fi C f D).1 o Q
 | cons b z ih=>
  intro p s o hq hs J;have hb:=J b MV;have I:lF 256 z:=λ c hc=>J c (MY _ hc)
  obtain⟨C,f,h1,D,Q,_⟩:=h.live p o hq;have e:C=s:=by omega
  subst e;have X:=(h.fi C f D).1;have Y:jN mk To f (b::z)=jN mk To p (b::z):=yL (λ V=>by have:=(hp.iff U hl X o).2 V;rw[Q]at this;cases this) _ J;rw[<-Y];have F:rB To al bI first C b=if mN al (To f b)=true then bI (To f b).toNat else -1:=by unfold rB;rw[vQ D]
  cases e1:mN al (To f b)with
  | false=>
   rw[e1,aA (by decide)]at F;rw[lS F,yG U hl X hb e1 z I]
  | true=>
   rw[e1,aB rfl]at F;obtain⟨k1,k2,_,k3⟩:=oM U X hb e1;obtain⟨s2,f2,m1,m2,_,_⟩:=h.live _ k1 (.inr k3);have Z:rB To al bI first C b≠ -1:=by rw[F,m1];omega
   rw[iT Z,iT k2,F,m1,MG];exact ih _ s2 k1 (.inr k3) m1 I
theorem TI.alike(J:oT n 256 To)(Q:Ap n mk To al)(U:Y5 n mk To al d)(h:TI al d n bI first){p q:Nat}(F:p<n)(I:q<n)(h1:p=0\/al p=true)(h2:q=0\/al q=true)(aR:¬qS mk To p q):bI p=bI q:=by
 obtain⟨s,f,a1,X,a3,_⟩:=h.live p F h1;obtain⟨V,f',b1,b2,b3,_⟩:=h.live q I h2;have Y:=(h.fi s f X).1;have C:=(h.fi V f' b2).1;have Z:¬qS mk To f p:=λ o=>by have:=(U.iff J Q Y F).2 o;rw[a3]at this;cases this
 have aL:¬qS mk To f' q:=λ o=>by have:=(U.iff J Q C I).2 o;rw[b3]at this;cases this
 have D:¬qS mk To f f':=by
  rintro⟨z,hz,aO⟩;exact aO (((yL Z z hz).trans (yL aR z hz)).trans (yL aL z hz).symm)
 rcases NQ s V with e|e|e
 ·exact absurd ((U.iff J Q Y C).1 (h.mono s V f f' e X b2).2) D
 ·omega
 ·exact absurd ((U.iff J Q C Y).1 (h.mono V s f' f e b2 X).2).symm D
theorem TI.canon(Y:oT n 256 To)(ho:Fo n 256 To)(hl:Ap n mk To al)(hp:Y5 n mk To al d)(h:TI al d n bI first):uE first.length 256 (JZ mk first) (rB To al bI first):=by
 have hz:=h.z Y.pos;have hB:=(LF.1 hz).1;have aL:∀p,p<n->(p=0\/al p=true)->∃s f:Nat,bI p=(s:Int)/\s<first.length/\first[s]?=some f/\f<=p/\f<n/\¬qS mk To f p:=λ p aT hq=>by
  obtain⟨s,f,a1,a2,a3,a4⟩:=h.live p aT hq;have Z:=(h.fi s f a2).1;exact⟨s,f,a1,(LF.1 a2).1,a2,a4,Z,λ eN=>by have:=(hp.iff Y hl Z aT).2 eN;rw[a3]at this;cases this⟩
 have U:∀s,s<first.length->∃f,first[s]?=some f/\f<n/\(f=0\/al f=true)/\bI f=(s:Int):=λ s hs=>by
  have e:=LD hs;obtain⟨a,b,c⟩:=h.fi s _ e;exact⟨_,e,a,b,c⟩
 have V:∀s C f f',first[s]?=some f->first[C]?=some f'->(f<f'->s<C)/\(f<=f'->s<=C)/\(s<=C->f<=f'):=λ s C f f' F e2=>by
  rcases NQ s C with k|k|k
  ·have:=(h.mono s C f f' k F e2).1;omega
  ·subst k;rw[F]at e2;injection e2 with e2;omega
  ·have:=(h.mono C s f' f k e2 F).1;omega
 have aO:∀p b q:Nat,p<n->b<256->(p=0\/al p=true)->To p b=(q:Int)->al q=true->∀s:Nat,bI p=(s:Int)->rB To al bI first s b=bI q:=λ p b q aT hb hq X bT s hs=>by
  obtain⟨C,f,a1,a2,a3,a4,a5,a6⟩:=aL p aT hq;have e:C=s:=by omega
  subst e;have eL:q<n:=by have:=Y.rng p b aT hb;omega
  have aR:To p b≠ -1:=by omega
  have bC:∀z,lF 256 z->jN mk To f (b::z)=jN mk To q z:=λ z o=>by
   rw[yL a6 _ (pK hb o),iT aR,X,MG]
  obtain⟨z,o,aW⟩:=hl.sd q eL bT;have F:mN al (To f b)=true:=by
   cases F:mN al (To f b)with
   | true=>rfl
   | false=>
    have:=yG Y hl a5 hb F z o;rw[bC z o]at this;exact absurd this aW
  obtain⟨k1,k2,_,k3⟩:=oM Y a5 hb F;unfold rB;rw[vQ a3,aB F];refine h.alike Y hl hp k1 eL (.inr k3) (.inr bT) ?_;rintro⟨z,o,cP⟩;apply cP;rw[<-bC z o,iT k2]
 have eR:oT first.length 256 (rB To al bI first):=⟨hB,λ s b hs hb=>by
  obtain⟨f,e,Z,_,_⟩:=U s hs;unfold rB;rw[vQ e]
  cases F:mN al (To f b)with
  | false=>exact .inl (aA (by decide))
  | true=>
   obtain⟨k1,_,_,k3⟩:=oM Y Z hb F;obtain⟨C,_,a1,a2,_⟩:=aL _ k1 (.inr k3);rw[aB rfl,a1];exact .inr ⟨by omega,by omega⟩⟩
 refine⟨eR,⟨λ s b q hs hb bN hC=>?_,λ q bN hq=>?_⟩,λ s b hs hb aR=>?_,λ s C hs gL aR=>?_⟩
 ·obtain⟨f,e,Z,_,_⟩:=U s hs;have ht:rB To al bI first s b=if mN al (To f b)=true then bI (To f b).toNat else -1:=by unfold rB;rw[vQ e]
  cases F:mN al (To f b)with
  | false=>
   rw[F,aA (by decide)]at ht;omega
  | true=>
   rw[F,aB rfl]at ht;obtain⟨k1,k2,k4,k3⟩:=oM Y Z hb F;obtain⟨s2,f2,a1,a2,a3,a4,a5,_⟩:=aL _ k1 (.inr k3);have eX:q<first.length:=by omega
   obtain⟨fq,eq,cF,bM,bO⟩:=U q eX;have bS:=(h.mono 0 q 0 fq bN hz eq).1;have hE:=(V q s2 fq f2 eq a3).2.2 (by omega);obtain⟨p',b',Q,cN,X⟩:=ho.d1 f b fq Z hb (by omega) (by omega);have D:p'<n:=by omega
   have I:al fq=true:=bM.resolve_left (by omega);have J:p'=0\/al p'=true:= .inr (hl.st p' b' D Q (by omega) (by rw[X,MG];exact I));obtain⟨C,f',c1,c2,c3,c4,c5,_⟩:=aL p' D J;have eS:=aO p' b' fq D Q J X I C c1;refine⟨C,b',Q,?_,by rw[eS];exact bO⟩;rcases cN with k|⟨k,kb⟩
   ·exact .inl ((V C s f' f c3 e).1 (by omega))
   ·rw[k]at c1;have:=(h.fi s f e).2.2;exact .inr ⟨by omega,kb⟩
 ·obtain⟨fq,eq,cF,bM,bO⟩:=U q hq;have bS:=(h.mono 0 q 0 fq bN hz eq).1;have I:al fq=true:=bM.resolve_left (by omega);obtain⟨p',b',hD,Q,X⟩:=ho.d2 fq bS cF;have D:p'<n:=by omega
  have J:p'=0\/al p'=true:= .inr (hl.st p' b' D Q (by omega) (by rw[X,MG];exact I));obtain⟨C,f',c1,c2,c3,c4,c5,_⟩:=aL p' D J;exact⟨C,b',(V C q f' fq c3 eq).1 (by omega),Q,by rw[aO p' b' fq D Q J X I C c1];exact bO⟩
 ·obtain⟨f,e,Z,_,_⟩:=U s hs;have ht:rB To al bI first s b=if mN al (To f b)=true then bI (To f b).toNat else -1:=by unfold rB;rw[vQ e]
  cases F:mN al (To f b)with
  | false=>
   rw[F,aA (by decide)]at ht;exact absurd ht aR
  | true=>
   rw[F,aB rfl]at ht;obtain⟨k1,k2,k4,k3⟩:=oM Y Z hb F;obtain⟨s2,f2,a1,_⟩:=aL _ k1 (.inr k3);obtain⟨z,o,aW⟩:=hl.sd _ k1 k3;refine⟨z,o,?_⟩;rw[ht,a1,MG,h.obs Y hl hp z _ s2 k1 (.inr k3) a1 o];exact aW
 ·obtain⟨f,e,Z,hq,hA⟩:=U s hs;obtain⟨f',e',bK,eT,eM⟩:=U C gL;have eO:qS mk To f f':=by
   rcases Nat.lt_or_gt_of_ne aR with k|k
   ·exact(hp.iff Y hl Z bK).1 (h.mono s C f f' k e e').2
   ·exact((hp.iff Y hl bK Z).1 (h.mono C s f' f k e' e).2).symm
  obtain⟨z,o,aW⟩:=eO;exact⟨z,o,by rw[h.obs Y hl hp z f s Z hq hA o,h.obs Y hl hp z f' C bK eT eM o];exact aW⟩
theorem TI.obs0(o:oT n 256 To)(C:Ap n mk To al)(D:Y5 n mk To al d)(h:TI al d n bI first)(z:List Nat)(F:lF 256 z):jN (JZ mk first) (rB To al bI first) 0 z=jN mk To 0 z:=
 h.obs o C D z 0 0 o.pos (.inl rfl) ((h.fi 0 0 (h.z o.pos)).2.2) F
end
end
end
structure GV(gb:Nat)(w:tW)(n gO qO gT qT:Nat)(rw:Nat->Nat)(of:Nat->Int)(To:Nat->Nat->Int):Prop where
 c1:w.cell? ⟨gb,1,none⟩=some (.slice (some ⟨gO,0,none⟩) n qO)
 c2:w.cell? ⟨gb,2,none⟩=some (.slice (some ⟨gT,0,none⟩) n qT)
 o:∀i,i<n->w.cell? ⟨gO,i,none⟩=some (.int .i64 (of i))
 t:∀i,i<n->w.cell? ⟨gT,i,none⟩=some (.slice (some ⟨rw i,0,none⟩) 256 256)
 r:∀i b,i<n->b<256->w.cell? ⟨rw i,b,none⟩=some (.int .i64 (To i b))
 b0:gb<w.heap.size
 b1:gO<w.heap.size
 b2:gT<w.heap.size
 b3:∀i,i<n->rw i<w.heap.size
theorem GV.below{w w':tW}{rw:Nat->Nat}{F:Nat->Int}{To:Nat->Nat->Int}(h:GV gb w n gO qO gT qT rw F To)(C:Below B w w')(I:w.heap.size<=B):GV gb w' n gO qO gT qT rw F To:=by
 have J:=C.size;have Q:=h.b0;have U:=h.b1;have V:=h.b2;exact⟨(C.cell (p:=⟨gb,1,none⟩) (by show gb<B;omega)).trans h.c1,(C.cell (p:=⟨gb,2,none⟩) (by show gb<B;omega)).trans h.c2,λ i hi=>(C.cell (p:=⟨gO,i,none⟩) (by show gO<B;omega)).trans (h.o i hi),λ i hi=>(C.cell (p:=⟨gT,i,none⟩) (by show gT<B;omega)).trans (h.t i hi),
  λ i b hi D=>(C.cell (p:=⟨rw i,b,none⟩) (by have:=h.b3 i hi;show rw i<B;omega)).trans (h.r i b hi D),by omega,by omega,by omega,λ i hi=>by have:=h.b3 i hi;omega⟩
theorem Ua{Q:Nat->Nat->Prop}(h:∀i,i<n->∃g,Q i g):∃rw:Nat->Nat,∀i,i<n->Q i (rw i):=
 ⟨λ i=>if hi:i<n then Classical.choose (h i hi)else 0,λ i hi=>by
  simp only[dif_pos hi];exact Classical.choose_spec (h i hi)⟩
theorem Ht.view{N:List RN}{l0:List jL}{w:tW}{Ls:List (List jL)}{To:Nat->Nat->Int}(h:Ht N aQ l0 B gb w Ls Of To):∃gO qO gT qT rw,GV gb w Ls.length gO qO gT qT rw (λ i=>Of.getD i 0) To:=by
 obtain⟨Q,O,vL,vO,vT,bF,cL,cO,cT,C,U⟩:=h;have hz:0<Ls.length:=(LF.1 Q.z).1;have hl:=Q.len;have Z:=U.1;obtain⟨gO,qO,_,eO,_,bO,_⟩:=C.rO.at (LD (i:=0) (by omega));obtain⟨gT,qT,_,eT,_,bT,_⟩:=C.rT.at (LD (i:=0) (by omega));have hT:∀i,i<Ls.length->∃g,w.cell? ⟨gT,i,none⟩=some (.slice (some ⟨g,0,none⟩) 256 256)/\g<w.heap.size/\∀b,b<256->w.cell? ⟨g,b,none⟩=some (.int .i64 (To i b)):=λ i hi=>by
  have hg:=LD (l:=bF) (i:=i) (by omega);obtain⟨g2,q2,c,I,_,_,⟨g,J,_,X,Y⟩,_,o⟩:=C.rT.at hg;rw[eT]at I;injection I with D _ _;injection D with D;injection D with D _;subst D;refine⟨g,?_,X,λ b V=>?_⟩
  ·have:=o 0 _ (by rw[J];rfl);rw[NS,MR]at this;exact this
  ·rw[Y b V,U.2 i _ hg b V]
 obtain⟨rw,F⟩:=Ua hT;refine⟨gO,qO,gT,qT,rw,?_,?_,λ i hi=>?_,λ i hi=>(F i hi).1,λ i b hi V=>(F i hi).2.2 b V,C.wt.2.1,bO,bT,λ i hi=>(F i hi).2.1⟩
 ·rw[<-hl,<-eO];exact C.c1
 ·rw[<-Z,<-eT];exact C.c2
 ·have hg:=LD (l:=Of) (i:=i) (by omega);obtain⟨g2,q2,c,I,_,_,J,_,o⟩:=C.rO.at hg;rw[eO]at I;injection I with D _ _;injection D with D;injection D with D _;subst D;have J:c=[.int .i64 _]:=J;have:=o 0 _ (by rw[J];rfl);rw[NS,MR]at this;rw[this,LO,hg]
  rfl
def zR(al:Nat->Bool):Nat->Nat
 | 0=>0
 | n+1=>zR al n+(if al n=true then 0 else 1)
theorem tM{al al':Nat->Bool}:∀n,(∀p,p<n->al p=al' p)->zR al n=zR al' n
 | 0,_=>rfl
 | n+1,h=>by unfold zR;rw[tM n (λ p o=>h p (by omega)),h n (by omega)]
theorem Ij(al:Nat->Bool):∀n,zR al n<=n
 | 0=>lR
 | n+1=>by have:=Ij al n;unfold zR;split<;>omega
theorem Bw{al:Nat->Bool}:∀n,s<n->al s=false->zR (λ i=>if i=s then true else al i) n+1=zR al n
 | 0,h,_=>by omega
 | n+1,h,hs=>by
  unfold zR;by_cases e:s=n
  ·subst e;have:=tM (al:=λ i=>if i=s then true else al i) (al':=al) s (λ p C=>aA (by omega));rw[this,hs];simp
  ·have:=Bw n (by omega) hs;have o:(if n=s then true else al n)=al n:=aA (λ h=>e h.symm);simp only[o];omega
def JC(To:Nat->Nat->Int)(al:Nat->Bool)(p:Nat):Prop:=∀b,b<256->To p b≠ -1->al (To p b).toNat=true->al p=true
structure AI(n:Nat)(mk:Nat->Nat)(To:Nat->Nat->Int)(al:Nat->Bool):Prop where
 sd:∀p,p<n->al p=true->I5 mk To p
 mo:∀p,p<n->mk p≠0->al p=true
theorem AI.put{mk:Nat->Nat}{To:Nat->Nat->Int}{al:Nat->Bool}(h:AI n mk To al){s:Nat}(D:I5 mk To s):AI n mk To (λ i=>if i=s then true else al i):=
 ⟨λ p C o=>by
  by_cases e:p=s
  ·rw[e];exact D
  ·rw[aA e]at o;exact h.sd p C o,λ p C o=>by
  by_cases e:p=s
  ·exact aB e
  ·rw[aA e];exact h.mo p C o⟩
structure A4(n:Nat)(mk:Nat->Nat)(To:Nat->Nat->Int)(al0 al:Nat->Bool)(mb:Bool)(s b:Nat):Prop where
 ai:AI n mk To al
 yes:mb=true->zR al n<zR al0 n
 no:mb=false->(∀p,p<n->al p=al0 p)/\(∀p,p<s->JC To al p)/\∀b',b'<b->To s b'≠ -1->al (To s b').toNat=true->al s=true
def zS(o:Nat->Int)(p:Nat):Nat:=(o p+1).toNat
theorem Re{rw:Nat->Nat}{Y:Nat->Int}{To:Nat->Nat->Int}{w:tW}(h:GV gb w n gO qO gT qT rw Y To)(hn:n<=2000)(eX:∀i,i<n-> -1<=Y i)(eR:oT n 256 To):
  QX ME 47 #[.pointer (some ⟨gb,0,none⟩)] w λ e w'=>∃al,e=.returned (.slice (some ⟨w.heap.size,0,none⟩) n n)/\LV w w' n al/\Ap n (zS Y) To al:=by
 obtain⟨i0,eS,hA,hB,hC⟩:=QT cV;have HI:QP (Tryz.prog.info? 4=some i0/\i0.zero=some (.bool false)/\i0.size=1/\i0.bytes=1):=⟨eS,hA,hB,hC⟩
 have HG:=fV h;have k1:=h.c1;have hN:=h.b0;have hH:=fV eX;have hF:=fV eR;clear eS hA hB hC h eX eR;go_enter func47,ntmps47;go_upto_region 2 with(first|(at_make;refine QU w rfl _ _ 80 rfl w.heap.size 4 i0 (.bool false) 1 underlying80 HI.o.1 HI.o.2.1 HI.o.2.2.1 .i64 .i64 _ n n rfl rfl rfl rfl (by rw[HI.o.2.2.2];omega) (by unfold QW;omega) lR ?_;intro w1 bS hg;have eN:QP (LV w w1 n (λ _=>false)):=⟨⟨hg.os,hg.tape,hg.output,hg.size,λ k hk=>hg.block k hk (by simp)⟩,BA.new bS⟩;clear bS hg))
 clear k1;go_wp2_with fail
 go_loopw [4] (λ z wr=>∃(i:Nat)(al:Nat->Bool),i<=n/\z=.int .i64 (i:Int)/\LV w wr n al/\QP (∀p,p<i->al p=(Y p != -1))) (λ z _=>n-(QO z).toNat)
 case atStart=>exact⟨0,_,by omega,rfl,eN.o,fV (λ p hp=>by omega)⟩
 case round=>
  clear eN;obtain⟨i,al,hi,rfl,Z,HA⟩:=hrel;have HL:=fV Z;have I:=HG.o.below Z.bl lR;have hG:=fV I;by_cases bN:i<n
  ·have c1:=I.c1;have y0:=I.o i bN;have x0:=Z.ba.c i bN;have xf:=Z.ba.f i;have hQ:=iI i n (by omega)
   have HS:=fV (Z.set bN (Y i != -1));have hD:QP (∀p,p<i+1->(if p=i then(Y i != -1)else al p)=(Y p != -1)):=λ p hp=>by
    by_cases e:p=i
    ·rw[aB e,e]
    ·rw[aA e];exact HA.o p (by omega)
   generalize al i=ai at*;generalize Y i=oi at*;clear Z I;go_wp2;go_roundw
   case rel=>exact⟨i+1,_,bN,by go_num,HS.o,hD⟩
   case measure=>simp[QO];omega
  ·have ei:i=n:=by omega
   have dl:=dF i n (by omega)
   have aT:QP (AI n (zS Y) To al):=⟨λ p hp he=>y7 (by
    rw[HA.o p (by omega),aD]at he;have:=hH.o p hp;unfold zS;omega),λ p hp he=>by
    rw[HA.o p (by omega),aD];intro e;unfold zS at he;rw[e]at he;exact he rfl⟩
   clear Z I HA ei hG;go_wp2_with fail
   go_loopg [5] (n+1) (λ gj x hJ=>∃(mb:Bool)(al:Nat->Bool),x=.bool mb/\LV w hJ n al/\AI n (zS Y) To al/\QP (mb=false->∀p,p<n->JC To al p)/\QP (mb=true->zR al n<gj))
   case atStart=>exact⟨true,al,rfl,HL.o,aT.o,fV (λ e=>by cases e),fV (λ _=>by have:=Ij al n;omega)⟩
   case round=>
    clear HL aT;obtain⟨mb,J,rfl,bM,V,bT,cN⟩:=hrel
    cases mb with
    | false=>
     have aW:=fV bM;have hE:QP (Ap n (zS Y) To J):=⟨V.sd,V.mo,λ p b hp hb h1 h2=>bT.o rfl p hp b hb h1 h2⟩
     clear bM V bT cN;go_wp2;go_ret;exact⟨J,rfl,aW.o,hE.o⟩
    | true=>
     have hm:=cN.o rfl;obtain⟨d,rfl⟩:∃d,gk=d+1:=⟨gk-1,by omega⟩
     have aW:=fV bM;have eM:=fV V;clear bM V bT cN;go_wp2_with fail
     go_loopw [5,6] (λ x z hK=>∃(s:Nat)(al:Nat->Bool)(mb:Bool),s<=n/\x=.bool mb/\z=.int .i64 (s:Int)/\LV w hK n al/\A4 n (zS Y) To J al mb s 0) (λ _ z _=>n-(QO z).toNat)
     case atStart=>exact⟨0,J,false,by omega,rfl,rfl,aW.o,eM.o,λ e=>(by cases e),λ _=>⟨λ _ _=>rfl,λ p hp=>by omega,λ b' bK=>by omega⟩⟩
     case round=>
      obtain⟨s,bC,bO,hs,rfl,rfl,eT,eO⟩:=hrel;have cF:=fV eT;have aO:=fV eO;clear eT eO aW eM;by_cases aL:s<n
      ·have hR:=iI s n (by omega)
       go_wp2_with fail
       go_loopw [5,7] (λ x z hL=>∃(b:Nat)(al:Nat->Bool)(mb:Bool),b<=256/\x=.bool mb/\z=.int .i64 (b:Int)/\LV w hL n al/\A4 n (zS Y) To J al mb s b) (λ _ z _=>256-(QO z).toNat)
       case atStart=>exact⟨0,bC,bO,by omega,rfl,rfl,cF.o,aO.o⟩
       case round=>
        obtain⟨b,D,X,hb,rfl,rfl,Q,C⟩:=hrel;have aR:=fV Q;have hM:=fV C;have x0:=Q.ba.c s aL;have xf:=Q.ba.f s;have I:=HG.o.below Q.bl lR;clear cF aO;by_cases cP:b<256
        ·have hP:(0:Int)<=(b:Int)/\(b:Int)<(256:Int):=by omega
         have db:decide ((b:Int)<(256:Int))=true:=by simp;omega
         cases hals:D s with
         | true=>
          rw[hals]at x0;have HN:QP (A4 n (zS Y) To J D X (s+1) 0):=⟨C.ai,C.yes,λ e=>⟨(C.no e).1,λ p hp=>by
           by_cases e2:p=s
           ·subst e2;exact λ _ _ _ _=>hals
           ·exact(C.no e).2.1 p (by omega),λ b' bK=>by omega⟩⟩
          clear Q C I hals;go_wp2;go_roundw
          case rel=>exact⟨s+1,D,X,by omega,rfl,by go_num,aR.o,HN.o⟩
          case measure=>simp[QO];omega
         | false=>
          rw[hals]at x0;have c2:=I.c2;have t0:=I.t s aL;have r0:=I.r s b aL cP;have gL:=hF.o.rng s b aL cP;have U:QP (∀tb:Nat,To s b=(tb:Int)->D tb=true->A4 n (zS Y) To J (λ i=>if i=s then true else D i) true s (b+1)):=λ tb e1 e2=>by
           have eL:tb<n:=by omega
           refine⟨C.ai.put (Pz cP (by omega) (by rw[e1,MG];exact C.ai.sd tb eL e2)),λ _=>?_,λ e=>by cases e⟩;have h1:=Bw (al:=D) n aL hals
           cases X with
           | true=>have:=C.yes rfl;omega
           | false=>rw[tM n (C.no rfl).1]at h1;omega
          have F:QP ((To s b≠ -1->D (To s b).toNat=false)->A4 n (zS Y) To J D X s (b+1)):=λ hh=>⟨C.ai,C.yes,λ e=>⟨(C.no e).1,(C.no e).2.1,λ b' bK h1 h2=>by
           by_cases e2:b'=b
           ·subst e2;rw[hh h1]at h2;cases h2
           ·exact(C.no e).2.2 b' (by omega) h1 h2⟩⟩
          obtain⟨t,et⟩:=xE (To s b)
          rw[et]at r0 gL U F;clear C I hals et;rcases gL with ht|ht
          ·subst ht;have HN:=fV (F.o (λ e=>absurd rfl e));clear U F Q;go_wp2;go_roundw
           case rel=>exact⟨b+1,D,X,by omega,rfl,by go_num,aR.o,HN.o⟩
           case measure=>simp[QO];omega
          ·obtain⟨tb,hI⟩:∃tb:Nat,t=(tb:Int):=⟨t.toNat,by omega⟩
           subst hI;have eL:tb<n:=by omega
           have y0:=Q.ba.c tb eL;have hS:=iI tb n (by omega)
           have dt:decide ((0:Int)<=(tb:Int))=true:=by simp
           clear ht Q
           cases hav:D tb with
           | true=>
            rw[hav]at y0;have HN:=fV (U.o tb rfl hav);have HS:=fV (aR.o.set aL true);clear U F hav;go_wp2;go_roundw
            case rel=>exact⟨b+1,_,true,by omega,rfl,by go_num,HS.o,HN.o⟩
            case measure=>simp[QO];omega
           | false=>
            rw[hav]at y0;have HN:=fV (F.o (λ _=>by rw[MG];exact hav));clear U F hav;go_wp2;go_roundw
            case rel=>exact⟨b+1,D,X,by omega,rfl,by go_num,aR.o,HN.o⟩
            case measure=>simp[QO];omega
        ·have eb:b=256:=by omega
         have db:decide ((b:Int)<(256:Int))=false:=by simp;omega
         have HN:QP (A4 n (zS Y) To J D X (s+1) 0):=⟨C.ai,C.yes,λ e=>⟨(C.no e).1,λ p hp=>by
          by_cases e2:p=s
          ·subst e2;exact λ b' bK=>(C.no e).2.2 b' (by omega)
          ·exact(C.no e).2.1 p (by omega),λ b' bK=>by omega⟩⟩
         generalize D s=asv at*;clear Q C I eb;go_wp2;go_roundw
         case rel=>exact⟨s+1,D,X,by omega,rfl,by go_num,aR.o,HN.o⟩
         case measure=>simp[QO];omega
      ·have es:s=n:=by omega
       have ds:=dF s n (by omega)
       have HC:QP (bO=false->∀p,p<n->JC To bC p):=λ e p hp=>(aO.o.no e).2.1 p (by omega)
       have HM:QP (bO=true->zR bC n<d):=λ e=>by have:=aO.o.yes e;omega
       have aT:=fV aO.o.ai;clear es;go_wp2;go_roundg d
       case measure=>omega
       case rel=>exact⟨bO,bC,rfl,cF.o,aT.o,HC,HM⟩
structure KD(w:tW)(dg n:Nat)(db:Nat->Nat)(d:Nat->Nat->Bool):Prop where
 r:∀i,i<n->w.cell? ⟨dg,i,none⟩=some (.slice (some ⟨db i,0,none⟩) n n)
 c:∀i j,i<n->j<n->w.cell? ⟨db i,j,none⟩=some (.bool (d i j))
 b0:dg<w.heap.size
 b1:∀i,i<n->db i<w.heap.size
theorem KD.below{w w':tW}{o:Nat->Nat}{d:Nat->Nat->Bool}(h:KD w dg n o d)(C:Below B w w')(I:w.heap.size<=B):KD w' dg n o d:=by
 have F:=h.b0;have J:=C.size;exact⟨λ i hi=>(C.cell (p:=⟨dg,i,none⟩) (by show dg<B;omega)).trans (h.r i hi),λ i j hi D=>(C.cell (p:=⟨o i,j,none⟩) (by show o i<B;have:=h.b1 i hi;omega)).trans (h.c i j hi D),by omega,λ i hi=>by have:=h.b1 i hi;omega⟩
section
theorem BA.block{w w':tW}{al:Nat->Bool}(h:BA w ab n al)(o:w'.heap[ab]?=w.heap[ab]?):BA w' ab n al:=
 ⟨λ i hi=>(LG (w:=w) (a:=⟨ab,i,none⟩) o).trans (h.c i hi),λ i=>(LU (w:=w) (a:=⟨ab,i,none⟩) o).trans (h.f i)⟩
structure DB(W w:tW)(dg n:Nat)(db:Nat->Nat)(d:Nat->Nat->Bool):Prop where
 bl:Bl W w
 da:KD w dg n db d
 fz:∀i j,i<n->w.frozen? ⟨db i,j,none⟩=false
 lo:∀i,i<n->W.heap.size<=db i
 ap:∀i,i<n->db i≠dg
 ij:∀i j,i<n->j<n->i≠j->db i≠db j
theorem DB.below{W w w':tW}{o:Nat->Nat}{d:Nat->Nat->Bool}(h:DB W w dg n o d)(C:Bl w w'):DB W w' dg n o d:=
 ⟨h.bl.trans (C.mono h.bl.size),h.da.below C lR,λ i j hi=>(C.frozen (p:=⟨o i,j,none⟩) (h.da.b1 i hi)).trans (h.fz i j hi),h.lo,h.ap,h.ij⟩
theorem DB.set{W w:tW}{C:Nat->Nat}{d:Nat->Nat->Bool}(h:DB W w dg n C d){i j:Nat}(hi:i<n)(U:j<n)(v:Bool):DB W (w.setCell ⟨C i,j,none⟩ (.bool v)) dg n C (λ p q=>if p=i/\q=j then v else d p q):=by
 refine⟨h.bl.setCell (p:=⟨C i,j,none⟩) (h.lo i hi) _,⟨λ p o=>?_,λ p q o J=>?_,by simpa[MC]using h.da.b0,λ p o=>by simpa[MC]using h.da.b1 p o⟩,λ p q o=>by rw[MF];exact h.fz p q o,h.lo,h.ap,h.ij⟩
 ·rw[LR (h:=by intro D;injection D with F;exact h.ap i hi F)];exact h.da.r p o
 ·by_cases e:p=i/\q=j
  ·obtain⟨rfl,rfl⟩:=e;rw[aB ⟨rfl,rfl⟩];exact LY _ _ _ (h.da.c p q o J)
  ·rw[aA e,LR (h:=by
    intro D;injection D with F Q;by_cases I:p=i
    ·subst I;exact e ⟨rfl,Q.symm⟩
    ·exact h.ij p i o hi I F.symm)]
   exact h.da.c p q o J
attribute [local go_sem ↓] Go.wp_at_zero Go.wp_at_succ
end
def DM(al:Nat->Bool)(d:Nat->Nat->Bool)(To:Nat->Nat->Int)(lw:List Nat)(i j:Nat)(r:Bool):Prop:=
 (r=true/\∃b,b<256/\oP al d To i j b=true)\/(r=false/\∀b,b<256->lw[b]?=some b->oP al d To i j b=false)
theorem Rs{db0:Nat}{rw db:Nat->Nat}{of:Nat->Int}{To:Nat->Nat->Int}{al:Nat->Bool}{d:Nat->Nat->Bool}{w:tW}(h:GV gb w n gO qO gT qT rw of To)(bN:oT n 256 To)(bO:BA w ab n al)(eT:ab<w.heap.size)(hd:KD w dg n db d){i j:Nat}(hi:i<n)(hj:j<n){gl ol vc:Nat}{lw:List Nat}(cF:lw.length=256)(gL:gl<w.heap.size)(bS:∀(i m:Nat),lw[i]?=some m->w.cell? ⟨gl,ol+i,none⟩=some (.int .i64 (m:Int)))(bT:∀(b k:Nat),lw[b]?=some k->k<=b):
  QX ME 78 #[.pointer (some ⟨gb,0,none⟩),.slice (some ⟨ab,0,none⟩) n n,.slice (some ⟨dg,0,none⟩) n db0,.int .i64 (i:Int),.int .i64 (j:Int),.slice (some ⟨gl,ol,none⟩) 256 vc] w λ e w'=>∃r,e=.returned (.bool r)/\Bl w w'/\DM al d To lw i j r:=by
 have HG:=fV h;have c2:=h.c2;have ti:=h.t i hi;have tj:=h.t j hj;have bC:=fV bN;have aO:=fV bO;have HD:=fV hd;have cP:=fV bS;have eL:=fV bT;have eM:=fV cF;have hA:=iI i n (by omega)
 have hB:=iI j n (by omega)
 clear h bN bO hd bS bT cF;go_enter func78,ntmps78;go_wp2_with fail
 go_loopw [13] (λ z wr=>∃(b:Nat),b<=256/\z=.int .i64 (b:Int)/\QP (∀J,J<b->lw[J]?=some J->oP al d To i j J=false)/\wr=w) (λ z _=>256-(QO z).toNat)
 case atStart=>exact⟨0,by omega,rfl,fV (λ J aW=>by omega),rfl⟩
 case round=>
  obtain⟨b,hb,rfl,HA,rfl⟩:=hrel;by_cases V:b<256
  ·obtain⟨x,hx⟩:∃x,lw[b]?=some x:=⟨lw[b]'(by rw[eM.o];exact V),LD _⟩
   have y0:=cP.o b x hx;have hC:=eL.o b x hx;have eX:(0:Int)<=(b:Int)/\(b:Int)<(256:Int):=by omega
   have hI:=bC.o.rng i b hi V;have hJ:=bC.o.rng j b hj V;have ri:=HG.o.r i b hi V;have rj:=HG.o.r j b hj V;by_cases eR:x<b
   ·have cN:QP (∀J,J<b+1->lw[J]?=some J->oP al d To i j J=false):=λ J aW h2=>by
     by_cases e:J=b
     ·subst e;rw[hx]at h2;injection h2 with h2;omega
     ·exact HA.o J (by omega) h2
    clear hx;go_wp2;go_roundw
    case rel=>exact⟨b+1,by omega,by go_num,cN,trivial⟩
    case measure=>simp[QO];omega
   ·have C:QP (oP al d To i j b=false->∀J,J<b+1->lw[J]?=some J->oP al d To i j J=false):=λ h1 J aW h2=>by
     by_cases e:J=b
     ·subst e;exact h1
     ·exact HA.o J (by omega) h2
    obtain⟨TB,aR⟩:=xE (oP al d To i j b)
    have X:=aR;unfold oP mN at X;obtain⟨si,bK⟩:=xE (To i b)
    obtain⟨sj,bM⟩:=xE (To j b)
    rw[bK]at hI ri X;rw[bM]at hJ rj X;have U:=fV aR;have Q:=fV X;clear hx bK bM aR X;rcases hI with e1|e1
    ·subst e1;rcases hJ with e2|e2
     ·subst e2;have HF:QP (oP al d To i j b=false):=U.o.trans (Q.o.symm.trans (by simp));have Z:=fV (C.o HF.o);clear Q U C HF;go_wp2;go_roundw
      case rel=>exact⟨b+1,by omega,by go_num,Z,trivial⟩
      case measure=>simp[QO];omega
     ·obtain⟨D,aT⟩:∃t:Nat,sj=(t:Int):=⟨sj.toNat,by omega⟩
      subst aT;have Y:D<n:=by omega
      have eO:=iI D n (by omega)
      have yj:=aO.o.c D Y;have I:QP (oP al d To i j b=al D):=U.o.trans (Q.o.symm.trans (by simp))
      cases hav:al D with
      | true=>
       rw[hav]at yj I;clear Q U C hav;go_wp2;go_ret;exact⟨true,rfl,bR,.inl ⟨rfl,b,V,I.o⟩⟩
      | false=>
       rw[hav]at yj I;have Z:=fV (C.o I.o);clear Q U C hav I;go_wp2;go_roundw
       case rel=>exact⟨b+1,by omega,by go_num,Z,trivial⟩
       case measure=>simp[QO];omega
    ·obtain⟨F,eN⟩:∃t:Nat,si=(t:Int):=⟨si.toNat,by omega⟩
     subst eN;have Y:F<n:=by omega
     have eO:=iI F n (by omega)
     have yi:=aO.o.c F Y;rcases hJ with e2|e2
     ·subst e2;have I:QP (oP al d To i j b=al F):=U.o.trans (Q.o.symm.trans (by simp))
      cases hav:al F with
      | true=>
       rw[hav]at yi I;clear Q U C hav;go_wp2;go_ret;exact⟨true,rfl,bR,.inl ⟨rfl,b,V,I.o⟩⟩
      | false=>
       rw[hav]at yi I;have Z:=fV (C.o I.o);clear Q U C hav I;go_wp2;go_roundw
       case rel=>exact⟨b+1,by omega,by go_num,Z,trivial⟩
       case measure=>simp[QO];omega
     ·obtain⟨D,aT⟩:∃t:Nat,sj=(t:Int):=⟨sj.toNat,by omega⟩
      subst aT;have aL:D<n:=by omega
      have eS:=iI D n (by omega)
      have yj:=aO.o.c D aL;have dr:=HD.o.r F Y;have dc:=HD.o.c F D Y aL;have I:QP (oP al d To i j b=((al F !=al D)||(al F&&al D&&d F D))):=U.o.trans (Q.o.symm.trans (by simp));clear Q U
      cases ha1:al F<;>cases ha2:al D<;>rw[ha1]at yi I<;>rw[ha2]at yj I
      ·have Z:=fV (C.o (I.o.trans rfl));clear C I ha1 ha2 dr dc;go_wp2;go_roundw
       case rel=>exact⟨b+1,by omega,by go_num,Z,trivial⟩
       case measure=>simp[QO];omega
      ·clear C ha1 ha2 dr dc;go_wp2;go_ret;exact⟨true,rfl,bR,.inl ⟨rfl,b,V,I.o.trans rfl⟩⟩
      ·clear C ha1 ha2 dr dc;go_wp2;go_ret;exact⟨true,rfl,bR,.inl ⟨rfl,b,V,I.o.trans rfl⟩⟩
      ·cases hdv:d F D with
       | true=>
        rw[hdv]at dc I;clear C ha1 ha2 hdv;go_wp2;go_ret;exact⟨true,rfl,bR,.inl ⟨rfl,b,V,I.o.trans rfl⟩⟩
       | false=>
        rw[hdv]at dc I;have Z:=fV (C.o (I.o.trans rfl));clear C I ha1 ha2 hdv;go_wp2;go_roundw
        case rel=>exact⟨b+1,by omega,by go_num,Z,trivial⟩
        case measure=>simp[QO];omega
  ·have eb:b=256:=by omega
   have db:decide ((b:Int)<(256:Int))=false:=by simp;omega
   clear eb;go_wp2;go_ret;exact⟨false,rfl,bR,.inr ⟨rfl,λ J aW h2=>HA.o J (by omega) h2⟩⟩
structure PD(W w:tW)(dg m n:Nat)(db:Nat->Nat)(d:Nat->Nat->Bool):Prop where
 bl:Bl W w
 lo0:W.heap.size<=dg/\dg<w.heap.size
 r:∀i,i<m->w.cell? ⟨dg,i,none⟩=some (.slice (some ⟨db i,0,none⟩) n n)
 a:∀i,i<n->∃v,w.cell? ⟨dg,i,none⟩=some v
 fz0:∀i,w.frozen? ⟨dg,i,none⟩=false
 c:∀i,i<m->BA w (db i) n (d i)
 lo:∀i,i<m->W.heap.size<=db i/\db i<w.heap.size
 ap:∀i,i<m->db i≠dg
 ij:∀i j,i<m->j<m->i≠j->db i≠db j
theorem PD.start{W w:tW}(D:Bl W w)(I:W.heap.size<w.heap.size)(C:∀i,i<n->∃v,w.cell? ⟨W.heap.size,i,none⟩=some v)(F:∀i,w.frozen? ⟨W.heap.size,i,none⟩=false)(o:Nat->Nat)(d:Nat->Nat->Bool):PD W w W.heap.size 0 n o d:=
 ⟨D,⟨lR,I⟩,λ i h=>by omega,C,F,λ i h=>by omega,λ i h=>by omega,λ i h=>by omega,λ i j h=>by omega⟩
theorem PD.row{W w w1:tW}{V:Nat->Nat}{d:Nat->Nat->Bool}(h:PD W w dg m n V d)(Z:m<n)(hg:w.grownBy w1 none)(U:BA w1 w.heap.size n (λ _=>false))(hz:w.heap.size<w1.heap.size):
  PD W (w1.setCell ⟨dg,m,none⟩ (.slice (some ⟨w.heap.size,0,none⟩) n n)) dg (m+1) n (λ i=>if i=m then w.heap.size else V i) (λ i=>if i=m then(λ _=>false)else d i):=by
 have o:Bl w w1:=⟨hg.os,hg.tape,hg.output,hg.size,λ k F=>hg.block k F (by simp)⟩
 have hW:=h.bl.size;obtain⟨X,I⟩:=h.lo0;have aL:(w1.setCell ⟨dg,m,none⟩ (.slice (some ⟨w.heap.size,0,none⟩) n n)).heap.size=w1.heap.size:=by simp[MC]
 have F:∀k,k≠dg->(w1.setCell ⟨dg,m,none⟩ (.slice (some ⟨w.heap.size,0,none⟩) n n)).heap[k]?=w1.heap[k]? :=λ k C=>iC w1 dg m _ C
 obtain⟨v,hv⟩:=h.a m Z;have D:=(o.cell (p:=⟨dg,m,none⟩) I).trans hv;refine⟨(mA h.bl o).setCell (p:=⟨dg,m,none⟩) X _,⟨X,by omega⟩,λ i hi=>?_,λ i hi=>?_,λ i=>by rw[MF];exact(o.frozen (p:=⟨dg,i,none⟩) I).trans (h.fz0 i),λ i hi=>?_,λ i hi=>?_,λ i hi=>?_,λ i j hi hj C=>?_⟩
 ·by_cases e:i=m
  ·subst e;simp only[if_true];exact LY _ _ _ D
  ·simp only[aA e];rw[LR (h:=by intro J;injection J;omega)];exact(o.cell (p:=⟨dg,i,none⟩) I).trans (h.r i (by omega))
 ·by_cases e:i=m
  ·subst e;exact⟨_,LY _ _ _ D⟩
  ·obtain⟨x,hx⟩:=h.a i hi;exact⟨x,by rw[LR (h:=by intro J;injection J;omega)];exact(o.cell (p:=⟨dg,i,none⟩) I).trans hx⟩
 ·by_cases e:i=m
  ·subst e;simp only[if_true];exact U.block (F _ (by omega))
  ·simp only[aA e];have Y:=h.lo i (by omega);exact(h.c i (by omega)).block ((F _ (h.ap i (by omega))).trans (o.block _ Y.2))
 ·by_cases e:i=m
  ·simp only[e,if_true];omega
  ·simp only[aA e];have:=h.lo i (by omega);omega
 ·by_cases e:i=m
  ·simp only[e,if_true];omega
  ·simp only[aA e];exact h.ap i (by omega)
 ·by_cases e:i=m<;>by_cases Q:j=m
  ·omega
  ·simp only[e,if_true,aA Q];have:=h.lo j (by omega);omega
  ·simp only[Q,if_true,aA e];have:=h.lo i (by omega);omega
  ·simp only[aA e,aA Q];exact h.ij i j (by omega) (by omega) C
theorem PD.set{W w:tW}{C:Nat->Nat}{d:Nat->Nat->Bool}(h:PD W w dg m n C d){i j:Nat}(hi:i<m)(U:j<n)(v:Bool):PD W (w.setCell ⟨C i,j,none⟩ (.bool v)) dg m n C (λ p q=>if p=i/\q=j then v else d p q):=by
 have Y:(w.setCell ⟨C i,j,none⟩ (.bool v)).heap.size=w.heap.size:=by simp[MC]
 have J:∀k,k≠C i->(w.setCell ⟨C i,j,none⟩ (.bool v)).heap[k]?=w.heap[k]? :=λ k F=>iC w (C i) j _ F
 have D:=J dg (Ne.symm (h.ap i hi));refine⟨h.bl.setCell (p:=⟨C i,j,none⟩) (h.lo i hi).1 _,⟨h.lo0.1,by have:=h.lo0.2;omega⟩,λ p o=>(LG (w:=w) (a:=⟨dg,p,none⟩) D).trans (h.r p o),λ p o=>?_,λ p=>(LU (w:=w) (a:=⟨dg,p,none⟩) D).trans (h.fz0 p),λ p o=>?_,λ p o=>by have:=h.lo p o;omega,h.ap,h.ij⟩
 ·obtain⟨x,X⟩:=h.a p o;exact⟨x,(LG (w:=w) (a:=⟨dg,p,none⟩) D).trans X⟩
 ·by_cases e:p=i
  ·subst e;have:=(h.c p o).set U v;refine⟨λ q V=>?_,this.f⟩;rw[this.c q V];by_cases I:q=j
   ·simp[I]
   ·simp[I]
  ·have Q:(λ q=>if p=i/\q=j then v else d p q)=d p:=by funext q;rw[aA (λ h=>e h.1)]
   rw[Q];exact(h.c p o).block (J _ (h.ij p i o hi e))
theorem PD.done{W w:tW}{o:Nat->Nat}{d:Nat->Nat->Bool}(h:PD W w dg n n o d):DB W w dg n o d:=
 ⟨h.bl,⟨h.r,λ i j hi C=>(h.c i hi).c j C,h.lo0.2,λ i hi=>(h.lo i hi).2⟩,λ i j hi=>(h.c i hi).f j,λ i hi=>(h.lo i hi).1,h.ap,h.ij⟩
def xW(d:Nat->Nat->Bool):Nat->Nat
 | 0=>0
 | n+1=>xW d n+zR (d n) n
theorem Bx{d o:Nat->Nat->Bool}:∀n,(∀i j,i<n->j<i->d i j=o i j)->xW d n=xW o n
 | 0,_=>rfl
 | n+1,h=>by unfold xW;rw[Bx n (λ i j hi C=>h i j (by omega) C),tM n (λ p D=>h n p (by omega) D)]
theorem Tf(d:Nat->Nat->Bool):∀n,xW d n<=n*n
 | 0=>lR
 | n+1=>by
  have o:=Tf d n;have C:=Ij (d n) n;unfold xW;rw[Nat.add_mul,Nat.mul_add];omega
def rH(d:Nat->Nat->Bool)(i j:Nat):Nat->Nat->Bool:=λ p q=>if p=j/\q=i then true else if p=i/\q=j then true else d p q
theorem Kx{d:Nat->Nat->Bool}(I:j<i)(F:d i j=false):∀n,i<n->xW (rH d i j) n+1=xW d n
 | 0,h=>by omega
 | n+1,h=>by
  unfold xW;by_cases e:i=n
  ·subst e;have D:xW (rH d i j) i=xW d i:=Bx i (λ p q U J=>by
    unfold rH;rw[aA (λ e=>by omega),aA (λ e=>by omega)])
   have C:zR (rH d i j i) i=zR (λ q=>if q=j then true else d i q) i:=tM i (λ q J=>by
    unfold rH;by_cases e:q=j
    ·simp[e]
    ·rw[aA (λ o=>by omega),aA (λ o=>e o.2),aA e])
   have Q:=Bw (al:=d i) i I F;rw[D,C];omega
  ·have D:=Kx I F n (by omega);have C:zR (rH d i j n) n=zR (d n) n:=tM n (λ q J=>by
    unfold rH;rw[aA (λ o=>by omega),aA (λ o=>by omega)])
   rw[C];omega
structure Zd(n:Nat)(of:Nat->Int)(To:Nat->Nat->Int)(d:Nat->Nat->Bool):Prop where
 sd:∀i j,i<n->j<n->d i j=true->qS (zS of) To i j
 mo:∀i j,i<n->j<n->d i j=false->of i=of j
 sy:∀i j,i<n->j<n->d i j=d j i
 di:∀i,i<n->d i i=false
theorem Zd.start{C:Nat->Int}{To:Nat->Nat->Int}{d:Nat->Nat->Bool}(F:∀i,i<n-> -1<=C i)(h:∀i j,i<n->j<n->d i j=(C i !=C j)):Zd n C To d:=by
 refine⟨λ i j hi o D=>⟨[],wM _,λ e=>?_⟩,λ i j hi o D=>?_,λ i j hi o=>?_,λ i hi=>?_⟩
 ·rw[h i j hi o,aD]at D;have e:(C i+1).toNat=(C j+1).toNat:=e;have:=F i hi;have:=F j o;exact D (by omega)
 ·rw[h i j hi o]at D;simpa using D
 ·rw[h i j hi o,h j i o hi];simp only[bne,Bool.not_eq_eq_eq_not,Bool.not_not];rw[Bool.eq_iff_iff];simp only[beq_iff_eq];exact⟨λ e=>e.symm,λ e=>e.symm⟩
 ·rw[h i i hi hi];simp
theorem Zd.put{J:Nat->Int}{To:Nat->Nat->Int}{d:Nat->Nat->Bool}(h:Zd n J To d){i j:Nat}(U:i≠j)(Q:qS (zS J) To i j):Zd n J To (rH d i j):=by
 refine⟨λ p q C I o=>?_,λ p q C I o=>?_,λ p q C I=>?_,λ p C=>?_⟩
 ·unfold rH at o;split at o
  ·rename_i e;rw[e.1,e.2];exact Q.symm
  ·split at o
   ·rename_i e;rw[e.1,e.2];exact Q
   ·exact h.sd p q C I o
 ·unfold rH at o;split at o
  ·cases o
  ·split at o
   ·cases o
   ·exact h.mo p q C I o
 ·unfold rH;by_cases D:p=j/\q=i
  ·rw[aB D,aA (λ e=>by omega),aB ⟨D.2,D.1⟩]
  ·rw[aA D];by_cases F:p=i/\q=j
   ·rw[aB F,aB ⟨F.2,F.1⟩]
   ·rw[aA F,aA (λ e=>F ⟨e.2,e.1⟩),aA (λ e=>D ⟨e.2,e.1⟩)];exact h.sy p q C I
 ·unfold rH;rw[aA (λ e=>by omega),aA (λ e=>by omega)];exact h.di p C
theorem Yt{al:Nat->Bool}{d:Nat->Nat->Bool}{To:Nat->Nat->Int}(o:oT n 256 To)(F:∀i j,i<n->j<n->d i j=d j i){i j b:Nat}(hi:i<n)(D:j<n)(C:b<256):oP al d To i j b=oP al d To j i b:=by
 unfold oP
 cases e1:mN al (To i b)with
 | true=>
  cases e2:mN al (To j b)with
  | true=>
   obtain⟨I,_⟩:=oM o hi C e1;obtain⟨m1,_⟩:=oM o D C e2;rw[F _ _ I m1]
  | false=>rfl
 | false=>cases e2:mN al (To j b)<;>rfl
theorem So{al:Nat->Bool}{d:Nat->Nat->Bool}{To:Nat->Nat->Int}(o:oT n 256 To)(D:∀i,i<n->d i i=false){i b:Nat}(hi:i<n)(C:b<256):oP al d To i i b=false:=by
 unfold oP
 cases e1:mN al (To i b)with
 | true=>
  obtain⟨F,_⟩:=oM o hi C e1;rw[D _ F];rfl
 | false=>rfl
def yV(al:Nat->Bool)(d:Nat->Nat->Bool)(To:Nat->Nat->Int)(lw:List Nat)(s t:Nat):Prop:=∀i j,j<i->(i<s\/(i=s/\j<t))->d i j=false->∀b,b<256->lw[b]?=some b->oP al d To i j b=false
theorem Zd.partC{X:Nat->Int}{To:Nat->Nat->Int}{al:Nat->Bool}{d:Nat->Nat->Bool}(h:Zd n X To d)(J:oT n 256 To)(Q:yV al d To lw n 0)(D:∀b,b<256->∃k,k<256/\lw[k]?=some k/\∀p,p<n->To p b=To p k):Y5 n (zS X) To al d:=by
 refine⟨h.sd,λ i j hi o F=>by unfold zS;rw[h.mo i j hi o F],λ i j hi o F b Y=>?_⟩;obtain⟨k,I,U,V⟩:=D b Y;have e:oP al d To i j b=oP al d To i j k:=by unfold oP;rw[V i hi,V j o]
 rw[e];rcases NQ i j with C|C|C
 ·rw[Yt J h.sy hi o I];exact Q j i C (.inl o) (by rw[<-h.sy i j hi o];exact F) k I U
 ·subst C;exact So J h.di hi I
 ·exact Q i j C (.inl hi) F k I U
theorem dX:(Tryz.prog.info? 80).map (λ i=>(i.zero,i.size,i.bytes))=some (some (.slice none 0 0),1,24):=by kernel_rfl
theorem PD.draw{W w:tW}{o:Nat->Nat}{d:Nat->Nat->Bool}(h:PD W w dg m n o d):PD W w.drew dg m n o d:=
 ⟨⟨h.bl.os,h.bl.tape,h.bl.output,h.bl.size,h.bl.block⟩,h.lo0,h.r,h.a,h.fz0,λ i hi=>⟨(h.c i hi).c,(h.c i hi).f⟩,h.lo,h.ap,h.ij⟩
theorem Mx{rw:Nat->Nat}{D:Nat->Int}{To:Nat->Nat->Int}{al:Nat->Bool}{w:tW}(h:GV gb w n gO qO gT qT rw D To)(hn:n<=2000)(tT:∀i,i<n-> -1<=D i)(hF:oT n 256 To)(nL:Ap n (zS D) To al)(qL:BA w ab n al)(lH:ab<w.heap.size)
  {gl ol vc:Nat}{lw:List Nat} (tL:lw.length=256) (rT:gl<w.heap.size) (qR:∀(i m:Nat),lw[i]?=some m->w.cell? ⟨gl,ol+i,none⟩=some (.int .i64 (m:Int))) (hL:∀(b k:Nat),lw[b]?=some k->k<=b) (eM:∀b,b<256->∃k,k<256/\lw[k]?=some k/\∀p,p<n->To p b=To p k):
  QX ME 48 #[.pointer (some ⟨gb,0,none⟩),.slice (some ⟨ab,0,none⟩) n n,.slice (some ⟨gl,ol,none⟩) 256 vc] w λ e w'=>∃X d,e=.returned (.slice (some ⟨w.heap.size,0,none⟩) n n)/\DB w w' w.heap.size n X d/\Y5 n (zS D) To al d/\∀i,i<n->d i i=false:=by
 obtain⟨i0,bM,bO,bS,bT⟩:=QT cV;have HI:QP (Tryz.prog.info? 4=some i0/\i0.zero=some (.bool false)/\i0.size=1/\i0.bytes=1):=⟨bM,bO,bS,bT⟩
 clear bM bO bS bT;obtain⟨i1,bM,bO,bS,bT⟩:=QT dX;have cN:QP (Tryz.prog.info? 80=some i1/\i1.zero=some (.slice none 0 0)/\i1.size=1/\i1.bytes=24):=⟨bM,bO,bS,bT⟩
 have HG:=fV h;have k1:=h.c1;have W0:=h.b0;have H0:=fV tT;have hT:=fV hF;have hX:=fV eM;have O9:=fV hL;have B1:=fV nL;have H3:=fV (λ(W:tW)(hB:Bl w W)(X:Nat->Nat)(d:Nat->Nat->Bool)(hd:KD W w.heap.size n X d)(i j:Nat)(hi:i<n) (hj:j<n)=>Rs (db0:=n) (vc:=vc) (h.below hB lR) hF (qL.below hB lH) (LQ lH hB.size) hd hi hj tL (LQ rT hB.size) (λ i m hm=>(hB.cell (p:=⟨gl,ol+i,none⟩) rT).trans (qR i m hm)) hL);clear bM bO bS bT h tT hF nL qL qR hL eM tL;go_enter func48,ntmps48;go_upto_region 3 with(first|(at_make;refine QU w rfl _ _ 129 rfl w.heap.size 80 i1 (.slice none 0 0) 1 underlying129 cN.o.1 cN.o.2.1 cN.o.2.2.1 .i64 .i64 _ n n rfl rfl rfl rfl (by rw[cN.o.2.2.2];omega) (by unfold QW;omega) lR ?_;intro w1 F hg))
 have hW:QP (PD w w1 w.heap.size 0 n (λ _=>0) (λ _ _=>false)):=PD.start ⟨hg.os,hg.tape,hg.output,hg.size,λ k hk=>hg.block k hk (by simp)⟩ (F.lt w.heap.size rfl).2 (λ i hi=>by
  have hx:=LD (l:=(madeCells (ML none 0 0).cells (n*1)).toList) (i:=i) (by have:=F.1;omega);have:=F.cells rfl i _ hx;rw[oI,MB]at this;exact⟨_,this⟩) (λ i=>rV F i) _ _
 clear F hg k1;go_wp2_with fail
 go_loopw [9] (λ z wr=>∃(m:Nat)(X:Nat->Nat)(d:Nat->Nat->Bool),m<=n/\z=.int .i64 (m:Int)/\PD w wr w.heap.size m n X d/\QP (∀p q,p<m->q<n->d p q=(D p !=D q))) (λ z _=>n-(QO z).toNat)
 case atStart=>exact⟨0,_,_,by omega,rfl,hW.o,fV (λ p q hp=>by omega)⟩
 case round=>
  clear hW;obtain⟨m,X,d,hm,rfl,C,HA⟩:=hrel;have HP:=fV C;have hz:=C.bl.size;by_cases hM:m<n
  ·obtain⟨v0,A2⟩:=C.a m hM;have rO:=C.fz0 m;have sW:=C.lo0.2;have W6:=iI m n (by omega)
   clear C;go_upto_region 7 with(first|(at_make;refine QU wr rfl _ _ 80 rfl wr.heap.size 4 i0 (.bool false) 1 underlying80 HI.o.1 HI.o.2.1 HI.o.2.2.1 .i64 .i64 _ n n rfl rfl rfl rfl (by rw[HI.o.2.2.2];omega) (by unfold QW;omega) lR ?_;intro w2 F hg;have y0:w2.cell? ⟨w.heap.size,m,none⟩=some v0:=(LG (w:=wr) (a:=⟨w.heap.size,m,none⟩) (hg.block _ sW (by simp))).trans A2;have yf:w2.frozen? ⟨w.heap.size,m,none⟩=false:=(LU (w:=wr) (a:=⟨w.heap.size,m,none⟩) (hg.block _ sW (by simp))).trans rO;have gL:=fV (HP.o.row hM hg (BA.new F) (F.lt _ rfl).2);clear F hg))
   obtain⟨d2,hE⟩:∃d2,d2=(λ i=>if i=m then(λ _:Nat=>false)else d i):=⟨_,rfl⟩
   obtain⟨cP,hY⟩:∃cP,cP=(λ i=>if i=m then wr.heap.size else X i):=⟨_,rfl⟩
   rw[<-hE,<-hY]at gL;have hQ:QP (∀p q,p<m->q<n->d2 p q=(D p !=D q)):=λ p q hp hq=>by rw[hE];simp only[aA (show p≠m by omega)];exact HA.o p q hp hq
   clear HP HA y0 yf A2 rO hE hY;generalize w2.setCell ⟨w.heap.size,m,none⟩ (.slice (some ⟨wr.heap.size,0,none⟩) n n)=W2 at*;generalize wr.heap.size=sR at*;go_wp2_with fail
   go_loopw [10] (λ z hP=>∃(j:Nat)(d:Nat->Nat->Bool),j<=n/\z=.int .i64 (j:Int)/\PD w hP w.heap.size (m+1) n cP d/\QP (∀p q,p<m->q<n->d p q=(D p !=D q))/\QP (∀q,q<j->d m q=(D m !=D q))) (λ z _=>n-(QO z).toNat)
   case atStart=>exact⟨0,d2,by omega,rfl,gL.o,hQ,fV (λ q hq=>by omega)⟩
   case round=>
    clear gL hQ;obtain⟨j,d3,hj,rfl,C,hR,hS⟩:=hrel;have HP:=fV C;have X0:=C.bl.size;have bK:=HG.o.below C.bl lR;by_cases hK:j<n
    ·have W4:=iI j n (by omega)
     have dr:=C.r m (by omega);have c1:=bK.c1;have om:=bK.o m hM;have oj:=bK.o j hK;have dc:=(C.c m (by omega)).c j hK;have df:=(C.c m (by omega)).f j;have HS:=fV (C.draw.set (i:=m) (by omega) hK (D m !=D j));have eN:QP (∀p q,p<m->q<n->(if p=m/\q=j then(D m !=D j)else d3 p q)=(D p !=D q)):=λ p q hp hq=>by rw[aA (λ e=>by omega)];exact hR.o p q hp hq
     have eO:QP (∀q,q<j+1->(if m=m/\q=j then(D m !=D j)else d3 m q)=(D m !=D q)):=λ q hq=>by
      by_cases e:q=j
      ·rw[aB ⟨rfl,e⟩,e]
      ·rw[aA (λ h=>e h.2)];exact hS.o q (by omega)
     generalize d3 m j=dv at dc;generalize hom:D m=ovm at om HS eN eO;generalize hoj:D j=ovj at oj HS eN eO;have S2:=fV hom;have P0:=fV hoj;clear C bK hom hoj;go_upto_region 10 with fail
     go_region
     all_goals
      go_wp2;go_roundw
      case rel=>exact⟨j+1,_,by omega,by go_num,HS.o,eN,eO⟩
      case measure=>simp[QO];omega
    ·have ej:j=n:=by omega
     have dl:=dF j n (by omega)
     have A3:QP (∀p q,p<m+1->q<n->d3 p q=(D p !=D q)):=λ p q hp hq=>by
      by_cases e:p=m
      ·subst e;exact hS.o q (by omega)
      ·exact hR.o p q (by omega) hq
     clear ej C bK;go_wp2;go_roundw
     case rel=>exact⟨m+1,cP,d3,by omega,by go_num,HP.o,A3⟩
     case measure=>simp[QO];omega
  ·have em:m=n:=by omega
   have dl:=dF m n (by omega)
   have hI:=C;rw[em]at hI;have Q:=fV hI.done;have aO:QP (Zd n D To d):=Zd.start H0.o (λ i j hi hj=>HA.o i j (by omega) hj);clear em hI C HP HA;go_wp2_with fail
   go_loopg [11] (n*n+1) (λ gj x hP=>∃(Y:Bool)(d:Nat->Nat->Bool),x=.bool Y/\DB w hP w.heap.size n X d/\Zd n D To d/\QP (Y=false->yV al d To lw n 0)/\QP (Y=true->xW d n<gj))
   case atStart=>exact⟨true,d,rfl,Q.o,aO.o,fV (λ e=>by cases e),fV (λ _=>by have:=Tf d n;omega)⟩
   case round=>
    clear Q aO;obtain⟨Y,d0,rfl,hH,bN,eR,eT⟩:=hrel;have Q:=fV hH
    cases Y with
    | false=>
     have H2:=fV (bN.partC hT.o (eR.o rfl) hX.o);have E6:=fV bN.di;clear hH bN eR eT;go_wp2;go_ret;exact⟨X,d0,rfl,Q.o,H2.o,E6.o⟩
    | true=>
     have W5:=eT.o rfl;obtain⟨dd,rfl⟩:∃dd,gk=dd+1:=⟨gk-1,by omega⟩
     have aO:=fV bN;clear hH bN eR eT;go_wp2_with fail
     go_loopw [11,12] (λ x z O5=>∃(s:Nat)(d:Nat->Nat->Bool)(Y:Bool),s<=n/\x=.bool Y/\z=.int .i64 (s:Int)/\DB w O5 w.heap.size n X d/\Zd n D To d/\xW d n<=xW d0 n/\QP (Y=true->xW d n<xW d0 n)/\QP (Y=false->yV al d To lw s 0)) (λ _ z _=>n-(QO z).toNat)
     case atStart=>exact⟨0,d0,false,by omega,rfl,rfl,Q.o,aO.o,lR,fV (λ e=>by cases e),fV (λ _ i j hj hi=>by omega)⟩
     case round=>
      clear Q aO;obtain⟨s,d4,eL,hs,rfl,rfl,rL,A0,M2,hC,eX⟩:=hrel;have eS:=fV rL;have hA:=fV A0;clear rL A0;by_cases I:s<n
      ·have W8:=iI s n (by omega)
       go_wp2_with fail
       go_loopw [11,13] (λ x z O6=>∃(t:Nat)(d:Nat->Nat->Bool)(Y:Bool),t<=s/\x=.bool Y/\z=.int .i64 (t:Int)/\DB w O6 w.heap.size n X d/\Zd n D To d/\xW d n<=xW d0 n/\QP (Y=true->xW d n<xW d0 n)/\QP (Y=false->yV al d To lw s t)) (λ _ z _=>s-(QO z).toNat)
       case atStart=>exact⟨0,d4,eL,by omega,rfl,rfl,eS.o,hA.o,M2,hC,eX⟩
       case round=>
        clear eS hA hC eX;obtain⟨t,Z,J,ht,rfl,rfl,bC,hN,hG,hD,hV⟩:=hrel;have U:=fV bC;have aR:=fV hN;by_cases O3:t<s
        ·have W9:=iI t n (by omega)
         have O7:=iI t s (by omega)
         have N0:=dT t s (by omega)
         have dr:=bC.da.r s I;have dc:=bC.da.c s t I (by omega);have aT:QP ((∀b,b<256->lw[b]?=some b->Z s t=false->oP al Z To s t b=false)->J=false->yV al Z To lw s (t+1)):=λ hh e i j hJ N1 hd b hb hl=>by
          by_cases e2:i=s/\j=t
          ·rw[e2.1,e2.2]at hd ⊢;exact hh b hb hl hd
          ·exact hV.o e i j hJ (by omega) hd b hb hl
         clear bC hN
         cases hdv:Z s t with
         | true=>
          rw[hdv]at dc;have aL:QP (J=false->yV al Z To lw s (t+1)):=aT.o (λ b hb hl e=>by rw[hdv]at e;cases e);clear hdv aT;go_wp2;go_roundw
          case rel=>exact⟨t+1,Z,J,by omega,rfl,by go_num,U.o,aR.o,hG,hD,aL⟩
          case measure=>simp[QO];omega
         | false=>
          rw[hdv]at dc;have hU:=fV hdv;clear hdv;go_upto_region 21 with fail;refine(H3.o _ (U.o.bl) X Z U.o.da s t I (by omega)).mono ?_;rintro e w6 ⟨r6,rfl,aW,O0⟩;have V:=fV (U.o.below aW);have O8:=fV aW;have X1:=aW.size;rcases O0 with⟨rfl,b,hb,A1⟩|⟨rfl,tO⟩
          ·have nN:=Sp hT.o B1.o I (show t<n by omega) hb aR.o.sd A1;have H1:=fV (aR.o.put (i:=s) (j:=t) (by omega) nN);have W1:=Kx O3 hU.o n I;have H6:=V.o.da.r s I;have H4:=V.o.da.c s t I (by omega);have H5:=V.o.fz s t I;have cF:=fV (V.o.set I (show t<n by omega) true);have B2:=fV (cF.o.set (show t<n by omega) I true);clear nN A1 hb aT dr dc aW hU;go_upto_region 22 with fail;have T3:=cF.o.da.r t (by omega);have S5:=cF.o.da.c t s (by omega) I;have T2:=cF.o.fz t s (by omega);clear H6 H4 H5 V U;generalize w6.setCell ⟨X s,t,none⟩ (.bool true)=W7 at*;go_wp2;go_roundw
           case rel=>exact⟨t+1,rH Z s t,true,by omega,rfl,by go_num,B2.o,H1.o,by omega,fV (λ _=>by omega),fV (λ e=>by cases e)⟩
           case measure=>simp[QO];omega
          ·have aL:QP (J=false->yV al Z To lw s (t+1)):=aT.o (λ b hb hl _=>tO b hb hl);clear aT dr dc tO aW;go_wp2;go_roundw
           case rel=>exact⟨t+1,Z,J,by omega,rfl,by go_num,V.o,aR.o,hG,hD,aL⟩
           case measure=>simp[QO];omega
        ·have L1:t=s:=by omega
         have N0:=dF t s (by omega)
         have aL:QP (J=false->yV al Z To lw (s+1) 0):=λ e i j hJ N1 hd b hb hl=>hV.o e i j hJ (by omega) hd b hb hl
         clear L1 bC hN;go_wp2;go_roundw
         case rel=>exact⟨s+1,Z,J,by omega,rfl,by go_num,U.o,aR.o,hG,hD,aL⟩
         case measure=>simp[QO];omega
      ·have W3:=dF s n (by omega)
       have iN:s=n:=by omega
       have HC:QP (eL=false->yV al d4 To lw n 0):=by rw[<-iN];exact eX
       have HM:QP (eL=true->xW d4 n<dd):=λ e=>by have:=hC.o e;omega
       clear iN;go_wp2;go_roundg dd
       case measure=>omega
       case rel=>exact⟨eL,d4,rfl,eS.o,hA.o,HC,HM⟩
def Sy(w:tW)(v1 v2:tV)(n:Nat)(I:Nat->Int)(tr:Nat->Nat->Int):Prop:=
 ∃(o D C F:Nat)(rw:Nat->Nat),v1=.slice (some ⟨o,0,none⟩) n D/\v2=.slice (some ⟨C,0,none⟩) n F/\(o<w.heap.size/\C<w.heap.size/\∀s,s<n->rw s<w.heap.size)/\(∀s,s<n->w.cell? ⟨o,s,none⟩=some (.int .i64 (I s)))/\(∀s,s<n->w.cell? ⟨C,s,none⟩=some (.slice (some ⟨rw s,0,none⟩) 256 256))/\∀s b,s<n->b<256->w.cell? ⟨rw s,b,none⟩=some (.int .i64 (tr s b))
theorem Sy.below{w w':tW}{v1 v2:tV}{Q:Nat->Int}{tr:Nat->Nat->Int}(h:Sy w v1 v2 n Q tr)(C:Below B w w')(hb:w.heap.size<=B):Sy w' v1 v2 n Q tr:=by
 obtain⟨D,U,F,V,rw,X,Y,⟨h1,h2,J⟩,Z,h5,h6⟩:=h;have hz:=C.size;exact⟨D,U,F,V,rw,X,Y,⟨by omega,by omega,λ s o=>by have:=J s o;omega⟩,λ s o=>(C.cell (p:=⟨D,s,none⟩) (by show D<B;omega)).trans (Z s o),λ s o=>(C.cell (p:=⟨F,s,none⟩) (by show F<B;omega)).trans (h5 s o),λ s b o I=>(C.cell (p:=⟨rw s,b,none⟩) (by have:=J s o;show rw s<B;omega)).trans (h6 s b o I)⟩
structure JF(w:tW)(g m:Nat)(ns:Nat->Nat)(of:Nat->Nat->Int)(tr:Nat->Nat->Nat->Int):Prop where
 t:∀c,c<m->∃v1 v2,w.cell? ⟨g,c*2,none⟩=some v1/\w.cell? ⟨g,c*2+1,none⟩=some v2/\Sy w v1 v2 (ns c) (of c) (tr c)
 b:g<w.heap.size
theorem JF.below{w w':tW}{ns:Nat->Nat}{C:Nat->Nat->Int}{tr:Nat->Nat->Nat->Int}(h:JF w g m ns C tr)(o:Below B w w')(D:w.heap.size<=B):JF w' g m ns C tr:=by
 have V:=o.size;have U:=h.b;refine⟨λ c F=>?_,by omega⟩;obtain⟨v1,v2,I,J,Q⟩:=h.t c F;exact⟨v1,v2,(o.cell (p:=⟨g,c*2,none⟩) (by show g<B;omega)).trans I,(o.cell (p:=⟨g,c*2+1,none⟩) (by show g<B;omega)).trans J,Q.below o D⟩
theorem BM{w:tW}{ns:Nat->Nat}{of:Nat->Nat->Int}{tr:Nat->Nat->Nat->Int}(h:JF w g m ns of tr)(hm:m<=100)(aL:∀c,c<m->ns c<=2000){a b:Nat}(ha:a<256)(hb:b<256):
  QX ME 79 #[.slice (some ⟨g,0,none⟩) m aJ,.int .i64 (a:Int),.int .i64 (b:Int)] w λ e w'=>e=.returned (.bool (mJ ns tr m a b))/\Bl w w':=by
 have HT:=fV h;have aR:=fV aL;have aW:(0:Int)<=(a:Int)/\(a:Int)<(256:Int):=by omega
 have bC:(0:Int)<=(b:Int)/\(b:Int)<(256:Int):=by omega
 clear h aL;go_enter func79,ntmps79;go_wp2_with fail
 go_loopw [7] (λ z wr=>∃(c q:Nat),c<=m/\z=.int .i64 (c:Int)/\wr=w.drewN q/\QP (∀C,C<c->∀s,s<ns C->tr C s a=tr C s b)) (λ z _=>m-(QO z).toNat)
 case atStart=>exact⟨0,0,by omega,rfl,rfl,fV (λ C hc=>by omega)⟩
 case round=>
  obtain⟨c,q,hc,rfl,rfl,HA⟩:=hrel;by_cases U:c<m
  ·have bK:=iI c m (by omega)
   obtain⟨v1,v2,k1,k2,g1,c1,g2,c2,rw,e1,e2,_,_,k5,k6⟩:=HT.o.t c U;subst e1 e2;have hn:=aR.o c U;have aO:=fV k5;have Z:=fV k6;obtain⟨nc,Q⟩:=xE (ns c)
   rw[Q]at k2 hn;have F:=fV Q;clear k1 k5 k6 Q;go_wp2_with fail
   go_loopw [8] (λ z wr=>∃(s q:Nat),s<=nc/\z=.int .i64 (s:Int)/\wr=w.drewN q/\QP (∀D,D<s->tr c D a=tr c D b)) (λ z _=>nc-(QO z).toNat)
   case atStart=>exact⟨0,q,by omega,rfl,rfl,fV (λ C hc=>by omega)⟩
   case round=>
    obtain⟨s,q2,hs,rfl,rfl,Y⟩:=hrel;by_cases I:s<nc
    ·have bM:=iI s nc (by omega)
     have y0:=aO.o s (by rw[F.o];exact I);have ya:=Z.o s a (by rw[F.o];exact I) ha;have yb:=Z.o s b (by rw[F.o];exact I) hb;by_cases X:tr c s a=tr c s b
     ·have J:QP (∀D,D<s+1->tr c D a=tr c D b):=λ D V=>by
       by_cases e:D=s
       ·rw[e];exact X
       ·exact Y.o D (by omega)
      rw[X]at ya;generalize tr c s b=tv at*;have dv:(tv !=tv)=false:=by simp
      clear X;go_upto_region 7 with fail;go_big_region
      all_goals
       go_wp2;go_roundw
       case rel=>exact⟨s+1,q2+1,by omega,by go_num,rfl,J⟩
       case measure=>simp[QO];omega
     ·have HR:QP (mJ ns tr m a b=false):=by
       unfold QP
       cases hv:mJ ns tr m a b with
       | false=>rfl
       | true=>exact absurd (rG.1 hv c U s (by rw[F.o];exact I)) X
      have dv:(tr c s a !=tr c s b)=true:=by rw[aD];exact X
      clear X;generalize tr c s a=tva at*;generalize tr c s b=tvb at*;go_upto_region 7 with fail;go_big_region
      all_goals
       go_wp2;go_ret;exact⟨by rw[HR.o];rfl,rfl,rfl,rfl,lR,λ _ _=>rfl⟩
    ·have ds:=dF s nc (by omega)
     have J:QP (∀C,C<c+1->∀s,s<ns C->tr C s a=tr C s b):=λ C aT D V=>by
      by_cases e:C=c
      ·subst e;rw[F.o]at V;exact Y.o D (by omega)
      ·exact HA.o C (by omega) D V
     go_wp2;go_roundw
     case rel=>exact⟨c+1,q2,by omega,by go_num,rfl,J⟩
     case measure=>simp[QO];omega
  ·have dc:=dF c m (by omega)
   have HR:QP (mJ ns tr m a b=true):=Dy (λ C aT s hs=>HA.o C (by omega) s hs);go_wp2;go_ret;exact⟨by rw[HR.o];rfl,rfl,rfl,rfl,lR,λ _ _=>rfl⟩
def T5(ns:List Nat):List tV:=ns.map (λ(m:Nat)=>NN .u8 (m:Int))
structure C2(w wr:tW)(x y:tV)(aK aN:List Nat):Prop where
 o1:wr.ownsRow w.heap.size 5 1 x aK.length (T5 aK)
 o2:wr.ownsRow w.heap.size 3 1 y aN.length (kI aN)
 di:∀k,x.ownBlock=some k->y.ownBlock≠some k
 bl:Bl w wr
theorem C2.start(w:tW):C2 w w (.slice none 0 0) (.slice none 0 0) [] []:=⟨NG _ _ _ 1,NG _ _ _ 1,λ k e=>(by cases e),bR⟩
theorem C2.below{w wr w':tW}{x y:tV}(h:C2 w wr x y aK aN)(o:Bl wr w'):C2 w w' x y aK aN:=
 ⟨iH h.o1 (λ k C=>o.block k (h.o1.lt k C).2),iH h.o2 (λ k C=>o.block k (h.o2.lt k C).2),h.di,mA h.bl o⟩
theorem C2.app1{w wr w4:tW}{x y:tV}(h:C2 w wr x y aK aN){o:Obj}{g aJ n v:Nat}(hn:aK.length=n)(F:w4.ownsRow w.heap.size 5 1 (.slice (some ⟨g,0,none⟩) (n+1) aJ) (n+1) (T5 aK++[.int .u8 (v:Int)]))(C:(wr.alloc o).grownBy w4 x.ownBlock)(I:x.ownBlock=some g\/g=wr.heap.size+1):C2 w w4 (.slice (some ⟨g,0,none⟩) (n+1) aJ) y (aK++[v]) aN:=by
 subst hn;have Z:=h.bl.size;have X:=C.size;have Y:(wr.alloc o).heap.size=wr.heap.size+1:=by simp
 have J:∀k,k<wr.heap.size->x.ownBlock≠some k->w4.heap[k]?=wr.heap[k]? :=λ k J Q=>(C.block k (by omega) (λ e=>Q e.symm)).trans (LN wr o k J)
 refine⟨by unfold T5 at*;rw[LI,LM,NE];exact F,iH h.o2 (λ k D=>J k (h.o2.lt k D).2 (λ e=>h.di k e D)),λ k e=>?_,lN h.bl h.o1 C⟩;have e:g=k:=by simpa[LZ]using e
 subst e;rcases I with U|U
 ·exact h.di g U
 ·intro V;have:=(h.o2.lt g V).2;omega
theorem C2.app2{w wr w4:tW}{x y:tV}(h:C2 w wr x y aK aN){o:Obj}{g aJ n v:Nat}(hn:aN.length=n)(F:w4.ownsRow w.heap.size 3 1 (.slice (some ⟨g,0,none⟩) (n+1) aJ) (n+1) (kI aN++[.int .i64 (v:Int)]))(C:(wr.alloc o).grownBy w4 y.ownBlock)(J:y.ownBlock=some g\/g=wr.heap.size+1):C2 w w4 x (.slice (some ⟨g,0,none⟩) (n+1) aJ) aK (aN++[v]):=by
 subst hn;have Z:=h.bl.size;have X:=C.size;have Y:(wr.alloc o).heap.size=wr.heap.size+1:=by simp
 have Q:∀k,k<wr.heap.size->y.ownBlock≠some k->w4.heap[k]?=wr.heap[k]? :=λ k Q U=>(C.block k (by omega) (λ e=>U e.symm)).trans (LN wr o k Q)
 refine⟨iH h.o1 (λ k D=>Q k (h.o1.lt k D).2 (λ e=>h.di k D e)),by unfold kI at*;rw[LI,LM,NE];exact F,λ k e I=>?_,lN h.bl h.o2 C⟩;have I:g=k:=by simpa[LZ]using I
 subst I;rcases J with V|V
 ·exact h.di g e V
 ·have:=(h.o1.lt g e).2;omega
theorem Jg{w:tW}{ns:Nat->Nat}{of:Nat->Nat->Int}{tr:Nat->Nat->Nat->Int}(h:JF w g m ns of tr)(hm:m<=100)(hG:∀c,c<m->ns c<=2000):
  QX ME 50 #[.slice (some ⟨g,0,none⟩) m aJ] w λ e w'=>∃x y,e=.returned (.tuple #[x,y])/\C2 w w' x y (mU 256 (mJ ns tr m)).1 (mU 256 (mJ ns tr m)).2:=by
 have eS:=fV (λ(W:tW)(hB:Bl w W)(a b:Nat)(ha:a<256)(hb:b<256)=>BM (aJ:=aJ) (h.below hB lR) hm hG ha hb);clear h hG;generalize mJ ns tr m=Q at*;obtain⟨FC,bM⟩:=xE (mU 256 Q)
 rw[bM];have hI:=fV bM;clear bM;go_enter func50,ntmps50;go_wp2_with fail
 go_loopg [4,5,6] 256 (λ gj x y z wr=>∃(b:Nat)(aK aN:List Nat),b+gj=256/\z=.int .i64 (b:Int)/\aK.length=b/\aN.length<=b/\(∀f,f∈aN->f<256)/\FC=uV Q gj b aK aN/\C2 w wr x y aK aN)
 case atStart=>exact⟨0,[],[],by omega,rfl,rfl,by simp,λ f hf=>absurd hf ND,hI.o.symm,C2.start w⟩
 case round=>
  obtain⟨b,aK,aN,hP,rfl,aT,hL,hC,hQ,aR⟩:=hrel;have HC:=fV aR;have HQ:=fV hQ;have bT:=fV hC;have J:=fV aT;have hW:=aR.bl.size;obtain⟨ax,cx,ex⟩:=gA aR.o1;obtain⟨ay,cy,ey⟩:=gA aR.o2;subst ex ey;rw[aT]at HC ⊢;obtain⟨nf,cF⟩:=xE (aN.length)
  rw[cF]at HC hL ⊢;have D:=fV cF;clear aR hQ hC aT cF;by_cases hE:b<256
  ·obtain⟨d,rfl⟩:∃d,gk=d+1:=⟨gk-1,by omega⟩
   have hJ:decide ((b:Int)<(256:Int))=true:=by simp;omega
   go_upto_block 2 with fail
   go_cut [7] from 9 to 39 (λ fv wc=>fv=.int .i64 ((gW Q aN b aN.length:Nat):Int)/\Bl wr wc)
   case first=>
    go_wp2_with fail
    go_loopg [7] nf (λ gj fv wj=>∃(f:Nat),fv=.int .i64 (f:Int)/\f+gj=nf/\Bl wr wj/\QP (gW Q aN b aN.length=gW Q aN b gj))
    case atStart=>exact⟨0,rfl,by omega,bR,by unfold QP;rw[D.o]⟩
    case round=>
     obtain⟨f,rfl,hK,V,bS⟩:=hrel;have eM:=fV V;have hV:=V.size;by_cases gL:f<nf
     ·obtain⟨j,rfl⟩:∃j,gk=j+1:=⟨gk-1,by omega⟩
      have hx:=LD (l:=aN) (i:=f) (by rw[D.o];exact gL);obtain⟨x,ex⟩:∃x,aN[f]'(by rw[D.o];exact gL)=x:=⟨_,rfl⟩
      rw[ex]at hx;have cP:=bT.o x (LK hx);obtain⟨g2,Y,eg⟩:∃g2 Y,ML ay nf cy=.slice (some ⟨g2,0,none⟩) nf Y:=by
       rcases iL HC.o.o2 with e|⟨g2,Y,e⟩
       ·injection e with _ e3 _;omega
       ·rw[D.o]at e;exact⟨g2,Y,e⟩
      injection eg with ea _ ec;subst ea ec;have hM:=(HC.o.o2.lt g2 rfl).2;have y0:wr.cell? ⟨g2,f,none⟩=some (.int .i64 (x:Int)):=by
       have:=HC.o.o2.cells (g:=g2) rfl f _ (qG hx);rw[oI,MB]at this;exact(V.cell (p:=⟨g2,f,none⟩) hM).trans this
      have I:= @A8 Q aN b f j (by rw[D.o];exact hK);have hD:aN.getD f 0=x:=by rw[LO,hx];rfl
      rw[hD]at I;have eT:=fV I;have hR:=iI f nf (by omega)
      have cN:=dT f nf (by omega)
      have hH:=fV (mA HC.o.bl V);clear I hD hx ex V;go_wp2_with fail;refine(eS.o _ hH.o x b cP hE).mono ?_;rintro e w3 ⟨rfl,aO⟩;have eL:=fV (mA eM.o aO);clear aO
      cases hq:Q x b with
      | true=>
       have HE:QP (gW Q aN b aN.length=f):=bS.o.trans (by rw[eT.o,aB hq]);clear hq;go_wp2;go_meet
       case rel=>exact⟨by rw[HE.o],eL.o⟩
      | false=>
       have HE:QP (gW Q aN b aN.length=gW Q aN b j):=bS.o.trans (by rw[eT.o,aA (by rw[hq];decide)]);clear hq;go_wp2;go_roundg j
       case measure=>omega
       case rel=>exact⟨f+1,by go_num,by omega,eL.o,HE⟩
     ·have e:gk=0:=by omega
      subst e;have cN:=dF f nf (by omega)
      have HE:QP (gW Q aN b aN.length=f):=bS.o.trans (by rw[gW,D.o];omega);go_wp2;go_meet
      case rel=>exact⟨by rw[HE.o],eM.o⟩
   case rest=>
    obtain⟨rfl,aO⟩:=hcut;have aL:=fV (HC.o.below aO);have hU:w.heap.size<=wc.heap.size:=aL.o.bl.size;have I:uV Q (d+1) b aK aN=if gW Q aN b aN.length=aN.length then uV Q d (b+1) (aK++[aN.length]) (aN++[b])else uV Q d (b+1) (aK++[gW Q aN b aN.length]) aN:=rfl;have hA:=tN Q aN b aN.length;rw[D.o]at I hA;have eN:=fV aL.o.o1;have eO:=fV aL.o.o2;rw[J.o]at eN;rw[D.o]at eO ⊢;clear HC aO;generalize gW Q aN b nf=fp at*;have hS:fp<=255:=by omega
    by_cases X:fp=nf
    ·rw[aB X]at I;have cN:((fp:Int)==(nf:Int))=true:=by rw[X];simp
     have HE:QP (FC=uV Q d (b+1) (aK++[fp]) (aN++[b])):=by unfold QP;rw[X];exact HQ.o.trans I
     have hN:=fV X;clear I X HQ;go_upto_region 13 with(first|(at_builtin;refine gB wc rfl (.tmp 31) (.tmp 33) 59 rfl w.heap.size 3 (.int .i64 0) 1 8 MS bY rfl (by decide) (by decide) (.slice ay nf cy) nf (kI aN) [.int .i64 (b:Int)] _ rfl eO.o _ rfl rfl rfl (by simp[LS]) (by omega) (by omega) ?_;intro g4 cap4 w4 bC Z bK hF;have bN:=fV (aL.o.app2 D.o bC Z bK);clear bC Z bK hF))
     have eR:=fV bN.o.o1;rw[J.o]at eR;have hT:=bN.o.bl.size;go_wp2_with (first|(at_builtin;refine gB w4 rfl (.tmp 35) (.tmp 38) 116 rfl w.heap.size 5 (.int .u8 0) 1 1 MI bV rfl (by decide) (by decide) (.slice ax b cx) b (T5 aK) [.int .u8 (fp:Int)] _ rfl eR.o _ rfl rfl rfl (by simp[LS]) (by omega) (by omega) ?_;intro g6 eX w6 F C U aW;have bO:=fV (bN.o.app1 J.o F C U);clear F C U aW));go_roundg d
     case measure=>omega
     case rel=>exact⟨b+1,aK++[fp],aN++[b],by omega,by go_num,by rw[LI,J.o];rfl,by rw[LI,D.o,LM];omega,λ f hf=>by
      rcases OI.1 hf with e|e
      ·exact bT.o f e
      ·rw[MM.1 e];exact hE,HE.o,bO.o⟩
    ·rw[aA X]at I;have cN:((fp:Int)==(nf:Int))=false:=by rw[aC];omega
     have HE:QP (FC=uV Q d (b+1) (aK++[fp]) aN):=HQ.o.trans I;clear I X HQ;go_wp2_with (first|(at_builtin;refine gB wc rfl (.tmp 35) (.tmp 38) 116 rfl w.heap.size 5 (.int .u8 0) 1 1 MI bV rfl (by decide) (by decide) (.slice ax b cx) b (T5 aK) [.int .u8 (fp:Int)] _ rfl eN.o _ rfl rfl rfl (by simp[LS]) (by omega) (by omega) ?_;intro g6 eX w6 F C U aW;have bO:=fV (aL.o.app1 J.o F C U);clear F C U aW));go_roundg d
     case measure=>omega
     case rel=>exact⟨b+1,aK++[fp],aN,by omega,by go_num,by rw[LI,J.o];rfl,by rw[D.o];omega,bT.o,HE.o,bO.o⟩
  ·have eb:b=256:=by omega
   have e:gk=0:=by omega
   subst e;have hJ:decide ((b:Int)<(256:Int))=false:=by simp;omega
   have HE:QP (FC=(aK,aN)):=HQ.o;go_wp2;go_ret2;exact⟨_,_,rfl,by rw[HE.o];exact HC.o⟩
structure WJ(w2 w:tW)(g aJ:Nat)(aS:List UInt8)(g2:Nat)(fi:List Nat):Prop where
 wi:WI w2 w g aJ aS
 c:∀(i v:Nat),fi[i]?=some v->w.cell? ⟨g2,i,none⟩=some (.int .i64 (v:Int))
 ne:g≠g2
 lt:g2<w.heap.size
theorem WJ.app{w2 w w4:tW}{g4 cap4 D:Nat}{fi:List Nat}(h:WJ w2 w g aJ aS D fi){o:Obj}{n:Nat}(hn:n<256)(F:w4.ownsRow w2.heap.size 5 1 (.slice (some ⟨g4,0,none⟩) (aS.length+1) cap4) (aS.length+1) (oE aS++[.int .u8 (n:Int)]))(C:(w.alloc o).grownBy w4 (some g))(I:(ML (some ⟨g,0,none⟩) aS.length aJ).ownBlock=some g4\/g4=w.heap.size+1):
  WJ w2 w4 g4 cap4 (aS++[LH n]) D fi:=by
 have J:=h.lt;have Q:=h.ne;have V:=C.size;have Y:(w.alloc o).heap.size=w.heap.size+1:=by simp
 have U:w4.heap[D]?=w.heap[D]? :=(C.block D (by omega) (λ e=>Q (by injection e with e;omega))).trans (LN w o D J);refine⟨h.wi.app hn F C,λ i v X=>(LG (w:=w) (a:=⟨D,i,none⟩) U).trans (h.c i v X),?_,by omega⟩;rcases I with e|e
 ·have:g=g4:=by simpa[LZ]using e
  omega
 ·omega
theorem Vh:∀(aK:List Nat),aK.map LH=oS aK.length (λ b=>[LH (aK.getD b 0)]):=by
 intro aK;have:∀k,k<=aK.length->(aK.take k).map LH=oS k (λ b=>[LH (aK.getD b 0)]):=by
  intro k
  induction k with
  | zero=>intro _;rfl
  | succ k ih=>
   intro o;rw[nW,<-ih (by omega),MZ,LD (by omega),NE,LO,LD (by omega)]
   rfl
 have:=this aK.length lR;rw[MO]at this;exact this
theorem WI.appL{w2 w:tW}(h:WI w2 w g aJ aS){ops:Array Oper}{rest:List Oper}{o:Oper}{a:Act}{Q:Exit->Act->tW->Prop}(I:o.guard=none)(s x:Operand)
  (ho:o.op=.call {callee:= .builtin .append,args:= #[s,x],argTypes:= #[116,116]})
  (n cn:Nat) (U:aS.length=n) (hs:a.eval s=.slice (some ⟨g,0,none⟩) n aJ) (F V m:Nat) (aK:List Nat) (hm:aK.length=m) (hx:a.eval x=.slice (some ⟨F,0,none⟩) m V) (J:∀v∈aK,v<256) (hc:∀(i v:Nat),aK[i]?=some v->w.cell? ⟨F,i,none⟩=some (.int .u8 (v:Int))) (hn:n<=cn) (aL:cn+m<=1000000) (h0:0<m)
  (hh:∀g4 cap4 w4 Y,Y=n+m->WI w2 w4 g4 cap4 (aS++aK.map LH)->w.grownBy w4 (some g)->(some g=some g4\/g4=w.heap.size)->wpList ME ops Q rest (a.put o.dst (.slice (some ⟨g4,0,none⟩) Y cap4)) w4):wpList ME ops Q (o::rest) a w:=by
 obtain⟨i,hi,hz,D,hb⟩:=QT bV;subst U hm;refine QV w I s x 116 ho w2.heap.size 5 i (.int .u8 0) 1 1 MI hi hz D hb rfl (by decide) (.slice (some ⟨g,0,none⟩) aS.length aJ) aS.length (oE aS) hs h.rw ⟨F,0,none⟩ aK.length V (aK.map (λ(v:Nat)=>NN .u8 (v:Int))) hx (by simp) (λ j y C=>?_) (λ y C=>?_) (by omega) (by unfold QW;omega) (by omega) h.bl.size w.heap.size rfl (λ g4 cap4 w4 Z X h3 _=>?_)
 ·rw[oI,MB];rw[MQ]at C
  cases e:aK[j]? with
  | none=>rw[e]at C;cases C
  | some v=>
   rw[e]at C;injection C with C;rw[<-C];exact hc j v e
 ·obtain⟨m,_,rfl⟩:=OL.1 C
  rfl
 ·refine hh g4 cap4 w4 _ rfl ⟨h.bl.grown X h.bl.size (λ k hk=>(show g=k by simpa[LZ]using hk)▸(h.rw.lt g rfl).1),?_⟩ X h3;have e:oE (aS++aK.map LH)=oE aS++aK.map (λ(v:Nat)=>NN .u8 (v:Int)):=by
   unfold oE;rw[NE,List.map_map];congr 1;exact List.map_congr_left (λ v hv=>by show NN .u8 _=_;rw[M8 (J v hv)])
  rw[e,LI,MU];exact Z
theorem Jk{R:List RV}{ns:Nat->Nat}{of:Nat->Nat->Int}{tr:Nat->Nat->Nat->Int}{ru:List ((Nat->Bool)×Int×Int)}{w:tW}(hr:II fb w R gR cR)(c3:w.cell? ⟨fb,3,none⟩=some (.int .i64 (m:Int)))(hT:JF w g m ns of tr)(hm:m<=4)(tL:∀c,c<m->ns c<=100)(hR:R.length<=8)
  (X4:∀x∈R,x.c=46\/x.c=45\/(65<=x.c/\x.c<69)) (hI:ru.length=R.length) (X2:∀(k:Nat)(x:RV),R[k]?=some x->tG ru k=S1 x.c) (X0:∀c s,c<m->s<ns c-> -1<=of c s/\of c s<8) (Go:∀c s b,c<m->s<ns c->b<256->tr c s b= -1\/(0<=tr c s b/\tr c s b<(ns c:Int))):
  QX ME 23 #[.pointer (some ⟨fb,0,none⟩),.slice (some ⟨g,0,none⟩) m aJ] w λ e w'=>e=.returned (.string ⟨(Jx ru m 256 (λ b=>b) ns (λ c=>zS (of c)) tr).toArray⟩)/\Bl w w':=by
 have H1:=fV (λ(W:tW)(hB:Bl w W)=>Jg (aJ:=aJ) (hT.below hB lR) (by omega) (λ c hc=>by have:=tL c hc;omega));obtain⟨f1,f2,f3,f4,f5⟩:=J1 (mJ ns tr m) 256;have e5:=f5 (by omega);have HL:QP (Jx ru m 256 (λ b=>b) ns (λ c=>zS (of c)) tr=sZ ru++oS ru.length (λ k=>[LH (tG ru k)])
  ++[LH m,LH ((mU 256 (mJ ns tr m)).2.length-1)]++oS 256 (λ b=>[LH ((mU 256 (mJ ns tr m)).1.getD b 0)])
  ++oS m (λ c=>[LH (ns c)]++oS (ns c) (S8 (λ c=>zS (of c)) tr (mU 256 (mJ ns tr m)).2 c))):=rfl
 have H0:QP (oS 256 (λ b=>[LH ((mU 256 (mJ ns tr m)).1.getD b 0)])=(mU 256 (mJ ns tr m)).1.map LH):=by
  unfold QP;rw[Vh,f1]
 rw[H0.o]at HL;clear H0;generalize Jx ru m 256 (λ b=>b) ns (λ c=>zS (of c)) tr=RES at*;generalize (mU 256 (mJ ns tr m)).1=co at*;generalize (mU 256 (mJ ns tr m)).2=fi at*;obtain⟨nR,rO⟩:=xE (R.length)
 have k1:=hr.c1;have b0:=hr.b0;rw[rO]at k1 hR hI;rw[hI]at HL;have tT:QP (sZ ru=[LH 83,LH 84,LH 1,LH nR]):=by unfold QP sZ;rw[hI]
 have b6:=fV hr;have HT:=fV hT;have b3:=fV tL;have c4:=fV X4;have b5:=fV X2;have b4:=fV X0;have c5:=fV Go;have iN:=fV f1;have a9:=fV f3;have b1:=fV f4;have O3:=fV rO;have qL:=fV (WI.new w (m:=nR) (by omega));rw[<-tT.o]at qL;have cF:(sZ ru).length=4:=rfl;clear hr hT tL X4 hI X2 X0 Go f1 f3 f4 f5 rO tT;go_enter func23,ntmps23;go_upto_region 2 with fail;generalize w.alloc (.cells #[.int .u8 83,.int .u8 84,.int .u8 1,.int .u8 (nR:Int)] 5)=W0 at*;generalize sZ ru=A0 at*;replace cF:=fV cF;go_wp2_with fail
 go_loopg [5,6] nR (λ gk iv kv wr=>∃(k g aJ:Nat)(aS:List UInt8),iv=.slice (some ⟨g,0,none⟩) aS.length aJ/\kv=.int .i64 (k:Int)/\k+gk=nR/\aS.length=4+k/\aS=A0++oS k (λ k=>[LH (tG ru k)])/\WI w wr g aJ aS)
 case atStart=>exact⟨0,w.heap.size,4,A0,by rw[cF.o],rfl,by omega,cF.o,(MT _).symm,qL.o⟩
 case round=>
  obtain⟨k,g1,D,aS,rfl,rfl,j3,sR,V,hC⟩:=hrel;have eM:=fV sR;have I:=fV V;have aW:=fV hC;have hD:=hC.bl.size;have g3:=(hC.bl.cell (p:=⟨fb,1,none⟩) b0).trans k1;have qR:=(hC.bl.cell (p:=⟨fb,3,none⟩) b0).trans c3;clear sR V hC qL;by_cases W7:k<nR
  ·obtain⟨d,rfl⟩:∃d,gk=d+1:=⟨gk-1,by omega⟩
   have hx:=LD (l:=R) (i:=k) (by rw[O3.o];exact W7);obtain⟨x,ex⟩:∃x,R[k]'(by rw[O3.o];exact W7)=x:=⟨_,rfl⟩
   rw[ex]at hx;have Hb:=c4.o x (LK hx);have y0:wr.cell? ⟨gR,k*3+1,none⟩=some (.int .u8 (x.c:Int)):=((b6.o.below aW.o.bl lR).rl k x hx).1 1 _ rfl;have a6:=fV (b5.o k x hx);have O7:=fV (λ W=>Xt x.c W Hb);have f9:S1 x.c<256:=by unfold S1;split;omega;split<;>omega
   generalize x.c=xc at*;generalize S1 xc=bn at*;have d5:=dT k nR (by omega)
   have j2:=iI k nR (by omega)
   clear hx ex Hb;go_wp2_with fail;refine(O7.o _).mono ?_;rintro e w3 ⟨rfl,q,Ha⟩;have aT:QP (WI w w3 g1 D aS):=by unfold QP;rw[Ha];exact aW.o.below ⟨rfl,rfl,rfl,lR,λ _ _=>rfl⟩
   have g0:=aT.o.bl.size;clear Ha aW O7 y0 g3 qR;go_wp2_with (first|(at_builtin;refine gB w3 rfl (.tmp 39) (.tmp 41) 116 rfl w.heap.size 5 (.int .u8 0) 1 1 MI bV rfl (by decide) (by decide) (.slice (some ⟨g1,0,none⟩) aS.length D) aS.length (oE aS) [.int .u8 (bn:Int)] _ rfl aT.o.rw _ rfl rfl rfl (by simp[LS]) (by have:=eM.o;omega) (by omega) ?_;intro g4 cap4 w4 Y F bM Q;have c6:=fV (aT.o.app f9 Y F);clear Y F bM));go_roundg d
   case measure=>omega
   case rel=>exact⟨k+1,g4,cap4,aS++[LH bn],by simp,by go_num,by omega,by rw[LI,eM.o];rfl,by rw[nW,<-MJ,<-I.o,a6.o],c6.o⟩
  ·have e:gk=0:=by omega
   subst e;have e:k=nR:=by omega
   subst e;have d5:=dF k k (by omega)
   have hF:QP (RES=aS++[LH m,LH (fi.length-1)]++co.map LH++oS m (λ c=>[LH (ns c)]++oS (ns c) (S8 (λ c=>zS (of c)) tr fi c))):=by
    unfold QP;rw[HL.o,I.o]
   obtain⟨FL,hH⟩:=xE (fi.length)
   rw[hH]at hF f2 e5;obtain⟨L,rfl⟩:∃L,FL=L+1:=⟨FL-1,by omega⟩
   rw[Nat.add_sub_cancel]at hF;have k0:((L+1:Nat):Int)-1=(L:Int):=by omega
   have j0:=(aW.o.rw.lt g1 rfl).2;have B2:=fV aW.o.bl;clear I HL;go_wp2_with fail;refine(H1.o _ B2.o).mono ?_;rintro e w3 ⟨vx,vy,rfl,cN⟩;have o1:=cN.o1;have o2:=cN.o2;rw[iN.o]at o1;rw[hH]at o2;have g0:=cN.bl.size;obtain⟨gx,cx,ex⟩:∃gx cx,vx=.slice (some ⟨gx,0,none⟩) 256 cx:=by
    rcases iL o1 with e|⟨g2,eR,e⟩
    ·obtain⟨a,c,e2⟩:=gA o1;rw[e]at e2;injection e2 with _ e3 _;omega
    ·exact⟨g2,eR,e⟩
   obtain⟨gy,cy,ey⟩:∃gy cy,vy=.slice (some ⟨gy,0,none⟩) (L+1) cy:=by
    rcases iL o2 with e|⟨g2,eR,e⟩
    ·obtain⟨a,c,e2⟩:=gA o2;rw[e]at e2;injection e2 with _ e3 _;omega
    ·exact⟨g2,eR,e⟩
   subst ex ey;have e6:=o1.lt gx rfl;have e7:=o2.lt gy rfl;have H2:QP (∀(i v:Nat),co[i]?=some v->w3.cell? ⟨gx,i,none⟩=some (.int .u8 (v:Int))):=λ i v hv=>by
    have:=o1.cells (g:=gx) rfl i (.int .u8 (v:Int)) (by unfold T5;rw[MQ,hv];rfl);rw[oI,MB]at this;exact this
   have H3:QP (∀(i v:Nat),fi[i]?=some v->w3.cell? ⟨gy,i,none⟩=some (.int .i64 (v:Int))):=λ i v hv=>by
    have:=o2.cells (g:=gy) rfl i _ (qG hv);rw[oI,MB]at this;exact this
   have aT:=fV (aW.o.below cN.bl);have i1:=(cN.bl.cell (p:=⟨fb,3,none⟩) (by show fb<wr.heap.size;omega)).trans qR;have i5:fb<w3.heap.size:=by omega
   have hE:=fV hH;clear cN o1 o2 aW B2 H1 qR hH;go_upto_region 9 with(first|(at_builtin;refine Ao w3 rfl (.tmp 48) (.tmp 58) 116 rfl w.heap.size 5 (.int .u8 0) 1 1 MI bV rfl (by decide) (by decide) (.slice (some ⟨g1,0,none⟩) aS.length D) aS.length (oE aS) [.int .u8 (m:Int),.int .u8 (L:Int)] _ rfl aT.o.rw _ rfl rfl rfl (by simp[LS]) (by have:=eM.o;omega) (by omega) ?_;intro g4 cap4 w4 Y F bM Q;have O9:=fV (aT.o.app2 (show m<256 by omega) (show L<256 by omega) Y F);have lH:=fV F;have B1:=fV bM;clear Y F bM))
   have bT:QP (∀k,k<w3.heap.size->k≠g1->w4.heap[k]?=w3.heap[k]?):=λ k hk e9=>(lH.o.block k (LQ hk (by simp)) (λ e=>e9 (Option.some.inj e))).trans (LN w3 _ k hk)
   have k2:w3.heap.size+1<=w4.heap.size:=by have:=lH.o.size;simp at this;omega
   have H4:QP (g4=g1\/g4=w3.heap.size+1):=B1.o.imp (λ h=>(Option.some.inj h).symm) id;have hK:QP (∀(i v:Nat),co[i]?=some v->w4.cell? ⟨gx,i,none⟩=some (.int .u8 (v:Int))):=λ i v hv=>(LG (w:=w3) (a:=⟨gx,i,none⟩) (bT.o gx e6.2 (by omega))).trans (H2.o i v hv)
   have hL:QP (∀(i v:Nat),fi[i]?=some v->w4.cell? ⟨gy,i,none⟩=some (.int .i64 (v:Int))):=λ i v hv=>(LG (w:=w3) (a:=⟨gy,i,none⟩) (bT.o gy e7.2 (by omega))).trans (H3.o i v hv)
   have W4:g4≠gy:=by rcases H4.o with e|e<;>omega
   have hW:QP ((aS++[LH m,LH L]).length=aS.length+2):=by unfold QP;simp
   have W3:(aS++[LH m,LH L]).length<=300:=by rw[hW.o,eM.o];omega
   rw[<-hW.o];generalize aS++[LH m,LH L]=A1 at*;obtain⟨N1,rL⟩:=xE (A1.length)
   rw[rL]at W3 ⊢;have O0:=fV rL;have a8:QP (∀v∈co,v<256):=λ v hv=>by have:=b1.o v hv;rw[hE.o]at this;omega
   clear eM hW H2 H3 bT lH B1 H4 aT rL;go_upto_region 10 with(first|(at_builtin;refine O9.o.appL rfl (.tmp 60) (.tmp 61) rfl N1 300 O0.o rfl gx cx 256 co iN.o rfl a8.o hK.o W3 (by omega) (by omega) ?_;intro g5 bK w5 n5 W9 hV hU aO;have P0:=fV hV;have nL:=fV W9;have eN:=fV hU;have hJ:=fV aO;clear W9 hV hU aO))
   have H5:QP (WJ w w5 g5 bK (A1++co.map LH) gy fi):=⟨P0.o,λ i v hv=>(LG (w:=w4) (a:=⟨gy,i,none⟩) (eN.o.block gy (by omega) (λ e=>W4 (Option.some.inj e).symm))).trans (hL.o i v hv),by
    rcases hJ.o with e|e
    ·have:=Option.some.inj e;omega
    ·omega,by have:=eN.o.size;omega⟩
   have hY:QP ((A1++co.map LH).length=n5):=by unfold QP;rw[LI,MU,iN.o,O0.o,nL.o]
   have d3:n5<=600:=by have:=nL.o;omega
   have N0:QP (RES=(A1++co.map LH)++oS m (λ c=>[LH (ns c)]++oS (ns c) (S8 (λ c=>zS (of c)) tr fi c))):=hF.o;rw[<-hY.o];rw[<-hY.o]at d3;generalize A1++co.map LH=A2 at*;clear O9 P0 hY hF nL eN hJ hK hL;obtain⟨CB,rT⟩:∃f:Nat->List UInt8,(λ c=>[LH (ns c)]++oS (ns c) (S8 (λ c=>zS (of c)) tr fi c))=f:=⟨_,rfl⟩
   have a7:QP (∀c,CB c=[LH (ns c)]++oS (ns c) (S8 (λ c=>zS (of c)) tr fi c)):=λ c=>by rw[<-rT]
   rw[rT]at N0;clear rT;go_wp2_with fail
   go_loopg [5,10] m (λ gk iv kv wr=>∃(c g aJ:Nat)(aS:List UInt8),iv=.slice (some ⟨g,0,none⟩) aS.length aJ/\kv=.int .i64 (c:Int)/\c+gk=m/\aS.length<=1000+c*100000/\aS=A2++oS c CB/\WJ w wr g aJ aS gy fi)
   case atStart=>exact⟨0,g5,bK,A2,rfl,rfl,by omega,by omega,(MT _).symm,H5.o⟩
   case round=>
    obtain⟨c,g1,D,aS,rfl,rfl,h3,sR,V,U⟩:=hrel;have I:=fV V;have C:=fV U;have hD:=U.wi.bl.size;clear V U H5;by_cases bS:c<m
    ·obtain⟨d,rfl⟩:∃d,gk=d+1:=⟨gk-1,by omega⟩
     obtain⟨v1,v2,tO,a0,d1,h7,d2,h9,a5,e1,e2,⟨c9,d0,T2⟩,a2,a3,a4⟩:=HT.o.t c bS;subst e1 e2;have sW:=HT.o.b;have Pl:=(C.o.wi.bl.cell (p:=⟨g,c*2,none⟩) sW).trans tO;have d4:=b3.o c bS;have eS:=a7.o c;have bT:=fV a2;have H6:=fV a3;have L1:=fV a4;have E6:=fV T2;have hM:QP (∀s,s<ns c-> -1<=of c s/\of c s<8):=λ s hs=>b4.o c s bS hs
     have hQ:QP (∀s b,s<ns c->b<256->tr c s b= -1\/(0<=tr c s b/\tr c s b<(ns c:Int))):=λ s b hs hb=>c5.o c s b bS hs hb
     obtain⟨N,hN⟩:=xE (ns c)
     rw[hN]at Pl tO a0 d4 eS bT H6 L1 E6 hM hQ;have c2:QP (∀X,aS++[LH N]++oS N (S8 (λ c=>zS (of c)) tr fi c)=X->X=A2++oS (c+1) CB):=λ X hX=>by
      rw[<-hX,nW,<-MJ,<-I.o,eS,MJ]
     have d6:=dT c m (by omega)
     have i3:=iI c m (by omega)
     clear eS I a2 a3 a4 T2 hN;go_upto_region 14 with(first|(at_builtin;refine gB wr rfl (.tmp 69) (.tmp 77) 116 rfl w.heap.size 5 (.int .u8 0) 1 1 MI bV rfl (by decide) (by decide) (.slice (some ⟨g1,0,none⟩) aS.length D) aS.length (oE aS) [.int .u8 (N:Int)] _ rfl C.o.wi.rw _ rfl rfl rfl (by simp[LS]) (by omega) (by omega) ?_;intro g5 bK w5 gL bN aO eX;have S2:=fV (C.o.app (show N<256 by omega) gL bN aO);clear gL bN aO))
     have cP:QP ((aS++[LH N]).length=aS.length+1):=by unfold QP;simp
     have i2:(aS++[LH N]).length<=1001+c*100000:=by rw[cP.o];omega
     rw[<-cP.o];generalize aS++[LH N]=A3 at*;clear C cP Pl;go_wp2_with fail
     go_loopg [5,11] N (λ gk iv kv wr=>∃(s g aJ:Nat)(aS:List UInt8),iv=.slice (some ⟨g,0,none⟩) aS.length aJ/\kv=.int .i64 (s:Int)/\s+gk=N/\aS.length<=1001+c*100000+s*300/\aS=A3++oS s (S8 (λ c=>zS (of c)) tr fi c)/\WJ w wr g aJ aS gy fi)
     case atStart=>exact⟨0,g5,bK,A3,rfl,rfl,by omega,by omega,(MT _).symm,S2.o⟩
     case round=>
      obtain⟨s,g1,D,aS,rfl,rfl,h4,h1,V,U⟩:=hrel;have I:=fV V;have C:=fV U;have hD:=U.wi.bl.size;have g7:=(U.wi.bl.cell (p:=⟨g,c*2,none⟩) sW).trans tO;clear V U S2;by_cases Q:s<N
      ·obtain⟨ds,rfl⟩:∃d,gk=d+1:=⟨gk-1,by omega⟩
       have f0:=hM.o s Q;have g9:=(C.o.wi.bl.cell (p:=⟨d1,s,none⟩) c9).trans (bT.o s Q);have h0:=H6.o s Q;have M2:QP (∀b,b<256->w.cell? ⟨a5 s,b,none⟩=some (.int .i64 (tr c s b))):=λ b hb=>L1.o s b Q hb
       have f6:=E6.o s Q;have O8:QP (∀b,b<256->tr c s b= -1\/(0<=tr c s b/\tr c s b<(N:Int))):=λ b hb=>hQ.o s b Q hb
       have hG:QP (S8 (λ c=>zS (of c)) tr fi c s=[LH (of c s+1).toNat]++oS fi.length (λ i=>[LH (H7 (tr c s (fi.getD i 0)))])):=rfl;rw[hE.o]at hG;generalize of c s=ov at*;obtain⟨tk,W2⟩:∃tk:Nat,(ov+1).toNat=tk:=⟨_,rfl⟩
       rw[W2]at hG;have X1:ov+1=(tk:Int):=by omega
       have f8:tk<256:=by omega
       have O6:QP (∀X,aS++[LH tk]++oS (L+1) (λ i=>[LH (H7 (tr c s (fi.getD i 0)))])=X->X=A3++oS (s+1) (S8 (λ c=>zS (of c)) tr fi c)):=λ X hX=>by
        rw[<-hX,nW s,<-MJ,<-I.o,hG.o,MJ]
       have e0:=dT s N (by omega)
       have j4:=iI s N (by omega)
       generalize tr c s=trs at*;generalize a5 s=rws at*;clear hG I W2;go_upto_region 18 with(first|(at_builtin;refine gB wr rfl (.tmp 89) (.tmp 100) 116 rfl w.heap.size 5 (.int .u8 0) 1 1 MI bV rfl (by decide) (by decide) (.slice (some ⟨g1,0,none⟩) aS.length D) aS.length (oE aS) [.int .u8 (tk:Int)] _ rfl C.o.wi.rw _ rfl rfl rfl (by simp[LS]) (by omega) (by omega) ?_;intro g6 T3 w6 hA bO hS h6;have S5:=fV (C.o.app f8 hA bO hS);clear hA bO hS))
       have eL:QP ((aS++[LH tk]).length=aS.length+1):=by unfold QP;simp
       have cF:(aS++[LH tk]).length<=1002+c*100000+s*300:=by rw[eL.o];omega
       rw[<-eL.o];generalize aS++[LH tk]=A4 at*;clear C eL g7 g9 X1 f0;go_wp2_with fail
       go_loopg [5,12] (L+1) (λ gk iv kv wr=>∃(i g aJ:Nat)(aS:List UInt8),iv=.slice (some ⟨g,0,none⟩) aS.length aJ/\kv=.int .i64 (i:Int)/\i+gk=L+1/\aS.length<=1002+c*100000+s*300+i/\aS=A4++oS i (λ i=>[LH (H7 (trs (fi.getD i 0)))])/\WJ w wr g aJ aS gy fi)
       case atStart=>exact⟨0,g6,T3,A4,rfl,rfl,by omega,cF,(MT _).symm,S5.o⟩
       case round=>
        obtain⟨i,g1,D,aS,rfl,rfl,h5,h2,V,U⟩:=hrel;have I:=fV V;have C:=fV U;have hD:=U.wi.bl.size;clear V U S5;by_cases eX:i<L+1
        ·obtain⟨di,rfl⟩:∃d,gk=d+1:=⟨gk-1,by omega⟩
         have eT:=LD (l:=fi) (i:=i) (by rw[hE.o];exact eX);obtain⟨v,ev⟩:∃v,fi[i]'(by rw[hE.o];exact eX)=v:=⟨_,rfl⟩
         rw[ev]at eT;have hv:=a9.o v (LK eT);have c8:=C.o.c i v eT;have W5:fi.getD i 0=v:=by rw[LO,eT];rfl
         have hP:QP (A4++oS (i+1) (λ i=>[LH (H7 (trs (fi.getD i 0)))])=aS++[LH (H7 (trs v))]):=by
          unfold QP;rw[nW i,<-MJ,<-I.o,W5]
         have c7:=(C.o.wi.bl.cell (p:=⟨rws,v,none⟩) f6).trans (M2.o v hv);have k3:=(C.o.wi.bl.cell (p:=⟨g,c*2+1,none⟩) sW).trans a0;have k4:=(C.o.wi.bl.cell (p:=⟨d2,s,none⟩) d0).trans h0;have hx:=O8.o v hv;have W6:H7 (trs v)<256:=by unfold H7;split<;>omega
         have j5:(0:Int)<=(v:Int)/\(v:Int)<(256:Int):=by omega
         have e4:decide ((i:Int)<((L+1:Nat):Int))=true:=by simp;omega
         have j1:(0:Int)<=(i:Int)/\(i:Int)<((L+1:Nat):Int):=by omega
         have eO:QP (H7 (trs v)=if trs v= -1 then 255 else(trs v).toNat%256):=rfl;generalize trs v=xv at*;obtain⟨lb,W1⟩:=xE (H7 xv)
         rw[W1]at W6 hP eO;have O5:QP (∀g8 aL w8,WJ w w8 g8 aL (aS++[LH lb]) gy fi->∃(i' g aJ:Nat)(bC:List UInt8),ML (some ⟨g8,0,none⟩) (aS.length+1) aL=.slice (some ⟨g,0,none⟩) bC.length aJ/\NN .i64 ((i+1:Nat):Int)=.int .i64 (i':Int)/\i'+di=L+1/\bC.length<=1002+c*100000+s*300+i'/\bC=A4++oS i' (λ i=>[LH (H7 (trs (fi.getD i 0)))])/\WJ w w8 g aJ bC gy fi):=λ g8 aL w8 h8=>⟨i+1,g8,aL,aS++[LH lb],by simp,rfl,by omega,by simp;omega,hP.o.symm,h8⟩
         clear eT ev W5 W1;rcases hx with hx|hx
         ·have e:lb=255:=by rw[eO.o,aB hx]
          subst e;subst hx;clear eO;go_upto_region 21 with fail;go_big_region
          all_goals
           go_wp2_with (first|(at_builtin;refine gB wr.drew rfl (.tmp 124) (.tmp 127) 116 rfl w.heap.size 5 (.int .u8 0) 1 1 MI bV rfl (by decide) (by decide) (.slice (some ⟨g1,0,none⟩) aS.length D) aS.length (oE aS) [.int .u8 255] _ rfl (C.o.wi.below (w':=wr.drew) ⟨rfl,rfl,rfl,lR,λ _ _=>rfl⟩).rw _ rfl rfl rfl (by simp[LS]) (by omega) (by exact hD) ?_;intro g8 aL w8 Z J aR W8;have nN:=fV (WJ.app (w:=wr.drew) ⟨C.o.wi.below ⟨rfl,rfl,rfl,lR,λ _ _=>rfl⟩,C.o.c,C.o.ne,C.o.lt⟩ (show 255<256 by omega) Z J aR);clear Z J aR));go_roundg di
           case measure=>omega
           case rel=>exact O5.o _ _ _ nN.o
         ·have e:lb=xv.toNat:=by rw[eO.o,aA (by omega),Nat.mod_eq_of_lt (by omega)]
          obtain⟨xn,rfl⟩:∃xn:Nat,xv=(xn:Int):=⟨xv.toNat,by omega⟩
          rw[MG]at e;subst e;have i4:decide ((lb:Int)<(0:Int))=false:=by simp
          clear eO hx;go_upto_region 21 with fail;go_big_region
          all_goals
           go_wp2_with (first|(at_builtin;refine gB wr.drew rfl (.tmp 124) (.tmp 127) 116 rfl w.heap.size 5 (.int .u8 0) 1 1 MI bV rfl (by decide) (by decide) (.slice (some ⟨g1,0,none⟩) aS.length D) aS.length (oE aS) [.int .u8 (lb:Int)] _ rfl (C.o.wi.below (w':=wr.drew) ⟨rfl,rfl,rfl,lR,λ _ _=>rfl⟩).rw _ rfl rfl rfl (by simp[LS]) (by omega) (by exact hD) ?_;intro g8 aL w8 Z J aR W8;have nN:=fV (WJ.app (w:=wr.drew) ⟨C.o.wi.below ⟨rfl,rfl,rfl,lR,λ _ _=>rfl⟩,C.o.c,C.o.ne,C.o.lt⟩ W6 Z J aR);clear Z J aR));go_roundg di
           case measure=>omega
           case rel=>exact O5.o _ _ _ nN.o
        ·have e:gk=0:=by omega
         subst e;have e:i=L+1:=by omega
         subst e;have e4:decide (((L+1:Nat):Int)<((L+1:Nat):Int))=false:=by simp
         have HE:=fV (O6.o aS I.o.symm);go_wp2_with fail;go_roundg ds
         case measure=>omega
         case rel=>exact⟨s+1,g1,D,aS,rfl,by go_num,by omega,by omega,HE.o,C.o⟩
      ·have e:gk=0:=by omega
       subst e;have e:s=N:=by omega
       subst e;have e0:=dF s s (by omega)
       have HE:=fV (c2.o aS I.o.symm);go_wp2_with fail;go_roundg d
       case measure=>omega
       case rel=>exact⟨c+1,g1,D,aS,rfl,by go_num,by omega,by omega,HE.o,C.o⟩
    ·have e:gk=0:=by omega
     subst e;have e:c=m:=by omega
     subst e;have d6:=dF c c (by omega)
     have HE:QP (RES=aS):=by unfold QP;rw[N0.o,I.o]
     go_wp2_with (first|(refine dS rfl (.tmp 129) rfl C.o.wi rfl ?_));go_ret;exact⟨by rw[HE.o];rfl,C.o.wi.bl⟩
section
structure TM(gb B:Nat)(w:tW)(O:Nat->Nat)(vO vT:tV)(Of:List Int)(bF:List (Nat->Int))(cO cT:List (List tV)):Prop where
 c0:w.cell? ⟨gb,0,none⟩=some vO
 c1:w.cell? ⟨gb,1,none⟩=some vT
 fz:∀i,w.frozen? ⟨gb,i,none⟩=false
 wt:O gb=1/\gb<w.heap.size/\B<=gb
 rO:sT yU 3 1 w B (λ g=>O g=0) vO Of cO
 rT:sT wW 59 1 w B (λ g=>O g=0) vT bF cT
 tO:∀k,vO.ownBlock=some k->O k=2
 tT:∀k,vT.ownBlock=some k->O k=3
 fr:∀k,w.heap.size<=k->O k=0
section
variable {gb B:Nat}{w w':tW}{O O':Nat->Nat}{vO vT:tV}{Of:List Int}{bF:List (Nat->Int)}{cO cT:List (List tV)}
theorem TM.keep(h:TM gb B w O vO vT Of bF cO cT)(I:w.heap.size<=w'.heap.size)(C:∀k,k<w.heap.size->O k≠5->w'.heap[k]?=w.heap[k]? /\O' k=O k)(Q:∀k,w'.heap.size<=k->O' k=0):TM gb B w' O' vO vT Of bF cO cT:=by
 obtain⟨X,J,b2⟩:=h.wt;obtain⟨D,U⟩:=C gb J (by omega);have F:∀k,O k=0->k<w.heap.size->w'.heap[k]?=w.heap[k]? /\O' k=0:=λ k V o=>by
  obtain⟨a,b⟩:=C k o (by omega);exact⟨a,by omega⟩
 exact⟨(LG (w:=w) (a:=⟨gb,0,none⟩) D).trans h.c0,(LG (w:=w) (a:=⟨gb,1,none⟩) D).trans h.c1,λ i=>(LU (w:=w) (a:=⟨gb,i,none⟩) D).trans (h.fz i),⟨by omega,by omega,b2⟩,
  h.rO.keep yU.keeps I (λ k o=>(C k (h.rO.1.lt k o).2 (by have:=h.tO k o;omega)).1) F,h.rT.keep wW.keeps I (λ k o=>(C k (h.rT.1.lt k o).2 (by have:=h.tT k o;omega)).1) F,
  λ k o=>by have:=h.tO k o;have:=(C k (h.rO.1.lt k o).2 (by omega)).2;omega,λ k o=>by have:=h.tT k o;have:=(C k (h.rT.1.lt k o).2 (by omega)).2;omega,Q⟩
theorem TM.below(h:TM gb B w O vO vT Of bF cO cT)(o:Bl w w'):TM gb B w' O vO vT Of bF cO cT:=h.keep o.size (λ k C _=>⟨o.block k C,rfl⟩) (λ k C=>h.fr k (MA o.size C))
theorem TM.pushO(h:TM gb B w O vO vT Of bF cO cT){w4:tW}{o:Obj}{g aJ n:Nat}{u:List tV}{x:Int}(hn:Of.length=n)(hu:yU w (λ g=>O g=0) u x)(aW:u.length=1)
  (J:w4.ownsRow B 3 1 (.slice (some ⟨g,0,none⟩) (n+1) aJ) (n+1) (cO.flatten++u)) (D:(w.alloc o).grownBy w4 vO.ownBlock) (aL:vO.ownBlock=some g\/g=w.heap.size+1):
  TM gb B (w4.setCell ⟨gb,0,none⟩ (.slice (some ⟨g,0,none⟩) (n+1) aJ)) (λ k=>if k=g then 2 else O k) (.slice (some ⟨g,0,none⟩) (n+1) aJ) vT (Of++[x]) bF (cO++[u]) cT/\
  (∀k,k<w.heap.size->O k≠1->O k≠2->(w4.setCell ⟨gb,0,none⟩ (.slice (some ⟨g,0,none⟩) (n+1) aJ)).heap[k]?=w.heap[k]? /\(if k=g then 2 else O k)=O k)/\w.heap.size<=w4.heap.size/\∀w0,Below B w0 w->Below B w0 (w4.setCell ⟨gb,0,none⟩ (.slice (some ⟨g,0,none⟩) (n+1) aJ)):=by
 obtain⟨o1,b1,b2⟩:=h.wt;have bK:=D.size;have ez:(w.alloc o).heap.size=w.heap.size+1:=by simp
 have bC:=(J.lt g rfl)
 have bM:(w4.setCell ⟨gb,0,none⟩ (.slice (some ⟨g,0,none⟩) (n+1) aJ)).heap.size=w4.heap.size:=by simp[MC]
 have Y:g<w.heap.size->O g=2:=λ hg=>by
  rcases aL with e|e
  ·exact h.tO g e
  ·omega
 have U:g≠gb:=λ e=>by
  have:=Y (by omega);rw[e]at this;omega
 have I:∀k,k<w.heap.size->O k≠1->O k≠2->(w4.setCell ⟨gb,0,none⟩ (.slice (some ⟨g,0,none⟩) (n+1) aJ)).heap[k]?=w.heap[k]? /\(if k=g then 2 else O k)=O k:=λ k C h1 h2=>by
  have aO:k≠gb:=λ e=>h1 (by rw[e];exact o1)
  have aR:k≠g:=λ e=>h2 (by rw[e];exact Y (by omega))
  exact⟨(iC w4 gb 0 _ aO).trans ((D.block k (by omega) (λ e=>h2 (h.tO k e.symm))).trans (LN w o k C)),aA aR⟩
 have Q:w4.heap[gb]?=w.heap[gb]? :=(D.block gb (by omega) (λ e=>by have:=h.tO gb e.symm;omega)).trans (LN w o gb b1);have hc:∀i,i≠0->(w4.setCell ⟨gb,0,none⟩ (.slice (some ⟨g,0,none⟩) (n+1) aJ)).cell? ⟨gb,i,none⟩=w.cell? ⟨gb,i,none⟩:=λ i hi=>by
  rw[LR (h:=by intro e';injection e';omega)];exact LG (w:=w) (a:=⟨gb,i,none⟩) Q
 have hP:∀k,O k=0->k<w.heap.size->(w4.setCell ⟨gb,0,none⟩ (.slice (some ⟨g,0,none⟩) (n+1) aJ)).heap[k]?=w.heap[k]? /\(if k=g then 2 else O k)=0:=λ k X C=>by
  obtain⟨a,b⟩:=I k C (by omega) (by omega);exact⟨a,by rw[b];exact X⟩
 have Z:=h.rO.app yU.keeps (P':=λ k=>(if k=g then 2 else O k)=0) hn hu aW J D (λ k X C=>⟨λ e=>by have:=h.tO k e;omega,(hP k X C).2⟩);have V:sT yU 3 1 (w4.setCell ⟨gb,0,none⟩ (.slice (some ⟨g,0,none⟩) (n+1) aJ)) B (λ k=>(if k=g then 2 else O k)=0) (.slice (some ⟨g,0,none⟩) (n+1) aJ) (Of++[x]) (cO++[u]):=
  Z.keep yU.keeps (by omega) (λ k C=>iC w4 gb 0 _ (λ e=>by
   have e2:g=k:=by simpa[LZ]using C
   exact U (by rw[e2];exact e))) (λ k X _=>⟨iC w4 gb 0 _ (λ e=>by
   rw[e,aA (Ne.symm U)]at X;omega),X⟩)
 refine⟨⟨LY _ _ _ ((LG (w:=w) (a:=⟨gb,0,none⟩) Q).trans h.c0),(hc 1 (by omega)).trans h.c1,λ i=>by rw[MF];exact(LU (w:=w) (a:=⟨gb,i,none⟩) Q).trans (h.fz i),⟨(aA (Ne.symm U)).trans o1,by omega,b2⟩,V,h.rT.keep wW.keeps (by omega) (λ k C=>(I k (h.rT.1.lt k C).2 (by have:=h.tT k C;omega) (by have:=h.tT k C;omega)).1) hP,λ k C=>by
  have e2:g=k:=by simpa[LZ]using C
  exact aB e2.symm,λ k C=>by
  have h3:=h.tT k C;have h4:=(I k (h.rT.1.lt k C).2 (by omega) (by omega)).2;exact h4.trans h3,λ k C=>?_⟩,I,by omega,λ w0 F=>?_⟩
 ·have:k≠g:=by omega
  simp only[aA this];exact h.fr k (by omega)
 ·have hs:=(NK B w4).setCell (p:=⟨gb,0,none⟩) b2 (.slice (some ⟨g,0,none⟩) (n+1) aJ);refine⟨hs.os.trans (D.os.trans F.os),hs.tape.trans (D.tape.trans F.tape),hs.output.trans (D.output.trans F.output),by have:=F.size;omega,λ k C=>?_⟩;have h1:=hs.block k C;have aT:k<w.heap.size:=by omega
  exact h1.trans (((D.block k (by omega) (λ e=>by have:=(h.rO.1.lt k e.symm).1;omega)).trans (LN w o k aT)).trans (F.block k C))
theorem TM.pushT(h:TM gb B w O vO vT Of bF cO cT){w4:tW}{o:Obj}{g aJ n:Nat}{u:List tV}{x:Nat->Int}(hn:bF.length=n)(hu:wW w (λ g=>O g=0) u x)(aW:u.length=1)
  (J:w4.ownsRow B 59 1 (.slice (some ⟨g,0,none⟩) (n+1) aJ) (n+1) (cT.flatten++u)) (D:(w.alloc o).grownBy w4 vT.ownBlock) (aL:vT.ownBlock=some g\/g=w.heap.size+1):
  TM gb B (w4.setCell ⟨gb,1,none⟩ (.slice (some ⟨g,0,none⟩) (n+1) aJ)) (λ k=>if k=g then 3 else O k) vO (.slice (some ⟨g,0,none⟩) (n+1) aJ) Of (bF++[x]) cO (cT++[u])/\
  (∀k,k<w.heap.size->O k≠1->O k≠3->(w4.setCell ⟨gb,1,none⟩ (.slice (some ⟨g,0,none⟩) (n+1) aJ)).heap[k]?=w.heap[k]? /\(if k=g then 3 else O k)=O k)/\w.heap.size<=w4.heap.size/\∀w0,Below B w0 w->Below B w0 (w4.setCell ⟨gb,1,none⟩ (.slice (some ⟨g,0,none⟩) (n+1) aJ)):=by
 obtain⟨o1,b1,b2⟩:=h.wt;have bK:=D.size;have ez:(w.alloc o).heap.size=w.heap.size+1:=by simp
 have bC:=(J.lt g rfl)
 have bM:(w4.setCell ⟨gb,1,none⟩ (.slice (some ⟨g,0,none⟩) (n+1) aJ)).heap.size=w4.heap.size:=by simp[MC]
 have Y:g<w.heap.size->O g=3:=λ hg=>by
  rcases aL with e|e
  ·exact h.tT g e
  ·omega
 have U:g≠gb:=λ e=>by
  have:=Y (by omega);rw[e]at this;omega
 have I:∀k,k<w.heap.size->O k≠1->O k≠3->(w4.setCell ⟨gb,1,none⟩ (.slice (some ⟨g,0,none⟩) (n+1) aJ)).heap[k]?=w.heap[k]? /\(if k=g then 3 else O k)=O k:=λ k C h1 h2=>by
  have aO:k≠gb:=λ e=>h1 (by rw[e];exact o1)
  have aR:k≠g:=λ e=>h2 (by rw[e];exact Y (by omega))
  exact⟨(iC w4 gb 1 _ aO).trans ((D.block k (by omega) (λ e=>h2 (h.tT k e.symm))).trans (LN w o k C)),aA aR⟩
 have Q:w4.heap[gb]?=w.heap[gb]? :=(D.block gb (by omega) (λ e=>by have:=h.tT gb e.symm;omega)).trans (LN w o gb b1);have hc:∀i,i≠1->(w4.setCell ⟨gb,1,none⟩ (.slice (some ⟨g,0,none⟩) (n+1) aJ)).cell? ⟨gb,i,none⟩=w.cell? ⟨gb,i,none⟩:=λ i hi=>by
  rw[LR (h:=by intro e';injection e';omega)];exact LG (w:=w) (a:=⟨gb,i,none⟩) Q
 have hP:∀k,O k=0->k<w.heap.size->(w4.setCell ⟨gb,1,none⟩ (.slice (some ⟨g,0,none⟩) (n+1) aJ)).heap[k]?=w.heap[k]? /\(if k=g then 3 else O k)=0:=λ k X C=>by
  obtain⟨a,b⟩:=I k C (by omega) (by omega);exact⟨a,by rw[b];exact X⟩
 have Z:=h.rT.app wW.keeps (P':=λ k=>(if k=g then 3 else O k)=0) hn hu aW J D (λ k X C=>⟨λ e=>by have:=h.tT k e;omega,(hP k X C).2⟩);have V:sT wW 59 1 (w4.setCell ⟨gb,1,none⟩ (.slice (some ⟨g,0,none⟩) (n+1) aJ)) B (λ k=>(if k=g then 3 else O k)=0) (.slice (some ⟨g,0,none⟩) (n+1) aJ) (bF++[x]) (cT++[u]):=
  Z.keep wW.keeps (by omega) (λ k C=>iC w4 gb 1 _ (λ e=>by
   have e2:g=k:=by simpa[LZ]using C
   exact U (by rw[e2];exact e))) (λ k X _=>⟨iC w4 gb 1 _ (λ e=>by
   rw[e,aA (Ne.symm U)]at X;omega),X⟩)
 refine⟨⟨(hc 0 (by omega)).trans h.c0,LY _ _ _ ((LG (w:=w) (a:=⟨gb,1,none⟩) Q).trans h.c1),λ i=>by rw[MF];exact(LU (w:=w) (a:=⟨gb,i,none⟩) Q).trans (h.fz i),⟨(aA (Ne.symm U)).trans o1,by omega,b2⟩,h.rO.keep yU.keeps (by omega) (λ k C=>(I k (h.rO.1.lt k C).2 (by have:=h.tO k C;omega) (by have:=h.tO k C;omega)).1) hP,V,λ k C=>by
  have h3:=h.tO k C;have h4:=(I k (h.rO.1.lt k C).2 (by omega) (by omega)).2;exact h4.trans h3,λ k C=>by
  have e2:g=k:=by simpa[LZ]using C
  exact aB e2.symm,λ k C=>?_⟩,I,by omega,λ w0 F=>?_⟩
 ·have:k≠g:=by omega
  simp only[aA this];exact h.fr k (by omega)
 ·have hs:=(NK B w4).setCell (p:=⟨gb,1,none⟩) b2 (.slice (some ⟨g,0,none⟩) (n+1) aJ);refine⟨hs.os.trans (D.os.trans F.os),hs.tape.trans (D.tape.trans F.tape),hs.output.trans (D.output.trans F.output),by have:=F.size;omega,λ k C=>?_⟩;have h1:=hs.block k C;have aT:k<w.heap.size:=by omega
  exact h1.trans (((D.block k (by omega) (λ e=>by have:=(h.rT.1.lt k e.symm).1;omega)).trans (LN w o k aT)).trans (F.block k C))
theorem TM.set(h:TM gb B w O vO vT Of bF cO cT){rb:Nat}(D:O rb=5)(j:Nat)(x:tV):TM gb B (w.setCell ⟨rb,j,none⟩ x) O vO vT Of bF cO cT:=
 h.keep (by simp[MC]) (λ k _ o=>⟨iC w rb j _ (λ e=>o (by rw[e];exact D)),rfl⟩) (λ k C=>h.fr k (by simpa[MC]using C))
theorem TM.done(h:TM gb B w O vO vT Of bF cO cT){rb:Nat}{f:Nat->Int}(o:CR w O B rb f 256):TM gb B w (λ k=>if k=rb then 0 else O k) vO vT Of bF cO cT/\wW w (λ g=>(if g=rb then 0 else O g)=0) [.slice (some ⟨rb,0,none⟩) 256 256] f:=by
 obtain⟨I,C,b2⟩:=o.wt;exact⟨h.keep lR (λ k _ D=>⟨rfl,aA (λ e=>D (by rw[e];exact I))⟩) (λ k F=>by
  have:k≠rb:=by omega
  simp only[aA this];exact h.fr k F),rb,rfl,aB rfl,C,o.c⟩
theorem TM.start(w:tW):TM w.heap.size w.heap.size (w.alloc (.cells #[.slice none 0 0,.slice none 0 0] 68)) (λ k=>if k=w.heap.size then 1 else if k<w.heap.size then 5 else 0) (.slice none 0 0) (.slice none 0 0) [] [] [] []:=by
 have C:(w.alloc (.cells #[.slice none 0 0,.slice none 0 0] 68)).heap.size=w.heap.size+1:=by simp
 exact⟨(MH _ _ _ 0 rfl).trans rfl,(MH _ _ _ 1 rfl).trans rfl,λ i=>NR _ _ _ i rfl,⟨aB rfl,by omega,lR⟩,sT.start _ _ _,sT.start _ _ _,λ k e=>(by cases e),λ k e=>(by cases e),λ k o=>by rw[aA (by omega),aA (by omega)]⟩
theorem TM.view(h:TM gb B w O vO vT Of bF cO cT){n:Nat}(hn:0<n)(h1:Of.length=n)(h2:bF.length=n):Sy w vO vT n (λ i=>Of.getD i 0) (λ i=>bF.getD i (λ _=>0)):=by
 obtain⟨gO,qO,_,V,_,Y,_⟩:=h.rO.at (LD (i:=0) (by omega));obtain⟨gT,qT,_,X,_,Z,_⟩:=h.rT.at (LD (i:=0) (by omega));have hT:∀i,i<n->∃g,w.cell? ⟨gT,i,none⟩=some (.slice (some ⟨g,0,none⟩) 256 256)/\g<w.heap.size/\∀b,b<256->w.cell? ⟨g,b,none⟩=some (.int .i64 (bF.getD i (λ _=>0) b)):=λ i hi=>by
  have hg:=LD (l:=bF) (i:=i) (by omega);obtain⟨g2,q2,c,F,_,_,⟨g,I,_,Q,U⟩,_,o⟩:=h.rT.at hg;rw[X]at F;injection F with C _ _;injection C with C;injection C with C _;subst C;refine⟨g,?_,Q,λ b J=>?_⟩
  ·have:=o 0 _ (by rw[I];rfl);rw[NS,MR]at this;exact this
  ·rw[U b J,LO,hg];rfl
 obtain⟨rw,D⟩:=Ua hT;refine⟨gO,qO,gT,qT,rw,by rw[V,h1],by rw[X,h2],⟨Y,Z,λ s hs=>(D s hs).2.1⟩,λ i hi=>?_,λ i hi=>(D i hi).1,λ i b hi J=>(D i hi).2.2 b J⟩;have hg:=LD (l:=Of) (i:=i) (by omega);obtain⟨g2,q2,c,F,_,_,I,_,o⟩:=h.rO.at hg;rw[V]at F;injection F with C _ _;injection C with C;injection C with C _;subst C;have I:c=[.int .i64 _]:=I;have:=o 0 _ (by rw[I];rfl);rw[NS,MR]at this;rw[this];show _=some (NN IntKind.i64 (Of.getD i 0));rw[LO,hg]
 rfl
end
end
section
structure KS(W wr:tW)(sb n:Nat)(bI:Nat->Int)(m:Nat)(y:tV)(first:List Nat):Prop where
 os:wr.os=W.os
 tape:wr.tape=W.tape
 output:wr.output=W.output
 sz:W.heap.size<=wr.heap.size
 bk:∀k,k<W.heap.size->k≠sb->wr.heap[k]?=W.heap[k]?
 c:∀p,p<m->wr.cell? ⟨sb,p,none⟩=some (.int .i64 (bI p))
 a:∀p,p<n->∃x:Int,wr.cell? ⟨sb,p,none⟩=some (.int .i64 x)
 fz:∀i,wr.frozen? ⟨sb,i,none⟩=false
 ro:wr.ownsRow W.heap.size 3 1 y first.length (kI first)
 b:sb<W.heap.size
section
variable {W wr:tW}{sb n m:Nat}{bI:Nat->Int}{y:tV}{first:List Nat}
theorem KS.start(C:sb<W.heap.size)(o:∀p,p<n->∃x:Int,W.cell? ⟨sb,p,none⟩=some (.int .i64 x))(D:∀i,W.frozen? ⟨sb,i,none⟩=false)(bI:Nat->Int):KS W W sb n bI 0 (.slice none 0 0) []:=
 ⟨rfl,rfl,rfl,lR,λ _ _ _=>rfl,λ p F=>by omega,o,D,NG _ _ _ 1,C⟩
theorem KS.put(h:KS W wr sb n bI m y first)(X:m<n)(t:Int):KS W (wr.setCell ⟨sb,m,none⟩ (.int .i64 t)) sb n (Eh bI m t) (m+1) y first:=by
 have I:=(NK 0 wr).setCell (p:=⟨sb,m,none⟩) zL (.int .i64 t);have hz:(wr.setCell ⟨sb,m,none⟩ (.int .i64 t)).heap.size=wr.heap.size:=by simp[MC]
 have V:=h.b;have Y:=h.sz;have Q:∀k,k≠sb->(wr.setCell ⟨sb,m,none⟩ (.int .i64 t)).heap[k]?=wr.heap[k]? :=λ k o=>iC wr sb m _ o
 obtain⟨x,Z⟩:=h.a m X;have J:∀j,j≠m->(wr.setCell ⟨sb,m,none⟩ (.int .i64 t)).cell? ⟨sb,j,none⟩=wr.cell? ⟨sb,j,none⟩:=λ j hj=>LR _ _ _ _ (by intro U;injection U;omega)
 have F:(wr.setCell ⟨sb,m,none⟩ (.int .i64 t)).cell? ⟨sb,m,none⟩=some (.int .i64 t):=LY _ _ _ Z;refine⟨I.os.trans h.os,I.tape.trans h.tape,I.output.trans h.output,by omega,λ k C o=>(Q k o).trans (h.bk k C o),λ p D=>?_,λ p D=>?_,λ i=>by rw[MF];exact h.fz i,iH h.ro (λ k C=>Q k (by have:=(h.ro.lt k C).1;omega)),V⟩
 ·by_cases e:p=m
  ·rw[e,F,uA]
  ·rw[J p e,oQ e];exact h.c p (by omega)
 ·by_cases e:p=m
  ·rw[e];exact⟨t,F⟩
  ·rw[J p e];exact h.a p D
theorem KS.again{F:Int}(h:KS W wr sb n (Eh bI m F) (m+1) y first)(C:m<n)(t:Int):KS W (wr.setCell ⟨sb,m,none⟩ (.int .i64 t)) sb n (Eh bI m t) (m+1) y first:=by
 have o:KS W wr sb n bI m y first:=⟨h.os,h.tape,h.output,h.sz,h.bk,λ p D=>by rw[h.c p (by omega),oQ (by omega)],h.a,h.fz,h.ro,h.b⟩
 exact o.put C t
theorem KS.app(h:KS W wr sb n bI m y first){w4:tW}{o:Obj}{g aJ k v:Nat}(F:first.length=k)(J:w4.ownsRow W.heap.size 3 1 (.slice (some ⟨g,0,none⟩) (k+1) aJ) (k+1) (kI first++[.int .i64 (v:Int)]))(C:(wr.alloc o).grownBy w4 y.ownBlock):KS W w4 sb n bI m (.slice (some ⟨g,0,none⟩) (k+1) aJ) (first++[v]):=by
 subst F;have V:=h.b;have Y:=h.sz;have X:=C.size;have ez:(wr.alloc o).heap.size=wr.heap.size+1:=by simp
 have I:∀k,k<W.heap.size->w4.heap[k]?=wr.heap[k]? :=λ k F=>(C.block k (by omega) (λ e=>by have:=(h.ro.lt k e.symm).1;omega)).trans (LN wr o k (by omega))
 have D:=I sb V;refine⟨C.os.trans h.os,C.tape.trans h.tape,C.output.trans h.output,by omega,λ k F Q=>(I k F).trans (h.bk k F Q),λ p U=>(LG (w:=wr) (a:=⟨sb,p,none⟩) D).trans (h.c p U),λ p U=>?_,λ i=>(LU (w:=wr) (a:=⟨sb,i,none⟩) D).trans (h.fz i),by unfold kI at*;rw[LI,LM,NE];exact J,V⟩;obtain⟨x,Z⟩:=h.a p U;exact⟨x,(LG (w:=wr) (a:=⟨sb,p,none⟩) D).trans Z⟩
end
def JE(d:Nat->Nat->Bool)(first:List Nat)(m s:Nat)(t:Int):Prop:=(t= -1/\∀(o f:Nat),o<s->first[o]?=some f->d f m=true)\/∃C f:Nat,t=(C:Int)/\first[C]?=some f/\d f m=false
theorem GI.rep{N:List RN}{l0:List jL}{Ls:List (List jL)}{To:Nat->Nat->Int}(hf:mK N aQ ks){lw:List Nat}(aL:lw.length=256)(U:G7 N lw)(h:GI N aQ l0 Ls Of To Ls.length 0):∀b,b<256->∃k,k<256/\lw[k]?=some k/\∀p,p<Ls.length->To p b=To p k:=λ b hb=>by
 have hx:=LD (l:=lw) (i:=b) (by omega);obtain⟨h1,h2,h3⟩:=U b _ hx;refine⟨_,by omega,h2,λ p D=>?_⟩;have hl:=LD D;have ha:=h.lead p b _ ⟨hb,.inl D⟩ hl;have o:=h.lead p (lw[b]'(by omega)) _ ⟨by omega,.inl D⟩ hl;have he:=Hq hf.cl h3 (Ls[p]'D);unfold Ar at ha o;rw[he]at o;rcases ha with⟨a1,I⟩|⟨k,l',a1,I,V,a4,X⟩<;>rcases o with⟨J,b2⟩|⟨F,C,J,b2,Y,b4,Z⟩
 ·rw[I,b2]
 ·exact absurd a1 b4
 ·exact absurd J a4
 ·have Q:k=F:=by
   rcases NQ k F with e|e|e
   ·exact absurd (λ x=>(X x).trans (Z x).symm) (h.dif k F l' C I e V Y)
   ·exact e
   ·exact absurd (λ x=>(Z x).trans (X x).symm) (h.dif F k C l' b2 e Y V)
  rw[a1,J,Q]
theorem GI.bG{N:List RN}{l0:List jL}{Ls:List (List jL)}{To:Nat->Nat->Int}(o:mK N aQ ks)(h:GI N aQ l0 Ls Of To p b):∀i,i<Ls.length-> -1<=Of.getD i 0/\Of.getD i 0<8:=λ i hi=>by
 by_cases e:i=0
 ·rw[e,LO,h.zo];exact⟨by decide,by decide⟩
 ·have C:=LD hi;rw[LO,h.of i _ (by omega) C];have:=Xv (N:=N) (l:=Ls[i]'hi) (R:=8) (λ x D=>by
   have:=(o.bnd ((h.ok i _ (by omega) C).2.2 x D).ub).2.2;have:=o.r8;omega)
  exact this
end
section
def Az(N:List RN)(l0:List jL)(n:Nat)(o:Nat->Int)(tr:Nat->Nat->Int):Prop:=
 uE n 256 (zS o) tr/\(∀s,s<n-> -1<=o s/\o s<8)/\o 0= -1/\∀b u,lF 256 (b::u)->Hv N l0 (b::u) (jN (zS o) tr 0 (b::u))
theorem DX{w:tW}{v:tV}(h:w.cell? ⟨g,i,none⟩=some v):g<w.heap.size:=by
 apply MD;intro o;have e:w.heap[g]?=none:=by simp;omega
 simp[World.cell?,e]at h
attribute [local go_sem ↓] Go.wp_at_zero Go.wp_at_succ
theorem cW:(Tryz.prog.info? 68).map (λ i=>i.size)=some 2:=by kernel_rfl
theorem CR.poke{w:tW}{O:Nat->Nat}{f:Nat->Int}(h:CR w O B rb f b)(o:b<256)(t:Int):CR (w.setCell ⟨rb,b,none⟩ (.int .i64 t)) O B rb f b:=by
 have k:=h.put (f':=λ j=>if j=b then t else f j) o (aB rfl) (λ j C=>aA (by omega));exact⟨k.wt,λ j C=>by rw[k.c j (by omega),aA (by omega)],k.a,k.fz⟩
theorem Rr{L:List NV}{R:List RV}(hf:mK (jB L) (R.map RV.n) ks)(d5:bE<4){w:tW}(h:FR fb w L gN aJ)(hr:II fb w R gR cR){v:tV}{lw:List Nat}(hv:IL w v lw)(nL:lw.length=256)(e5:G7 (jB L) lw):
  QX ME 22 #[.pointer (some ⟨fb,0,none⟩),.int .i64 (bE:Int),v] w λ e w'=>∃(v1 v2:tV)(n:Nat)(of:Nat->Int)(tr:Nat->Nat->Int),e=.returned (.agg #[v1,v2])/\Below w.heap.size w w'/\Sy w' v1 v2 n of tr/\n<=1025/\Az (jB L) (rC bE 0 R) n of tr:=by
 obtain⟨a,vc,rfl,o1,hv⟩:=hv;obtain⟨gl,ol,rfl,d6,d4⟩:=hv.resolve_left (λ e=>by rw[e]at nL;simp at nL);have hS:QP (Below w.heap.size w (w.alloc (.cells #[.slice none 0 0,.slice none 0 0] 68))):=bR.alloc lR _;have a3:=fV (Rl (bE:=bE) hf d5 (h.below hS.o lR) (hr.below hS.o lR) (v:= .slice (some ⟨gl,ol,none⟩) lw.length vc) (lw:=lw) ⟨_,_,rfl,o1,.inr ⟨gl,ol,rfl,LQ d6 hS.o.size,λ i m hm=>(hS.o.cell (p:=⟨gl,ol+i,none⟩) d6).trans (d4 i m hm)⟩⟩ nL e5);have q0:=fV d4;have O5:=fV hf;have h3:=fV nL;have g9:=fV e5;have r3:QP (∀x,x∈rC bE 0 R->UB (jB L) (R.map RV.n) x):=e8;have CS:(w.alloc (.cells #[.slice none 0 0,.slice none 0 0] 68)).heap.size=w.heap.size+1:=by simp
 have n3:(w.alloc (.cells #[.slice none 0 0,.slice none 0 0] 68)).cell? ⟨w.heap.size,0,none⟩=some (.slice none 0 0):=(MH _ _ _ 0 rfl).trans rfl;have n4:(w.alloc (.cells #[.slice none 0 0,.slice none 0 0] 68)).cell? ⟨w.heap.size,1,none⟩=some (.slice none 0 0):=(MH _ _ _ 1 rfl).trans rfl;have t4:∀i,(w.alloc (.cells #[.slice none 0 0,.slice none 0 0] 68)).frozen? ⟨w.heap.size,i,none⟩=false:=λ i=>NR _ _ _ i rfl
 obtain⟨i0,m3,o3,e7,e9⟩:=QT bY;have HI:QP (Tryz.prog.info? 3=some i0/\i0.zero=some (.int .i64 0)/\i0.size=1/\i0.bytes=8):=⟨m3,o3,e7,e9⟩
 rw[nL]at a3 ⊢;clear m3 o3 e7 e9 hf h hr nL e5 d4 hv o1;generalize R.map RV.n=aQ at*;generalize rC bE 0 R=l0 at*;go_enter func22,ntmps22;go_upto_region 1 with fail;generalize w.alloc (.cells #[.slice none 0 0,.slice none 0 0] 68)=W0 at*;go_upto_region 2 with fail;refine a3.o.mono ?_;rintro e w1 ⟨gb,Ls,Of,To,rfl,hV,bC⟩;have x2:=bC.1.few O5.o;have N0:0<Ls.length:=(LF.1 bC.1.z).1;have y2:=fV bC.1;have qR:=fV bC.1.auto;have q6:=fV bC.1.order;have i2:=fV (bC.1.rep O5.o h3.o g9.o);obtain⟨gO,qO,gT,qT,rw,e4⟩:=bC.view;have X4:QP (Below W0.heap.size W0 w1):=⟨hV.os,hV.tape,hV.output,hV.size,hV.block⟩
 obtain⟨of,H3⟩:∃of:Nat->Int,of=λ i=>Of.getD i 0:=⟨_,rfl⟩
 rw[<-H3]at e4;have r4:QP (of 0= -1):=by unfold QP;rw[H3];simp only[LO,bC.1.zo];rfl
 have a7:QP (∀i,i<Ls.length-> -1<=of i/\of i<8):=by rw[H3];exact bC.1.bG O5.o
 have j3:QP (∀b u,lF 256 (b::u)->Hv (jB L) l0 (b::u) (jN (zS of) To 0 (b::u))):=λ b u hl=>by
  have:=bC.1.tok O5.o r3.o u b 0 l0 bC.1.z hl;rw[H3];exact this
 have a4:=fV e4;have e7:=X4.o.size;generalize Ls.length=n at*;clear bC e4 hV H3 a3;go_upto_region 3 with fail;refine(Re a4.o (by omega) (λ i hi=>(a7.o i hi).1) qR.o).mono ?_;rintro e w2 ⟨al,rfl,L1,W2⟩;have O7:=fV L1;have qL:=fV W2;have e9:=L1.bl.size;have A1:=fV (a4.o.below L1.bl lR);have Go:=fV (mA X4.o L1.bl);clear L1 W2;have m0:gl<w2.heap.size:=by omega
 have S5:QP (∀(i m:Nat),lw[i]?=some m->w2.cell? ⟨gl,ol+i,none⟩=some (.int .i64 (m:Int))):=λ i m hm=>(Go.o.cell (p:=⟨gl,ol+i,none⟩) (by show gl<W0.heap.size;omega)).trans ((hS.o.cell (p:=⟨gl,ol+i,none⟩) d6).trans (q0.o i m hm))
 have k9:w1.heap.size<w2.heap.size:=DX (O7.o.ba.c 0 N0);go_upto_region 4 with fail;refine(Mx A1.o (by omega) (λ i hi=>(a7.o i hi).1) qR.o qL.o O7.o.ba k9 h3.o m0 S5.o (λ b k hk=>(g9.o b k hk).1) i2.o).mono ?_;rintro e w3 ⟨db,d,rfl,hY,m9,l3⟩;have a0:=fV hY;have i1:=fV m9;have q1:=fV l3;have CB:=hY.bl.size;have aR:=fV (A1.o.below hY.bl lR);have hH:=fV (mA Go.o hY.bl);have sR:=fV (O7.o.ba.below hY.bl k9);have c1:=aR.o.c1;clear hY m9 l3 a4 A1 O7 X4 Go S5;go_upto_region 5 with(first|(at_make;refine QU w3 rfl _ _ 59 rfl w3.heap.size 3 i0 (.int .i64 0) 1 MS HI.o.1 HI.o.2.1 HI.o.2.2.1 .i64 .i64 _ n n rfl rfl rfl rfl (by rw[HI.o.2.2.2];omega) (by unfold QW;omega) lR ?_;intro w4 eL iN))
 have hW:Below w3.heap.size w3 w4:=⟨iN.os,iN.tape,iN.output,iN.size,λ k hk=>iN.block k hk (by simp)⟩
 have v5:w3.heap.size<w4.heap.size:=(eL.lt w3.heap.size rfl).2;have g7:QP (KS w4 w4 w3.heap.size n (λ _=>0) 0 (.slice none 0 0) []):=KS.start v5 (λ p hp=>⟨0,by
  have h1:=eL.cells rfl p (.int .i64 0) (by
   rw[F1,MQ,NM,aB hp];rfl)
  rw[oI,MB]at h1;exact h1⟩) (λ i=>rV eL i) _
 have T2:=fV (aR.o.below hW lR);have p4:=fV (mA hH.o hW);have O8:=fV (sR.o.below hW (by omega));have Pl:=fV (a0.o.da.below hW lR);have hR:w1.heap.size<w3.heap.size:=by omega
 have W3:w2.heap.size<w3.heap.size:=a0.o.da.b0;have bK:QP (∀k,k<w3.heap.size->k<w4.heap.size/\k≠w3.heap.size):=λ k hk=>by omega
 have O6:QP (gb<w3.heap.size/\gO<w3.heap.size/\gT<w3.heap.size/\(∀i,i<n->rw i<w3.heap.size)/\∀i,i<n->db i<w3.heap.size):=⟨aR.o.b0,aR.o.b1,aR.o.b2,aR.o.b3,a0.o.da.b1⟩
 have cF:=fV hW;clear eL iN hW c1;generalize hsb:w3.heap.size=sb at*;have a8:=fV hsb;clear hsb;generalize w1.heap.size=ab at*;generalize w2.heap.size=dg at*;go_wp2_with fail
 go_loopw [11,12] (λ y z wr=>∃(m:Nat)(bI:Nat->Int)(first:List Nat),m<=n/\z=.int .i64 (m:Int)/\KS w4 wr sb n bI m y first/\TI al d m bI first/\first.length<=m) (λ _ z _=>n-(QO z).toNat)
 case atStart=>exact⟨0,_,[],by omega,rfl,g7.o,TI.start _ _ _,by simp⟩
 case round=>
  clear g7;obtain⟨m,bI,first,hm,rfl,C,hG,l4⟩:=hrel;have HK:=fV C;have HT:=fV hG;have c1:wr.cell? ⟨gb,1,none⟩=some (.slice (some ⟨gO,0,none⟩) n qO):=(LG (w:=w4) (a:=⟨gb,1,none⟩) (C.bk gb (bK.o gb O6.o.1).1 (bK.o gb O6.o.1).2)).trans T2.o.c1;by_cases hE:m<n
  ·have y9:=iI m n (by omega)
   obtain⟨x0,v4⟩:=C.a m hE;have xf:=C.fz m;have A2:=fV (C.put hE (-1));have ya:wr.cell? ⟨ab,m,none⟩=some (.bool (al m)):=(LG (w:=w4) (a:=⟨ab,m,none⟩) (C.bk ab (bK.o ab hR).1 (bK.o ab hR).2)).trans (O8.o.c m hE);have z2:=C.sz;obtain⟨ay,cy,ey⟩:=gA C.ro;subst ey;clear C hG;go_upto_region 10 with fail;have z0:=A2.o.c m (by omega);rw[uA]at z0;have yb:(wr.setCell ⟨sb,m,none⟩ (.int .i64 (-1))).cell? ⟨ab,m,none⟩=some (.bool (al m)):=(LG (w:=wr) (a:=⟨ab,m,none⟩) (iC wr sb m _ (bK.o ab hR).2)).trans ya;clear v4 xf ya c1 HK;generalize wr.setCell ⟨sb,m,none⟩ (.int .i64 (-1))=W5 at*;by_cases bN:0<m/\al m=false
   ·obtain⟨m4,d3⟩:=bN;have d0:decide ((m:Int)>(0:Int))=true:=by simp;omega
    have bT:=fV (HT.o.skip m4 d3);rw[d3]at yb;clear d3;go_wp2;go_roundw
    case rel=>exact⟨m+1,_,first,by omega,by go_num,A2.o,bT.o,by omega⟩
    case measure=>simp[QO];omega
   ·have hM:m=0\/al m=true:=by
     by_cases e:m=0
     ·exact .inl e
     ·right
      cases hv:al m with
      | true=>rfl
      | false=>exact absurd ⟨by omega,hv⟩ bN
    have B2:=fV hM;have W1:QP (∀(s0 f:Nat),first[s0]?=some f->d f m=false->TI al d (m+1) (Eh bI m (s0:Int)) first):=λ s0 f h1 h2=>by
     have y6:=(HT.o.fi s0 f h1).1;exact HT.o.old (by omega) (B2.o.resolve_left (by omega)) h1 h2
    have T3:QP ((∀(s f:Nat),first[s]?=some f->d f m=true)->TI al d (m+1) (Eh bI m (first.length:Int)) (first++[m])):=λ hh=>HT.o.new B2.o (q1.o m hE) hh
    obtain⟨nf,hL⟩:=xE (first.length)
    have g0:QP (∀(s f:Nat),first[s]?=some f->f<n):=λ s f hf=>by have:=(HT.o.fi s f hf).1;omega
    rw[hL]at A2 l4 T3 ⊢;have V:=fV hL
    go_cut [55] from 35 to 97 (λ q wc=>q=.bool false/\wc=W5)
    case first=>
     rcases hM with e|e
     ·have d0:decide ((m:Int)>(0:Int))=false:=by simp;omega
      have e0:¬0<m:=by omega
      clear e bN;go_wp2_with fail;go_meet
      case rel=>exact⟨rfl,rfl⟩
     ·rw[e]at yb;clear bN e;by_cases m4:0<m
      ·have d0:decide ((m:Int)>(0:Int))=true:=by simp;omega
       go_wp2_with fail;go_meet
       case rel=>exact⟨rfl,rfl⟩
      ·have d0:decide ((m:Int)>(0:Int))=false:=by simp;omega
       go_wp2_with fail;go_meet
       case rel=>exact⟨rfl,rfl⟩
    case rest=>
     obtain⟨rfl,rfl⟩:=hcut;clear bN hM yb;go_wp2_with fail
     go_loopw [13] (λ z x1=>∃(s:Nat)(t:Int),s<=nf/\z=.int .i64 (s:Int)/\KS w4 x1 sb n (Eh bI m t) (m+1) (.slice ay nf cy) first/\JE d first m s t/\ -1<=t/\t<2000) (λ z _=>nf-(QO z).toNat)
     case atStart=>exact⟨0, -1,by omega,rfl,A2.o,.inl ⟨rfl,λ s' f t5=>by omega⟩,by omega,by omega⟩
     case round=>
      clear A2 z0;obtain⟨s,t,hs,rfl,C,X2,z3,z6⟩:=hrel;have hT:=fV C;have z0:=C.c m (by omega);rw[uA]at z0;have x5:=C.sz;have BG:=C.fz m;by_cases O0:s<nf
      ·have c8:=dT s nf (by omega)
       have t6:=iI s nf (by omega)
       rcases X2 with⟨et,M2⟩|aW
       ·subst et;have hx:=LD (l:=first) (i:=s) (by rw[V.o];exact O0);obtain⟨f,ef⟩:∃f,first[s]'(by rw[V.o];exact O0)=f:=⟨_,rfl⟩
        rw[ef]at hx;have cP:=g0.o s f hx;have s1:=iI f n (by omega)
        obtain⟨g2,aL,eg⟩:∃g2 aL,ML ay nf cy=.slice (some ⟨g2,0,none⟩) nf aL:=by
         rcases iL C.ro with e|⟨g2,aL,e⟩
         ·injection e with _ e3 _;omega
         ·rw[V.o]at e;exact⟨g2,aL,e⟩
        injection eg with ea _ ec;subst ea ec;have y0:wr.cell? ⟨g2,s,none⟩=some (.int .i64 (f:Int)):=by
         have:=C.ro.cells (g:=g2) rfl s _ (qG hx);rw[oI,MB]at this;exact this
        have dr:wr.cell? ⟨dg,f,none⟩=some (.slice (some ⟨db f,0,none⟩) n n):=(LG (w:=w4) (a:=⟨dg,f,none⟩) (C.bk dg (bK.o dg W3).1 (bK.o dg W3).2)).trans (Pl.o.r f cP);have dc:wr.cell? ⟨db f,m,none⟩=some (.bool (d f m)):=(LG (w:=w4) (a:=⟨db f,m,none⟩) (C.bk (db f) (bK.o _ (O6.o.2.2.2.2 f cP)).1 (bK.o _ (O6.o.2.2.2.2 f cP)).2)).trans (Pl.o.c f m cP hE);have q5:=fV M2;have HX:=fV hx;clear M2 hx ef C
        cases hdv:d f m with
        | true=>
         rw[hdv]at dc;have c4:QP (JE d first m (s+1) (-1)):= .inl ⟨rfl,λ s' f' t5 hD=>by
          by_cases e:s'=s
          ·subst e;rw[HX.o]at hD;injection hD with hD;rw[<-hD];exact hdv
          ·exact q5.o s' f' (by omega) hD⟩
         clear hdv;go_wp2;go_roundw
         case rel=>exact⟨s+1, -1,by omega,by go_num,hT.o,c4.o,by omega,by omega⟩
         case measure=>simp[QO];omega
        | false=>
         rw[hdv]at dc;have c4:QP (JE d first m (s+1) (s:Int)):= .inr ⟨s,f,rfl,HX.o,hdv⟩;have A3:=fV (hT.o.again hE (s:Int));clear hdv;go_wp2;go_roundw
         case rel=>exact⟨s+1,(s:Int),by omega,by go_num,A3.o,c4.o,by omega,by omega⟩
         case measure=>simp[QO];omega
       ·obtain⟨s0,f0,e1,e2,e3⟩:=aW;subst e1;have bT:=fV (W1.o s0 f0 e2 e3);have dt:decide ((s0:Int)<(0:Int))=false:=by simp
        clear e2 e3 C;go_wp2;go_roundw
        case rel=>exact⟨m+1,_,first,by omega,by go_num,hT.o,bT.o,by rw[V.o];omega⟩
        case measure=>simp[QO];omega
      ·have c8:=dF s nf (by omega)
       rcases X2 with⟨et,M2⟩|aW
       ·subst et;have bT:=fV (T3.o (λ s' f' hD=>M2 s' f' (by have:=(LF.1 hD).1;rw[V.o]at this;omega) hD));have A3:=fV (hT.o.again hE (nf:Int));have z1:=hT.o.a m hE;have hU:=fV A3.o.ro;rw[V.o]at hU;clear M2 C;go_upto_region 18 with fail;generalize wr.setCell ⟨sb,m,none⟩ (.int .i64 (nf:Int))=W7 at*;have x6:=A3.o.sz;go_wp2_with (first|(at_builtin;refine gB W7 rfl (.tmp 94) (.tmp 96) 59 rfl w4.heap.size 3 (.int .i64 0) 1 8 MS bY rfl (by decide) (by decide) (.slice ay nf cy) nf (kI first) [.int .i64 (m:Int)] _ rfl hU.o _ rfl rfl rfl (by simp[LS]) (by omega) (by omega) ?_;intro g8 hQ w8 U D bM hF;have q4:=fV (A3.o.app V.o U D);clear U D bM hF));go_roundw
        case rel=>exact⟨m+1,_,first++[m],by omega,by go_num,q4.o,bT.o,by rw[LI,V.o,LM];omega⟩
        case measure=>simp[QO];omega
       ·obtain⟨s0,f0,e1,e2,e3⟩:=aW;subst e1;have bT:=fV (W1.o s0 f0 e2 e3);have dt:decide ((s0:Int)<(0:Int))=false:=by simp
        clear e2 e3 C;go_wp2;go_roundw
        case rel=>exact⟨m+1,_,first,by omega,by go_num,hT.o,bT.o,by rw[V.o];omega⟩
        case measure=>simp[QO];omega
  ·have em:m=n:=by omega
   have dm:=dF m n (by omega)
   have H6:=C;rw[em]at H6 hG;have B1:=fV H6;have j2:=fV hG;have hA:Below sb w3 wr:=⟨C.os.trans cF.o.os,C.tape.trans cF.o.tape,C.output.trans cF.o.output,by have:=cF.o.size;have:=C.sz;omega,λ k hk=>(C.bk k (bK.o k hk).1 (bK.o k hk).2).trans (cF.o.block k hk)⟩
   have g5:=fV (aR.o.below hA (by rw[a8.o];exact lR));have f3:=fV (sR.o.below hA hR);have eN:QP (Below W0.heap.size W0 wr):=⟨hA.os.trans hH.o.os,hA.tape.trans hH.o.tape,hA.output.trans hH.o.output,MA hH.o.size (by have:=a8.o;have:=hA.size;omega),λ k hk=>(hA.block k (by have:=hH.o.size;have:=a8.o;omega)).trans (hH.o.block k hk)⟩
   have y1:=C.sz;have n6:sb<wr.heap.size:=by have:=C.b;omega
   have bS:=fV (TM.start wr);have f4:QP (Below wr.heap.size wr (wr.alloc (.cells #[.slice none 0 0,.slice none 0 0] 68))):=bR.alloc lR _;obtain⟨ay,cy,ey⟩:=gA C.ro;subst ey;obtain⟨nf,hL⟩:=xE (first.length)
   rw[hL]at l4 B1 ⊢;have V:=fV hL;have HZ:=fV (hG.z N0);have m6:0<nf:=by rw[<-hL];exact(LF.1 (hG.z N0)).1
   have f9:QP (∀(s f:Nat),first[s]?=some f->f<n):=λ s f hf=>(hG.fi s f hf).1
   clear C H6 hG HK HT hL em hA cF aR sR T2 O8 Pl p4;go_upto_region 20 with fail;generalize hWT:wr.alloc (.cells #[.slice none 0 0,.slice none 0 0] 68)=WT at*;generalize e6:wr.heap.size=tb at*;have b4:=fV e6;clear hWT e6;obtain⟨WL,r5⟩:∃WL,WL=wr:=⟨_,rfl⟩
   subst r5;have AL:tb<=WL.heap.size:=by rw[b4.o];exact lR
   have q7:QP (∀X:tW,Below tb WL X->∀p,p<n->X.cell? ⟨sb,p,none⟩=some (.int .i64 (bI p))):=λ X hX p hp=>(hX.cell (p:=⟨sb,p,none⟩) n6).trans (B1.o.c p hp)
   have p3:QP (∀X:tW,Below tb WL X->∀p,p<n->X.cell? ⟨ab,p,none⟩=some (.bool (al p))):=λ X hX p hp=>(hX.cell (p:=⟨ab,p,none⟩) (by show ab<tb;omega)).trans (f3.o.c p hp)
   have g6:QP (∀X:tW,Below tb WL X->GV gb X n gO qO gT qT rw of To):=λ X hX=>g5.o.below hX (by rw[b4.o];exact lR)
   go_wp2_with fail
   go_loopw [15] (λ z p2=>∃(s:Nat)(O:Nat->Nat)(vO vT:tV)(Y:List Int)(F:List (Nat->Int)) (cO cT:List (List tV)),s<=nf/\z=.int .i64 (s:Int)/\TM tb tb p2 O vO vT Y F cO cT/\Y.length=s/\F.length=s/\QP (∀(i:Nat)(x:Int),Y[i]?=some x->x=of (first.getD i 0))/\QP (∀(i:Nat)(f:Nat->Int),F[i]?=some f->∀b,b<256->f b=rB To al bI first i b)/\Below tb WL p2/\QP (∀k,k<tb->O k=5)) (λ z _=>nf-(QO z).toNat)
   case atStart=>exact⟨0,_,_,_,[],[],_,_,by omega,rfl,bS.o,rfl,rfl,fV (λ i x hx=>by simp at hx),fV (λ i f hf=>by simp at hf),f4.o,fV (λ k hk=>by rw[aA (by omega),aB hk])⟩
   case round=>
    clear bS f4;obtain⟨s,O,vO,vT,Y,F,cO,cT,hs,rfl,J,m7,n5,h8,i4,I,a5⟩:=hrel;have bS:=fV J;have bO:=fV I;have CN:=I.size;have hJ:=fV m7;have hK:=fV n5;by_cases O0:s<nf
    ·have c8:=dT s nf (by omega)
     have t6:=iI s nf (by omega)
     have hx:=LD (l:=first) (i:=s) (by rw[V.o];exact O0);obtain⟨f,ef⟩:∃f,first[s]'(by rw[V.o];exact O0)=f:=⟨_,rfl⟩
     rw[ef]at hx;have cP:=f9.o s f hx;have s1:=iI f n (by omega)
     have l9:first.getD s 0=f:=vQ hx;have HX:=fV hx;have g3:=fV l9;obtain⟨g2,aL,eg⟩:∃g2 aL,ML ay nf cy=.slice (some ⟨g2,0,none⟩) nf aL:=by
      rcases iL B1.o.ro with e|⟨g2,aL,e⟩
      ·injection e with _ e3 _;omega
      ·rw[V.o]at e;exact⟨g2,aL,e⟩
     injection eg with ea _ ec;subst ea ec;have s2:=(B1.o.ro.lt g2 rfl).2;have HY:QP (∀X:tW,Below tb WL X->X.cell? ⟨g2,s,none⟩=some (.int .i64 (f:Int))):=λ X hX=>by
      have:=B1.o.ro.cells (g:=g2) rfl s _ (qG HX.o);rw[oI,MB]at this;exact(hX.cell (p:=⟨g2,s,none⟩) (by show g2<tb;rw[<-b4.o];exact s2)).trans this
     clear J I hx l9 ef m7 n5;go_upto_region 24 with(first|(at_make;refine QU wr rfl _ _ 59 rfl wr.heap.size 3 i0 (.int .i64 0) 1 MS HI.o.1 HI.o.2.1 HI.o.2.2.1 .i64 .i64 _ _ 256 rfl rfl rfl rfl (by rw[HI.o.2.2.2];omega) (by unfold QW;omega) lR ?_;intro w5 eM lH))
     have gL:Below wr.heap.size wr w5:=⟨lH.os,lH.tape,lH.output,lH.size,λ k hk=>lH.block k hk (by simp)⟩
     have w6:wr.heap.size<w5.heap.size:=(eM.lt wr.heap.size rfl).2;have eS:QP (CR w5 (λ k=>if k=wr.heap.size then 5 else O k) tb wr.heap.size (rB To al bI first s) 0):=by
      refine⟨⟨aB rfl,w6,by omega⟩,λ j hj=>by omega,λ j hj=>⟨0,?_⟩,λ i=>rV eM i⟩;have h1:=eM.cells rfl j (.int .i64 0) (by
       rw[F1,MQ,NM,aB hj];rfl)
      rw[oI,MB]at h1;exact h1
     have H1:QP (TM tb tb w5 (λ k=>if k=wr.heap.size then 5 else O k) vO vT Y F cO cT):=bS.o.keep gL.size (λ k hk _=>⟨gL.block k hk,aA (by omega)⟩) (λ k hk=>by
      have:k≠wr.heap.size:=by omega
      simp only[aA this];exact bS.o.fr k (by omega))
     have S2:QP (Below tb WL w5):=⟨gL.os.trans bO.o.os,gL.tape.trans bO.o.tape,gL.output.trans bO.o.output,MA bO.o.size gL.size,λ k hk=>(gL.block k (by omega)).trans (bO.o.block k hk)⟩
     clear eM lH gL bS bO;obtain⟨O2,d1⟩:∃O2,O2=(λ k=>if k=wr.heap.size then 5 else O k):=⟨_,rfl⟩
     rw[<-d1]at eS H1;have h4:QP (∀k,k<tb->O2 k=5):=λ k hk=>by rw[d1];simp only[aA (show k≠wr.heap.size by omega)];exact a5.o k hk
     clear d1 a5;generalize wr.heap.size=rb at*;have q2:QP (∀b:Nat,rB To al bI first s b=if mN al (To f b)=true then bI (To f b).toNat else -1):=λ b=>by unfold rB;rw[g3.o]
     go_wp2_with fail
     go_loopw [17] (λ z f2=>∃b:Nat,b<=256/\z=.int .i64 (b:Int)/\TM tb tb f2 O2 vO vT Y F cO cT/\CR f2 O2 tb rb (rB To al bI first s) b/\Below tb WL f2) (λ z _=>256-(QO z).toNat)
     case atStart=>exact⟨0,by omega,rfl,H1.o,eS.o,S2.o⟩
     case round=>
      clear H1 eS S2;obtain⟨b,hb,rfl,J,hC,I⟩:=hrel;have bS:=fV J;have eS:=fV hC;have bO:=fV I;have W9:=hC.wt.1;have N1:=hC.wt.2.2;by_cases Z:b<256
      ·have y4:(0:Int)<=(b:Int)/\(b:Int)<(256:Int):=by omega
       have y5:decide ((b:Int)<(256:Int))=true:=by simp;omega
       obtain⟨o4,aW⟩:=hC.a b Z;have fz:=hC.fz b;have f6:QP (∀t:Int,rB To al bI first s b=t->CR (wr.setCell ⟨rb,b,none⟩ (.int .i64 t)) O2 tb rb (rB To al bI first s) (b+1)):=λ t ht=>eS.o.put Z ht (λ _ _=>rfl)
       have bT:QP (∀t:Int,TM tb tb (wr.setCell ⟨rb,b,none⟩ (.int .i64 t)) O2 vO vT Y F cO cT):=λ t=>bS.o.set W9 b _
       have eR:QP (∀t:Int,Below tb WL (wr.setCell ⟨rb,b,none⟩ (.int .i64 t))):=λ t=>bO.o.setCell (p:=⟨rb,b,none⟩) N1 _
       clear J hC I;go_upto_region 28 with fail;have a9:QP (TM tb tb (wr.setCell ⟨rb,b,none⟩ (.int .i64 (-1))).drew O2 vO vT Y F cO cT):=(bT.o (-1)).below ⟨rfl,rfl,rfl,lR,λ _ _=>rfl⟩;have Hb:QP (CR (wr.setCell ⟨rb,b,none⟩ (.int .i64 (-1))).drew O2 tb rb (rB To al bI first s) b):=(eS.o.poke Z (-1)).keep lR ⟨rfl,rfl⟩;have rL:QP (Below tb WL (wr.setCell ⟨rb,b,none⟩ (.int .i64 (-1))).drew):=⟨(eR.o (-1)).os,(eR.o (-1)).tape,(eR.o (-1)).output,(eR.o (-1)).size,(eR.o (-1)).block⟩
       have f5:QP (rB To al bI first s b= -1->CR (wr.setCell ⟨rb,b,none⟩ (.int .i64 (-1))).drew O2 tb rb (rB To al bI first s) (b+1)):=λ e=>(f6.o (-1) e).keep lR ⟨rfl,rfl⟩
       have gv:=g6.o _ (eR.o (-1));have c2:=gv.c2;have t0:=gv.t f cP;have r0:=gv.r f b cP Z;have y0:=HY.o _ (eR.o (-1));have i3:=fV (qR.o.rng f b cP Z);have a2:=fV (q2.o b);clear aW fz f6 bT eR bS eS bO gv;generalize wr.setCell ⟨rb,b,none⟩ (.int .i64 (-1))=W6 at*;obtain⟨tt,j4⟩:=xE (To f b)
       rw[j4]at r0 i3 a2;clear j4;go_big_region
       all_goals
        rcases i3.o with e1|e1
        ·subst e1;have tL:=fV (f5.o (a2.o.trans (aA (by unfold mN;simp))));clear c2 t0 r0 y0;go_wp2;go_roundw
         case rel=>exact⟨b+1,by omega,by go_num,a9.o,tL.o,rL.o⟩
         case measure=>simp[QO];omega
        ·obtain⟨ti,r6⟩:∃t:Nat,tt=(t:Int):=⟨tt.toNat,by omega⟩
         subst r6;have n9:ti<n:=by omega
         have AH:=iI ti n (by omega)
         have y8:decide ((0:Int)<=(ti:Int))=true:=by simp
         have ya:W6.cell? ⟨ab,ti,none⟩=some (.bool (al ti)):=p3.o _ rL.o ti n9;have ys:W6.cell? ⟨sb,ti,none⟩=some (.int .i64 (bI ti)):=q7.o _ rL.o ti n9;have hP:QP (rB To al bI first s b=if al ti=true then bI ti else -1):=by
          unfold QP;rw[a2.o];have:mN al (ti:Int)=al ti:=by unfold mN;simp
          rw[this,MG]
         clear c2 t0 r0 y0
         cases hav:al ti with
         | true=>
          rw[hav]at ya hP;obtain⟨o4,aW⟩:=Hb.o.a b Z;have t3:W6.cell? ⟨rb,b,none⟩=some (.int .i64 o4):=aW;have y3:W6.frozen? ⟨rb,b,none⟩=false:=Hb.o.fz b;have tL:=fV (Hb.o.put Z (t:=bI ti) (f':=rB To al bI first s) (hP.o.trans (aB rfl)) (λ _ _=>rfl));have r1:=fV (a9.o.set W9 b (.int .i64 (bI ti)));have p5:QP (Below tb WL (W6.drew.setCell ⟨rb,b,none⟩ (.int .i64 (bI ti)))):=rL.o.setCell (p:=⟨rb,b,none⟩) N1 _;generalize bI ti=sti at*;clear hav aW;go_wp2;go_roundw
          case rel=>exact⟨b+1,by omega,by go_num,r1.o,tL.o,p5.o⟩
          case measure=>simp[QO];omega
         | false=>
          rw[hav]at ya hP;have tL:=fV (f5.o (hP.o.trans (aA (by decide))));clear hav ys;go_wp2;go_roundw
          case rel=>exact⟨b+1,by omega,by go_num,a9.o,tL.o,rL.o⟩
          case measure=>simp[QO];omega
      ·have eb:b=256:=by omega
       subst eb;obtain⟨n7,W8⟩:=J.done hC;have l1:Below wr.heap.size wr wr.drew:=⟨rfl,rfl,rfl,lR,λ _ _=>rfl⟩
       have b5:=fV (n7.below l1);have f8:QP (wW wr.drew (λ g=>(if g=rb then 0 else O2 g)=0) [.slice (some ⟨rb,0,none⟩) 256 256] (rB To al bI first s)):=W8;have P0:QP (Below tb WL wr.drew):=⟨I.os,I.tape,I.output,I.size,I.block⟩
       have gv:=g6.o wr I;have c1:=gv.c1;have o0:=gv.o f cP;have y0:=HY.o wr I;have ct:=J.c0;have ft:=J.fz 0;obtain⟨aO,p0,eO⟩:=gA J.rO.1;subst eO;have hU:=fV J.rO.1;rw[hJ.o]at ct hU b5;have c3:QP (∀k,(ML aO s p0).ownBlock=some k->O2 k=2):=by
        unfold QP;have:=J.tO;rw[hJ.o]at this;exact this
       have e6:=J.wt.2.1;have c6:=fV J.wt.1;have EA:=I.size;clear J hC I n7 W8 l1 gv bS eS bO;generalize hofv:of f=ofv at*;have h6:=fV hofv;clear hofv;have x3:=N1;go_upto_region 31 with fail
       go_cut [15] from 98 to 160 (λ q wx=>q=.int .i64 (s:Int)/\∃(O9:Nat->Nat)(v9:tV)(c9:List (List tV)),TM tb tb wx O9 v9 vT (Y++[ofv]) F c9 cT/\wW wx (λ g=>O9 g=0) [.slice (some ⟨rb,0,none⟩) 256 256] (rB To al bI first s)/\Below tb WL wx/\QP (∀k,k<tb->O9 k=5))
       case first=>
        go_region_law ((refine sF wr.drew rfl (.tmp 141) (.tmp 152) 59 rfl tb 3 (.int .i64 0) 1 8 MS bY rfl (by decide) (by decide) (.slice aO s p0) s cO.flatten [.int .i64 ofv] _ rfl hU.o wr.heap.size rfl rfl rfl (by simp[LS]) (by omega) (by show tb<=wr.heap.size;omega) ?_;intro g8 hQ w8 U D bM hF;have m8:=((gH D (k:=tb) (by show tb<wr.heap.size;omega) (λ e=>by have:=c3.o tb e.symm;have:=c6.o;omega)).1 0).trans ct;have n8:=((gH D (k:=tb) (by show tb<wr.heap.size;omega) (λ e=>by have:=c3.o tb e.symm;have:=c6.o;omega)).2 0).trans ft;have hI:=fV U;have A0:=fV D;have nN:=fV bM;clear U D bM))
        all_goals
         obtain⟨Q,H5,f1,cN⟩:=b5.o.pushO (x:=ofv) hJ.o (show yU _ _ [.int .i64 ofv] ofv from rfl) rfl hI.o A0.o nN.o;have s3:=(hI.o.lt g8 rfl).1;have eX:=fV Q;have sW:=fV (cN WL P0.o);have w7:(w8.setCell ⟨tb,0,none⟩ (.slice (some ⟨g8,0,none⟩) (s+1) hQ)).heap.size=w8.heap.size:=by simp[MC]
         have hN:=fV (wW.keeps wr.drew _ _ (λ k=>(if k=g8 then 2 else if k=rb then 0 else O2 k)=0) _ _ f8.o (MA f1 (Nat.le_of_eq w7.symm)) (λ k h0 hk=>⟨(H5 k hk (by omega) (by omega)).1,(H5 k hk (by omega) (by omega)).2.trans h0⟩));have E6:QP (∀k,k<tb->(if k=g8 then 2 else if k=rb then 0 else O2 k)=5):=λ k hk=>by rw[aA (by omega),aA (by omega)];exact h4.o k hk
         clear Q H5 f1 cN m8 n8 hI A0 nN hF;go_wp2_with fail;go_meet
         case rel=>exact⟨rfl,_,_,_,eX.o,hN.o,sW.o,E6⟩
       case rest=>
        obtain⟨rfl,O9,v9,c9,Q,W4,cN,E6⟩:=hcut;have eX:=fV Q;have hN:=fV W4;have sW:=fV cN;have c7:=Q.c1;have j5:=Q.fz 1;obtain⟨aT,p1,eT⟩:=gA Q.rT.1;subst eT;have H0:=fV Q.rT.1;rw[hK.o]at c7 H0 eX;have c5:QP (∀k,(ML aT s p1).ownBlock=some k->O9 k=3):=by
         unfold QP;have:=Q.tT;rw[hK.o]at this;exact this
        have X0:=Q.wt.2.1;have H2:=fV Q.wt.1;have f1:=cN.size;clear Q W4 cN c1 o0 y0 ct ft hU c3 c6 b5 f8 P0;go_upto_region 22 with(first|(at_builtin;refine gB wc rfl (.tmp 156) (.tmp 158) 66 rfl tb 59 (.slice none 0 0) 1 24 NB cH rfl (by decide) (by decide) (.slice aT s p1) s cT.flatten [.slice (some ⟨rb,0,none⟩) 256 256] _ rfl H0.o _ rfl rfl rfl (by simp[LS]) (by omega) (by omega) ?_;intro g8 hQ w8 U D bM hF;have m8:=((gH D (k:=tb) X0 (λ e=>by have:=c5.o tb e.symm;have:=H2.o;omega)).1 1).trans c7;have n8:=((gH D (k:=tb) X0 (λ e=>by have:=c5.o tb e.symm;have:=H2.o;omega)).2 1).trans j5;have hI:=fV U;have A0:=fV D;have nN:=fV bM;clear U D bM))
        obtain⟨O3,_,_,H4⟩:=eX.o.pushT hK.o hN.o rfl hI.o A0.o nN.o;have s3:=(hI.o.lt g8 rfl).1;have b6:=fV O3;have Ha:=fV (H4 WL sW.o);have a6:QP (∀k,k<tb->(if k=g8 then 3 else O9 k)=5):=λ k hk=>by rw[aA (by omega)];exact E6.o k hk
        have h9:QP (∀(i:Nat)(x:Int),(Y++[ofv])[i]?=some x->x=of (first.getD i 0)):=λ i x hx=>by
         by_cases hi:i<Y.length
         ·rw[LJ hi]at hx;exact h8.o i x hx
         ·have:=(LF.1 hx).1;rw[LI,LM]at this;have e:i=Y.length:=by omega
          subst e;rw[LP lR,NC]at hx;have e:=sJ hx
          rw[hJ.o,g3.o,h6.o];exact e.symm
        have i5:QP (∀(i:Nat)(f:Nat->Int),(F++[rB To al bI first s])[i]?=some f->∀b,b<256->f b=rB To al bI first i b):=λ i f hf b hb=>by
         by_cases hi:i<F.length
         ·rw[LJ hi]at hf;exact i4.o i f hf b hb
         ·have:=(LF.1 hf).1;rw[LI,LM]at this;have e:i=F.length:=by omega
          subst e;rw[LP lR,NC]at hf;have e:rB To al bI first s=f:=by simpa using hf
          rw[hK.o,<-e]
        clear O3 H4 m8 n8 hF hI A0 nN H0 c5 eX hN c7 j5 H2;generalize w8.setCell ⟨tb,1,none⟩ (.slice (some ⟨g8,0,none⟩) (s+1) hQ)=W10 at*;go_wp2;go_roundw
        case rel=>exact⟨s+1,_,_,_,_,_,_,_,by omega,by go_num,b6.o,by rw[LI,hJ.o];rfl,by rw[LI,hK.o];rfl,h9,i5,Ha.o,a6⟩
        case measure=>simp[QO];omega
    ·have d2:s=nf:=by omega
     have c8:=dF s nf (by omega)
     have hB:Below W0.heap.size W0 wr:=⟨I.os.trans eN.o.os,I.tape.trans eN.o.tape,I.output.trans eN.o.output,MA eN.o.size I.size,λ k hk=>(I.block k (by omega)).trans (eN.o.block k hk)⟩
     have e0:=(hB.cell (p:=⟨w.heap.size,0,none⟩) (by show w.heap.size<W0.heap.size;omega)).trans n3;have e1:=(hB.cell (p:=⟨w.heap.size,1,none⟩) (by show w.heap.size<W0.heap.size;omega)).trans n4;have f0:∀i,wr.frozen? ⟨w.heap.size,i,none⟩=false:=λ i=>(hB.frozen (p:=⟨w.heap.size,i,none⟩) (by show w.heap.size<W0.heap.size;omega)).trans (t4 i)
     have r7:=f0 0;have r8:=f0 1;have t0:=J.c0;have t1:=J.c1;have v0:vO.oneCell'=true:=by obtain⟨x,y,e⟩:=gA J.rO.1;rw[e];rfl
     have v3:vT.oneCell'=true:=by obtain⟨x,y,e⟩:=gA J.rT.1;rw[e];rfl
     have h7:QP (∀v∈ [vO,vT],v.oneCell'=true):=λ v hv=>by
      rcases OK.1 hv with e|e
      ·rw[e];exact v0
      ·rw[MM.1 e];exact v3
     have q3:QP (wr.rangeAt tb 0 [vO,vT]):=λ j v hv=>by
      rcases j with _|_|j
      ·have e:=sJ hv
       rw[<-e];exact t0
      ·have e:=sJ hv
       rw[<-e];exact t1
      ·simp at hv
     have j1:QP (wr.there w.heap.size 0 2):=λ j hj=>by
      rcases j with _|_|j
      ·exact⟨by show(wr.cell? ⟨w.heap.size,0,none⟩).isSome=true;rw[e0];rfl,r7⟩
      ·exact⟨by show(wr.cell? ⟨w.heap.size,1,none⟩).isSome=true;rw[e1];rfl,r8⟩
      ·omega
     have k0:∀k,k≠w.heap.size->(wr.setCells w.heap.size 0 [vO,vT]).heap[k]?=wr.heap[k]? :=λ k m5=>(iC (wr.setCell ⟨w.heap.size,0,none⟩ vO) w.heap.size 1 vT m5).trans (iC wr w.heap.size 0 vO m5)
     have k7:wr.heap.size<=(wr.setCells w.heap.size 0 [vO,vT]).heap.size:=(fX [vO,vT] 0 wr w.heap.size (NK 0 _) zL).size;have X1:TM tb tb (wr.setCells w.heap.size 0 [vO,vT]) O vO vT Y F cO cT:=J.keep k7 (λ k _ h5=>⟨k0 k (λ e=>h5 (by rw[e];exact a5.o _ (by omega))),rfl⟩) (λ k hk=>J.fr k (by omega));have o2:=X1.view m6 (by rw[hJ.o];exact d2) (by rw[hK.o];exact d2);have j0:QP (Sy (wr.setCells w.heap.size 0 [vO,vT]) vO vT nf (λ s=>of (first.getD s 0)) (rB To al bI first)):=by
      obtain⟨g1,c1,g2,c2,w9,k1,k2,k3,k4,k5,k6⟩:=o2;refine⟨g1,c1,g2,c2,w9,k1,k2,k3,λ i hi=>?_,k5,λ i b hi hb=>?_⟩
      ·have hx:=LD (l:=Y) (i:=i) (by rw[hJ.o];omega);have:=h8.o i _ hx;rw[k4 i hi];show some (NN .i64 (Y.getD i 0))=_;rw[LO,hx];exact congrArg (λ x=>some (NN .i64 x)) this
      ·have hx:=LD (l:=F) (i:=i) (by rw[hK.o];omega);have:=i4.o i _ hx b hb;rw[k6 i b hi hb];show some (NN .i64 (F.getD i (λ _=>0) b))=_;rw[LO,hx,<-this];rfl
     have p6:QP (Below w.heap.size w (wr.setCells w.heap.size 0 [vO,vT])):=fX _ 0 _ _ (mA hS.o hB) lR;have r2:QP (Az (jB L) l0 nf (λ s=>of (first.getD s 0)) (rB To al bI first)):=by
      have l2:=j2.o.canon qR.o q6.o qL.o i1.o;rw[V.o]at l2;refine⟨l2,λ i hi=>?_,?_,λ b u hl=>?_⟩
      ·have hx:=LD (l:=first) (i:=i) (by rw[V.o];exact hi);show -1<=of (first.getD i 0)/\of (first.getD i 0)<8;rw[vQ hx];exact a7.o _ (f9.o i _ hx)
      ·show of (first.getD 0 0)= -1;rw[vQ HZ.o];exact r4.o
      ·have:=j2.o.obs0 qR.o qL.o i1.o (b::u) hl;have ht:=j3.o b u hl;rw[<-this]at ht;exact ht
     have s5:nf<=1025:=by omega
     clear J I hB f0 d2 o2 X1 k0 k7;go_wp2_with (first
      | (refine QQ rfl 68 (.tmp 14) rfl tb 0 rfl [vO,vT] _ q3.o underlying68 rfl cW ?_)
      | (refine QR rfl 68 (.tmp 6) (.tmp 161) rfl w.heap.size 0 [vO,vT].toArray rfl rfl j1.o cW (QS h7.o) ?_))
     refine lE results22 w.heap.size 0 [vO,vT] _ rfl ?_ underlying68 rfl cW rfl ?_
     ·exact NH _ _ _ _ j1.o
     ·exact⟨vO,vT,nf,_,_,rfl,p6.o,j0.o,s5,r2.o⟩
end
end Go.Proofs.YtgjgjgihceijnaaGreat
namespace Go.Stn
variable {lo a b:Nat}
section
def Bu(p:Int):Prop:=p= -1\/p=10\/p=32
def S6(s x:tB)(a:Nat):Prop:=∀i,i<=x.size->(gF s (a+i)=gF x i)\/(Bu (gF x i)/\Bu (gF s (a+i)))
def Nx{α:Type}(a:Nat):Option (α×Nat)->Option (α×Nat)
 | none=>none
 | some (v,j)=>some (v,a+j)
variable {s x:tB}{a i:Nat}
theorem S6.is(h:S6 s x a)(hi:i<=x.size){b:Int}(I:b≠ -1/\b≠10/\b≠32):kU s b (a+i)=kU x b i:=by
 unfold kU;rcases h i hi with e|⟨o,C⟩
 ·rw[e]
 ·have D:¬gF s (a+i)=b:=λ e=>by rcases C with k|k|k<;>omega
  have F:¬gF x i=b:=λ e=>by rcases o with k|k|k<;>omega
  rw[decide_eq_false D,decide_eq_false F]
theorem zN{p:Int}(h:Bu p):nT p=false:=by
 rcases h with rfl|rfl|rfl<;>rfl
theorem S6.vis(h:S6 s x a)(hi:i<=x.size):nT (gF s (a+i))=nT (gF x i)/\(nT (gF x i)=true->gF s (a+i)=gF x i):=by
 rcases h i hi with e|⟨o,C⟩
 ·rw[e];exact⟨rfl,λ _=>rfl⟩
 ·rw[zN o,zN C];exact⟨rfl,λ h=>by cases h⟩
theorem S6.plain(h:S6 s x a)(hi:i<=x.size)(sp:tB):kV (gF s (a+i)) sp=kV (gF x i) sp/\(kV (gF x i) sp=true->gF s (a+i)=gF x i):=by
 rcases h i hi with e|⟨o,C⟩
 ·rw[e];exact⟨rfl,λ _=>rfl⟩
 ·unfold kV;rw[zN o,zN C];exact⟨rfl,λ h=>by simp at h⟩
theorem JK(h:S6 s x a)(hi:i<=x.size):J3 s (a+i)=Nx a (J3 x i):=by
 unfold J3;rw[h.is hi (b:=110) (by decide),h.is hi (b:=115) (by decide)];by_cases o:kU x 110 i=true
 ·rw[aB o,aB o];rfl
 ·rw[aA o,aA o];by_cases C:kU x 115 i=true
  ·rw[aB C,aB C];rfl
  ·rw[aA C,aA C];obtain⟨v1,v2⟩:=h.vis hi;by_cases D:nT (gF x i)=true
   ·rw[v2 D];split
    ·rfl
    ·rfl
   ·rw[aA (λ e=>D (by rw[<-v1];exact e.1)),aA (λ e=>D e.1)];rfl
theorem X8(h:S6 s x a)(hi:i<=x.size)(sp:tB):jK s sp (a+i)=Nx a (jK x sp i):=by
 unfold jK;rw[h.is hi (b:=92) (by decide)];by_cases o:kU x 92 i=true
 ·rw[aB o,aB o];have:=vB (by omega) o;rw[show a+i+1=a+(i+1) by omega];exact JK h (by omega)
 ·rw[aA o,aA o];obtain⟨v1,v2⟩:=h.plain hi sp;rw[v1];by_cases C:kV (gF x i) sp=true
  ·rw[aB C,aB C,v2 C];rfl
  ·rw[aA C,aA C];rfl
theorem Gs(h:S6 s x a)(hi:i<=x.size)(f:Nat->Bool):jQ s f (a+i)=Nx a (jQ x f i):=by
 unfold jQ;rw[X8 h hi]
 cases e:jK x kJ i with
 | none=>rfl
 | some y=>
  obtain⟨v,j⟩:=y;have D:=F9 _ _ _ _ _ e;show(if kU s 45 (a+j)=false then _ else _)=Nx a (if kU x 45 j=false then _ else _);rw[h.is D.2 (b:=45) (by decide)];by_cases o:kU x 45 j=false
  ·rw[aB o,aB o];rfl
  ·rw[aA o,aA o];have F:=vB (b:=45) (by omega) (by simpa using o);rw[show a+j+1=a+(j+1) by omega,X8 h (by omega)]
   cases jK x kJ (j+1)with
   | none=>rfl
   | some y2=>
    obtain⟨v2,C⟩:=y2;show(if v2<v then none else some (jI f v v2,a+C))=Nx a (if v2<v then none else some (jI f v v2,C));split<;>rfl
theorem Se(h:S6 s x a):∀(n m:Nat)(f:Nat->Bool)(i:Nat),i<=x.size->x.size<n+i->x.size<m+i->lL s m f (a+i)=Nx a (lL x n f i):=by
 intro n
 induction n with
 | zero=>intro m f i o D;omega
 | succ n ih=>
  intro m f i hi I F;obtain⟨m,rfl⟩:∃k,m=k+1:=⟨m-1,by omega⟩
  rw[lL,lL,h.is hi (b:=93) (by decide)];by_cases o:kU x 93 i=true
  ·rw[aB o,aB o];rfl
  ·rw[aA o,aA o,Gs h hi]
   cases e:jQ x f i with
   | none=>rfl
   | some y=>
    obtain⟨g,j⟩:=y;have C:=F2 _ _ _ _ _ e;exact ih m g j C.2 (by omega) (by omega)
theorem Ul(h:S6 s x a)(hi:i<=x.size)(C:x.size<=s.size):qD s (a+i)=Nx a (qD x i):=by
 unfold qD;rw[Gs h hi]
 cases e:jQ x gK i with
 | none=>rfl
 | some y=>
  obtain⟨g,j⟩:=y;have o:=F2 _ _ _ _ _ e;exact Se h (x.size+1) (s.size+1) g j o.2 (by omega) (by omega)
theorem JX(h:S6 s x a)(hi:i<=x.size)(C:x.size<=s.size):L4 s (a+i)=Nx a (L4 x i):=by
 unfold L4;rw[h.is hi (b:=94) (by decide)];by_cases o:kU x 94 i=true
 ·have D:=vB (by omega) o;rw[aB o,aB o,show a+i+1=a+(i+1) by omega,Ul h (by omega) C]
  cases qD x (i+1)with
  | none=>rfl
  | some y=>rfl
 ·rw[aA o,aA o];exact Ul h hi C
theorem Og(h:S6 s x a)(hi:i<=x.size)(F:x.size<=s.size):jC s (a+i)=Nx a (jC x i):=by
 unfold jC;rw[h.is hi (b:=91) (by decide),h.is hi (b:=46) (by decide)];by_cases o:kU x 91 i=true
 ·have D:=vB (by omega) o;rw[aB o,aB o,show a+i+1=a+(i+1) by omega];exact JX h (by omega) F
 ·rw[aA o,aA o];by_cases C:kU x 46 i=true
  ·rw[aB C,aB C];rfl
  ·rw[aA C,aA C,X8 h hi]
   cases jK x kK i with
   | none=>rfl
   | some y=>rfl
def DK(x:tB)(a lo:Nat)(o C:Nat->Option (Rx×Nat)):Prop:=∀i,lo<=i->i<=x.size->o (a+i)=Nx a (C i)
theorem DT{D C:Nat->Option (Rx×Nat)}(h:S6 s x a)(U:x.size<=s.size)(Q:tA x C)(F:DK x a (lo+1) D C):DK x a lo (lZ s D) (lZ x C):=λ i V hi=>by
 unfold lZ;rw[h.is hi (b:=40) (by decide)];by_cases o:kU x 40 i=true
 ·have J:=vB (by omega) o;rw[aB o,aB o,show a+i+1=a+(i+1) by omega,F (i+1) (by omega) (by omega)]
  cases e:C (i+1)with
  | none=>rfl
  | some y=>
   obtain⟨r,j⟩:=y;have I:=Q _ _ _ e;show(if kU s 41 (a+j)=true then _ else _)=Nx a (if kU x 41 j=true then _ else _);rw[h.is I.2 (b:=41) (by decide)];split<;>rfl
 ·rw[aA o,aA o,Og h hi U]
  cases jC x i with
  | none=>rfl
  | some y=>rfl
theorem FD(h:S6 s x a)(hi:i<=x.size):mD (gF s (a+i))=mD (gF x i):=by
 rcases h i hi with e|⟨C,D⟩
 ·rw[e]
 ·have o:∀p,Bu p->mD p=0:=λ p F=>by rcases F with rfl|rfl|rfl<;>rfl
  rw[o _ C,o _ D]
theorem Mo{C o:Nat->Option (Rx×Nat)}(h:S6 s x a)(Q:x.size<=s.size)(D:tA x o)(F:DK x a (lo+1) C o):DK x a lo (iZ s C) (iZ x o):=λ i J hi=>by
 unfold iZ;rw[DT h Q D F i J hi]
 cases e:lZ x o i with
 | none=>rfl
 | some y=>
  obtain⟨r,j⟩:=y;have I:=Ie D _ _ _ e;show(if mD (gF s (a+j))=0 then _ else _)=Nx a (if mD (gF x j)=0 then _ else _);rw[FD h I.2];split<;>rfl
theorem Ol(h:S6 s x a)(hi:i<=x.size):lY s (a+i)=lY x i:=by
 rcases h i hi with e|⟨C,D⟩
 ·unfold lY;rw[e]
 ·have o:∀p,Bu p->(decide (p=40\/p=91\/p=46\/p=92)||kV p kK)=false:=λ p F=>by rcases F with rfl|rfl|rfl<;>rfl
  unfold lY;rw[o _ C,o _ D]
theorem Oj{D C:Nat->Option (Rx×Nat)}(h:S6 s x a)(U:x.size<=s.size)(F:tA x C)(I:DK x a (lo+1) D C):∀(n m:Nat)(r:Rx)(i:Nat),lo<=i->i<=x.size->x.size<n+i->x.size<m+i->lX s D m r (a+i)=Nx a (lX x C n r i):=by
 intro n
 induction n with
 | zero=>intro m r i _ o V;omega
 | succ n ih=>
  intro m r i Q hi Y X;obtain⟨m,rfl⟩:∃k,m=k+1:=⟨m-1,by omega⟩
  rw[lX,lX,Ol h hi];by_cases o:lY x i=false
  ·rw[aB o,aB o];rfl
  ·rw[aA o,aA o,Mo h U F I i Q hi]
   cases e:iZ x C i with
   | none=>rfl
   | some y=>
    obtain⟨Z,j⟩:=y;have J:=wQ F _ _ _ e;exact ih m _ j (by omega) J.2 (by omega) (by omega)
theorem b9{D o:Nat->Option (Rx×Nat)}(h:S6 s x a)(I:x.size<=s.size)(C:tA x o)(F:DK x a (lo+1) D o):DK x a lo (vJ s D) (vJ x o):=λ i Q hi=>by
 unfold vJ;rw[Mo h I C F i Q hi]
 cases e:iZ x o i with
 | none=>rfl
 | some y=>
  obtain⟨U,j⟩:=y;have J:=wQ C _ _ _ e;exact Oj h I C F (x.size+1) (s.size+1) U j (by omega) J.2 (by omega) (by omega)
theorem Lg{D C:Nat->Option (Rx×Nat)}(h:S6 s x a)(U:x.size<=s.size)(F:tA x C)(I:DK x a (lo+1) D C):∀(n m:Nat)(r:Rx)(i:Nat),lo<=i->i<=x.size->x.size<n+i->x.size<m+i->kN s D m r (a+i)=Nx a (kN x C n r i):=by
 intro n
 induction n with
 | zero=>intro m r i _ o V;omega
 | succ n ih=>
  intro m r i X hi Z Y;obtain⟨m,rfl⟩:∃k,m=k+1:=⟨m-1,by omega⟩
  rw[kN,kN,h.is hi (b:=124) (by decide)];by_cases o:kU x 124 i=false
  ·rw[aB o,aB o];rfl
  ·have Q:=vB (b:=124) (by omega) (by simpa using o);rw[aA o,aA o,show a+i+1=a+(i+1) by omega,b9 h U F I (i+1) (by omega) (by omega)]
   cases e:vJ x C (i+1)with
   | none=>rfl
   | some y=>
    obtain⟨r2,j⟩:=y;have J:=Ia F _ _ _ e;exact ih m _ j (by omega) J.2 (by omega) (by omega)
theorem EO(h:S6 s x a)(F:x.size<=s.size):∀(f g:Nat),∀i,x.size<f+i->x.size<g+i->i<=x.size->kO s g (a+i)=Nx a (kO x f i):=by
 intro f
 induction f with
 | zero=>intro g i J _ Q;omega
 | succ f ih=>
  intro g i U hg hi;obtain⟨g,rfl⟩:∃k,g=k+1:=⟨g-1,by omega⟩
  have C:DK x a (i+1) (kO s g) (kO x f):=λ j D o=>ih g j (by omega) (by omega) o
  rw[kO,kO,b9 h F (xH x f) C i lR hi]
  cases e:vJ x (kO x f) i with
  | none=>rfl
  | some y=>
   obtain⟨I,j⟩:=y;have D:=Ia (xH x f) _ _ _ e;exact Lg h F (xH x f) C (x.size+1) (s.size+1) I j (by omega) D.2 (by omega) (by omega)
end
theorem tU{s:tB}(o:b<=s.size):(s.extract a b).size=b-a:=by rw[ByteArray.size_extract];omega
theorem zY{s:tB}{i:Nat}(D:b<=s.size)(hi:i<b-a):bt (s.extract a b) i=bt s (a+i):=by
 have o:i<(s.extract a b).size:=by rw[tU D];exact hi
 have C:a+i<s.size:=by omega
 rw[<-kL (s.extract a b) i o,<-kL s (a+i) C];congr 1;exact ByteArray.getElem_extract _
theorem Yh{s:tB}(C:b<=s.size)(D:a<=b)(F:b=s.size\/bt s b=10\/bt s b=32):S6 s (s.extract a b) a:=λ i hi=>by
 rw[tU C]at hi;by_cases o:i<b-a
 ·left;rw[lK (show a+i<s.size by omega),lK (show i<(s.extract a b).size by rw[tU C];exact o),zY C o]
 ·right;have e:a+i=b:=by omega
  refine⟨.inl (jW (by rw[tU C];omega)),?_⟩;rw[e];by_cases I:b=s.size
  ·exact .inl (jW (by omega))
  ·rw[lK (by omega)];rcases F with h|h|h
   ·exact absurd h I
   ·exact .inr (.inl (by omega))
   ·exact .inr (.inr (by omega))
def Zk(s:tB)(c:Nat):Nat->List (Nat×Nat)->Prop
 | a,[]=>a=s.size+1
 | a,p::l=>p.1=a/\a<=p.2/\p.2<=s.size/\(∀j,a<=j->j<p.2->bt s j≠c)/\(p.2=s.size\/bt s p.2=c)/\Zk s c (p.2+1) l
theorem CD(s:tB)(c:Nat):∀(n fr i:Nat),n+i=s.size+1->fr<=i->(∀j,fr<=j->j<i->bt s j≠c)->(n=0->fr=s.size+1)->Zk s c fr (Ym s c n fr i):=by
 intro n
 induction n with
 | zero=>intro fr i _ _ _ h;exact h rfl
 | succ n ih=>
  intro fr i J C F _;by_cases o:i=s.size\/bt s i=c
  ·rw[Jq o];exact⟨rfl,C,by show i<=s.size;omega,F,o,ih (i+1) (i+1) (by omega) lR (λ j D I=>by omega) (λ h=>by omega)⟩
  ·rw[Sh o];refine ih fr (i+1) (by omega) (by omega) (λ j D I=>?_) (λ h=>?_)
   ·by_cases e:j=i
    ·rw[e];exact λ h=>o (.inr h)
    ·exact F j D (by omega)
   ·exact absurd (.inl (by omega)) o
theorem Al(s:tB)(c:Nat):Zk s c 0 (lU s c):=CD s c (s.size+1) 0 0 (by omega) lR (λ j o C=>by omega) (λ h=>by omega)
end Go.Stn
namespace Go.Proofs.YtgjgjgihceijnaaGreat
open Go.Stn
variable {a b c:Nat}
theorem P6{s x:tB}{i:Nat}(h:S6 s x a)(hi:i<x.size):lA s (a+i)=if 0<=jS (bt x i)then some (jS (bt x i),a+i+1)else none:=by
 have D:=lK hi;unfold lA jS;rcases h i (by omega)with e|⟨o,F⟩
 ·rw[e,D];by_cases C:65<=bt x i/\bt x i<69
  ·rw[aB (by omega),aB C,aB (by omega)]
  ·rw[aA (by omega),aA C,aA (by omega)]
 ·have I:¬(65<=gF s (a+i)/\gF s (a+i)<69):=by rcases F with k|k|k<;>omega
  have J:¬(65<=bt x i/\bt x i<69):=by rw[D]at o;rcases o with k|k|k<;>omega
  rw[aA I,aA J,aA (by omega)]
theorem Cp{s x:tB}(h:S6 s x a):lA s (a+x.size)=none:=by
 have o:gF x x.size= -1:=jW lR;unfold lA;rw[aA];rcases h x.size lR with e|⟨_,C⟩
 ·rw[e,o];omega
 ·rcases C with k|k|k<;>omega
theorem Lb{s x:tB}(h:S6 s x a):∀(n m:Nat)(f:Nat->Bool)(aZ:Int)(i:Nat),i<=x.size->x.size<n+i-> -1<=aZ->aZ<=3->4<=(m:Int)+aZ->
  (∀g l,oD x n f aZ i=some (g,l)->jY s m f aZ (a+i)=some (g,a+x.size))/\(oD x n f aZ i=none->∀g b,jY s m f aZ (a+i)=some (g,b)->b<a+x.size):=by
 intro n
 induction n with
 | zero=>intro m f aZ i Q U;omega
 | succ n ih=>
  intro m f aZ i hi Y Q U X;obtain⟨m,rfl⟩:∃k,m=k+1:=⟨m-1,by omega⟩
  by_cases D:i<x.size
  ·have J:=P6 h D;have V:=N4 (bt x i);by_cases F:jS (bt x i)<=aZ
   ·rw[yZ D F];refine⟨λ g l e=>(by cases e),λ _ g b o=>?_⟩;rw[jY,J]at o;by_cases I:0<=jS (bt x i)
    ·rw[aB I]at o;simp only at o;rw[aB F]at o
     cases o
    ·rw[aA I]at o;injection o with o;injection o with _ o;omega
   ·rw[A5 D F,jY,J,aB (show 0<=jS (bt x i) by omega)];simp only;rw[aA F];exact ih m _ _ (i+1) (by omega) (by omega) (by omega) (by omega) (by omega)
  ·have e:i=x.size:=by omega
   rw[zZ (by omega),e,jY,Cp h];exact⟨λ g l C=>(by injection C with C;injection C with C _;rw[C]),λ C=>(by cases C)⟩
theorem A6{s:tB}:rN s a=match lA s a with
  | none=>none
  | some _=>jY s 6 gK (-1) a:=by
 unfold rN
 cases e:lA s a with
 | none=>rfl
 | some y=>
  obtain⟨x,a1⟩:=y;rw[jY,e];simp only;have o:0<=x:=by
   unfold lA at e;split at e
   ·injection e with e;injection e with e _;omega
   ·cases e
  rw[aA (by omega)]
theorem Z2{s x:tB}(h:S6 s x a)(F:0<x.size):
  (∀g l,oD x (x.size+1) gK (-1) 0=some (g,l)->rN s a=some (g,a+x.size))/\(oD x (x.size+1) gK (-1) 0=none->∀g b,rN s a=some (g,b)->b<a+x.size):=by
 have D:=Lb h (x.size+1) 6 gK (-1) 0 (by omega) (by omega) (by omega) (by omega) (by omega);rw[MR]at D;rw[A6];have C:=P6 h F;rw[MR]at C;have I:=N4 (bt x 0);rw[C];by_cases o:0<=jS (bt x 0)
 ·rw[aB o];exact D
 ·rw[aA o];refine⟨λ g l e=>?_,λ _ g b e=>(by cases e)⟩;rw[yZ F (by omega)]at e
  cases e
section
def D7(c:Nat):Int:=if c=46 then 0 else if c=45 then 1 else(c:Int)-65+2
def G0(x:mR):gX:=(x.1,D7 x.2.2.1,x.2.2.2)
theorem Cg{t:tB}{e:Nat}(_:e<=t.size)(o:a+c<=e):(t.extract a e).extract b c=t.extract (a+b) (a+c):=by
 rw[ByteArray.extract_extract,OJ o]
theorem JN{t:tB}{b:Int}(h:gF t a≠b):kU t b a=false:=by
 unfold kU;rw[aF];exact h
theorem U2{t:tB}(h:a<t.size)(o:bt t a=32):kU t 32 a=true:=by
 unfold kU;rw[aE,lK h,o]
 rfl
theorem KR{t:tB}(h:a<t.size->bt t a≠c):kU t (c:Int) a=false:=by
 apply JN;intro e;by_cases o:a<t.size
 ·rw[lK o]at e;exact h o (by omega)
 ·rw[jW (by omega)]at e;omega
theorem AD{t:tB}(h:a<t.size->bt t a≠32):kU t 32 a=false:=KR (c:=32) h
theorem AC{t:tB}(h:a<t.size->bt t a≠10):kU t 10 a=false:=KR (c:=10) h
theorem N6(t:tB):∀(n:Nat)(f:Nat->Bool)(aZ:Int)(a:Nat)(g:Nat->Bool)(b:Nat),jY t n f aZ a=some (g,b)->a<=b
 | 0,f,aZ,a,g,b,h=>by cases h
 | n+1,f,aZ,a,g,b,h=>by
  rw[jY]at h;unfold lA at h;split at h
  ·injection h with h;injection h with _ h;omega
  ·rename_i x a1 e;split at e
   ·injection e with e;injection e with _ e;split at h
    ·cases h
    ·have:=N6 t n _ _ _ _ _ h;omega
   ·cases e
theorem j9{t:tB}{g:Nat->Bool}(h:rN t a=some (g,b)):a<=b:=by
 rw[A6]at h;split at h
 ·cases h
 ·exact N6 t _ _ _ _ _ _ h
theorem I9{t:tB}(h:a<t.size):pR t a=if jS (bt t a)<0/\bt t a≠46/\bt t a≠45 then none else some (D7 (bt t a),a+1):=by
 unfold pR lA kU jS D7;rw[lK h];simp only[aE];by_cases o:bt t a=46
 ·rw[o];rfl
 ·rw[aA (by omega)];by_cases C:bt t a=45
  ·rw[C];rfl
  ·rw[aA (by omega)];by_cases D:65<=bt t a/\bt t a<69
   ·rw[aB (by omega),aB D,aA (by omega),aA o,aA C]
   ·rw[aA (by omega),aA D,aB (by omega)]
theorem Kt{t:tB}(h:t.size<=a):pR t a=none:=by
 unfold pR lA kU;rw[jW h]
 rfl
section
variable {t:tB}{a e:Nat}
theorem Dk(F:e<=t.size)(Q:a<=e)(_:∀j,a<=j->j<e->bt t j≠10)(D:e=t.size\/bt t e=10){p q:Nat}(U:p<=q)(X:q<=e-a)
  (C:∀j,p<=j->j<q->bt (t.extract a e) j≠32) (o:q=e-a\/bt (t.extract a e) q=32):
  S6 t (t.extract (a+p) (a+q)) (a+p)/\(t.extract (a+p) (a+q)).size=q-p/\(∀j,a+p<=j->j<a+q->bt t j≠32)/\(q<e-a->a+q<t.size/\bt t (a+q)=32)/\(q=e-a->kU t 32 (a+q)=false):=by
 refine⟨Yh (by omega) (by omega) ?_,?_,λ j V J=>?_,λ h=>?_,λ h=>?_⟩
 ·rcases o with h|h
  ·rcases D with k|k
   ·exact .inl (by omega)
   ·exact .inr (.inl (by rw[show a+q=e by omega];exact k))
  ·by_cases I:q<e-a
   ·rw[zY F I]at h;exact .inr (.inr h)
   ·rcases D with k|k
    ·exact .inl (by omega)
    ·exact .inr (.inl (by rw[show a+q=e by omega];exact k))
 ·rw[tU (by omega)];omega
 ·have:=C (j-a) (by omega) (by omega);rw[zY F (by omega),show a+(j-a)=j by omega]at this;exact this
 ·rcases o with k|k
  ·omega
  ·rw[zY F h]at k;exact⟨by omega,k⟩
 ·refine AD (λ J=>?_);rcases D with k|k
  ·omega
  ·rw[show a+q=e by omega,k];decide
theorem Pf{x:tB}(h:S6 t x b)(o:x.size<=t.size):kO t (t.size+1) b=Nx b (kO x (x.size+1) 0):=by
 have:=EO h o (x.size+1) (t.size+1) 0 (by omega) (by omega) (by omega);rw[MR]at this;exact this
theorem Aj{f:Nat->Bool}{a1:Nat}(h:rN t a=some (f,a1))(o:kU t 32 a1=true):oW t a=match kO t (t.size+1) (a1+1)with
  | none=>none
  | some (r,a2)=>if kU t 32 a2=false then none else match pR t (a2+1)with
   | none=>none
   | some (b,a3)=>some ((f,b,r),a3):=by
 unfold oW;rw[h];simp only;rw[aA (by rw[o];decide)]
 rfl
theorem Gn(he:e<=t.size)(aO:a<=e)(hn:∀j,a<=j->j<e->bt t j≠10)(hE:e=t.size\/bt t e=10):
  (∀x,oF (t.extract a e)=some x->oW t a=some (G0 x,e))/\(oF (t.extract a e)=none->∀x b,oW t a=some (x,b)->a<=b/\b<e):=by
 have Y:(t.extract a e).size=e-a:=tU he;have hcut:=Al (t.extract a e) 32;unfold oF
 cases hl:lU (t.extract a e) 32 with
 | nil=>rw[hl]at hcut;have:0=(t.extract a e).size+1:=hcut;omega
 | cons p0 l0=>
  rw[hl]at hcut;obtain⟨c1,c2,c3,c4,c5,c6⟩:=hcut;obtain⟨q0,o⟩:=p0;simp only at c1 c2 c3 c4 c5 c6;subst c1;rw[Y]at c3 c5;obtain⟨i1,i2,i3,i4,i5⟩:=Dk he aO hn hE (p:=0) (q:=o) c2 c3 c4 c5;rw[MR]at i1 i2 i3;rw[Nat.sub_zero]at i2;obtain⟨Q,bM⟩:∃x,x=t.extract a (a+o):=⟨_,rfl⟩
  rw[<-bM]at i1 i2;have bS:(t.extract a e).extract 0 o=Q:=by rw[Cg he (by omega),bM];rfl
  have hk:(oW t a=none)\/(0<Q.size/\∃g l,oD Q (Q.size+1) gK (-1) 0=some (g,l)/\rN t a=some (g,a+o)):=by
   by_cases hz:0<Q.size
   ·obtain⟨k1,k2⟩:=Z2 i1 hz
    cases hg:oD Q (Q.size+1) gK (-1) 0 with
    | some y=>exact .inr ⟨hz,y.1,y.2,rfl,by rw[k1 y.1 y.2 hg,i2]⟩
    | none=>
     left;unfold oW
     cases V:rN t a with
     | none=>rfl
     | some y=>
      obtain⟨g,b⟩:=y;have h1:=k2 hg g b V;have D:=j9 V;simp only;rw[aB (AD (λ _=>i3 b D (by omega)))]
   ·left;unfold oW;rw[A6];have bK:=Cp i1;rw[i2,show o=0 by omega,MR]at bK;rw[bK]
  cases l0 with
  | nil=>
   have c6:o+1=(t.extract a e).size+1:=c6;have hN:oW t a=none:=by
    rcases hk with h|⟨_,g,l,_,h⟩
    ·exact h
    ·unfold oW;rw[h];simp only;rw[aB (i5 (by omega))]
   rw[hN];exact⟨λ x h=>(by cases h),λ _ x b h=>(by cases h)⟩
  | cons p1 l1=>
   obtain⟨d1,d2,d3,d4,d5,d6⟩:=c6;obtain⟨q2,C⟩:=p1;simp only at d1 d2 d3 d4 d5 d6;subst d1;rw[Y]at d3 d5;have U:=i4 (by omega);obtain⟨j1,j2,j3,j4,j5⟩:=Dk he aO hn hE (p:=o+1) (q:=C) d2 d3 d4 d5;obtain⟨F,bN⟩:∃x,x=t.extract (a+(o+1)) (a+C):=⟨_,rfl⟩
   rw[<-bN]at j1 j2;have bT:(t.extract a e).extract (o+1) C=F:=by rw[Cg he (by omega),bN]
   have bC:=Pf j1 (by omega);have cN:=xH F (F.size+1);have X:(oW t a=none)\/(0<Q.size/\∃g l r,oD Q (Q.size+1) gK (-1) 0=some (g,l)/\kO F (F.size+1) 0=some (r,F.size)/\kU t 32 (a+C)=true/\oW t a=match pR t (a+C+1)with
     | none=>none
     | some (b,a3)=>some ((g,b,r),a3)):=by
    rcases hk with h|⟨hz,g,l,hg,h⟩
    ·exact .inl h
    ·rw[Aj h (U2 U.1 U.2),show a+o+1=a+(o+1) by omega,bC]
     cases hr:kO F (F.size+1) 0 with
     | none=>exact .inl rfl
     | some y=>
      obtain⟨r,i⟩:=y;have h1:=cN _ _ _ hr;show((if kU t 32 (a+(o+1)+i)=false then none else _)=none)\/_;by_cases hi:i<F.size
      ·left;rw[aB (AD (λ _=>j3 (a+(o+1)+i) (by omega) (by omega)))]
      ·have ei:i=F.size:=by omega
       have e3:a+(o+1)+i=a+C:=by omega
       by_cases hb:kU t 32 (a+C)=true
       ·right;refine⟨hz,g,l,r,hg,by rw[ei],hb,?_⟩;show(if kU t 32 (a+(o+1)+i)=false then none else match pR t (a+(o+1)+i+1)with|none=>none|some (b,a3)=>some ((g,b,r),a3))=_;rw[e3,aA (by rw[hb];decide)]
       ·left;rw[e3,aB (by simpa using hb)]
   cases l1 with
   | nil=>
    have d6:C+1=(t.extract a e).size+1:=d6;have hN:oW t a=none:=by
     rcases X with h|⟨_,g,l,r,_,_,hb,_⟩
     ·exact h
     ·rw[j5 (by omega)]at hb;cases hb
    rw[hN];exact⟨λ x h=>(by cases h),λ _ x b h=>(by cases h)⟩
   | cons p2 l2=>
    obtain⟨f1,f2,f3,f4,f5,f6⟩:=d6;obtain⟨q4,q5⟩:=p2;simp only at f1 f2 f3 f4 f5 f6;subst f1;rw[Y]at f3 f5;obtain⟨Z,aR⟩:∃x,x=t.extract (a+(C+1)) (a+q5):=⟨_,rfl⟩
    have cF:(t.extract a e).extract (C+1) q5=Z:=by rw[Cg he (by omega),aR]
    obtain⟨m1,m2,m3,m4,m5⟩:=Dk he aO hn hE (p:=C+1) (q:=q5) f2 f3 f4 f5;rw[<-aR]at m2;have bO:∀x b,oW t a=some (x,b)->b=a+(C+1)+1/\C+1<q5:=λ x b h=>by
     rcases X with D|⟨_,g,l,r,_,_,_,D⟩
     ·rw[D]at h;cases h
     ·rw[D]at h;by_cases hp:a+C+1<t.size
      ·rw[I9 hp]at h;split at h
       ·cases h
       ·rename_i b2 a3 J;split at J
        ·cases J
        ·rename_i eM;injection J with J;injection J with _ J;injection h with h;injection h with _ h;refine⟨by omega,?_⟩;apply MD;intro hq;have eq:q5=C+1:=by omega
         apply eM;by_cases eL:q5<e-a
         ·have:=(m4 eL).2;rw[eq,<-OC]at this;rw[this];decide
         ·have:bt t (a+C+1)=10:=by
           rcases hE with k|k
           ·omega
           ·rw[show a+C+1=e by omega];exact k
          rw[this];decide
      ·rw[Kt (by omega)]at h;cases h
    cases l2 with
    | cons p3 l3=>
     refine⟨λ x h=>(by cases h),λ _ x b h=>?_⟩;obtain⟨g1,g2,g3,_⟩:=f6;rw[Y]at g3;have:=bO x b h;omega
    | nil=>
     have f6:q5+1=(t.extract a e).size+1:=f6;simp only[bS,bT,cF];unfold zF;by_cases aL:Q.size=0\/Z.size≠1
     ·rw[aB aL];refine⟨λ x h=>(by cases h),λ _ x b h=>?_⟩;rcases X with D|⟨h0,_⟩
      ·rw[D]at h;cases h
      ·have:=bO x b h;omega
     ·rw[aA aL];have eO:Z.size=1:=by omega
      have aW:bt Z 0=bt t (a+C+1):=by rw[aR,zY (by omega) (by omega),MR,<-OC]
      rcases X with D|⟨h0,g,l,r,hg,hr,hb,D⟩
      ·
       rw[D];refine⟨λ x I=>?_,λ _ x b h=>(by cases h)⟩;exfalso
       cases hg:oD Q (Q.size+1) gK (-1) 0 with
       | none=>rw[hg]at I;cases I
       | some y=>
        obtain⟨g,l⟩:=y;rw[hg]at I;simp only at I;split at I
        ·cases I
        ·rename_i V;unfold qQ at I
         cases hr:kO F (F.size+1) 0 with
         | none=>rw[hr]at I;cases I
         | some y2=>
          obtain⟨r,i⟩:=y2;rw[hr]at I;simp only at I;split at I
          ·cases I
          ·rename_i r' a' hs;split at hs
           ·injection hs with hs;injection hs with _ hs;split at I
            ·rename_i ea;have cP:rN t a=some (g,a+o):=by
              have:=(Z2 i1 (by omega)).1 g l hg;rw[this,i2]
             have aT:=j4 (by omega);rw[Aj cP (U2 U.1 U.2),show a+o+1=a+(o+1) by omega,bC,hr]at D;have e3:a+(o+1)+i=a+C:=by omega
             have D:(if kU t 32 (a+(o+1)+i)=false then none else match pR t (a+(o+1)+i+1)with|none=>none|some (b,a3)=>some ((g,b,r),a3))=none:=D;rw[e3,aA (by rw[U2 aT.1 aT.2];decide),I9 (by omega),aA (by rw[<-aW];exact V)]at D
             cases D
            ·cases I
           ·cases hs
      ·rw[hg];simp only;rw[D,I9 (by omega),<-aW];by_cases V:jS (bt Z 0)<0/\bt Z 0≠46/\bt Z 0≠45
       ·rw[aB V,aB V];exact⟨λ x h=>(by cases h),λ _ x b h=>(by cases h)⟩
       ·rw[aA V,aA V];have eN:qQ F (kO F (F.size+1)) 0=some (r,F.size):=by
         unfold qQ;rw[hr];simp only;rw[aB (by unfold uS;rw[aE];exact .inl lR)]
        rw[eN];simp only[if_true];refine⟨λ x h=>?_,λ h=>(by cases h)⟩;injection h with h;rw[<-h];show some ((g,D7 (bt Z 0),r),a+C+1+1)=some ((g,D7 (bt Z 0),r),e);rw[show a+C+1+1=e by omega]
end
theorem Aa{t:tB}:∀(ps:List (Nat×Nat)) (n:Nat) (aS:List gX) (q:Nat),Zk t 10 (q+1) ps->ps.length<n->(ps=[]->q=t.size)->(ps≠ []->q<t.size/\bt t q=10)->
  (∀l,B9 t ps=some l->kG t n aS q=some (aS++l.map G0,t.size))/\(B9 t ps=none->∀l b,kG t n aS q=some (l,b)->b<t.size)
 | [],n,aS,q,_,hn,h0,_=>by
  obtain⟨n,rfl⟩:∃k,n=k+1:=⟨n-1,by simp at hn;omega⟩
  have hq:=h0 rfl;refine⟨λ l C=>?_,λ C=>(by cases C)⟩;have C:some []=some l:=C;injection C with C;rw[kG,aB (AC (λ h=>by omega)),<-C,hq];simp
 | p::ps,n,aS,q,hc,hn,_,h1=>by
  obtain⟨n,rfl⟩:∃k,n=k+1:=⟨n-1,by omega⟩
  obtain⟨U,V⟩:=h1 (by simp);obtain⟨c1,c2,c3,X,Y,F⟩:=hc;have o:=Gn (t:=t) (a:=q+1) (e:=p.2) c3 c2 X Y;have Q:kU t 10 q=true:=by unfold kU;rw[aE,lK U,V];rfl
  have ih:=λ D=>Aa ps n D p.2 F (by simp at hn;omega) (λ e=>by rw[e]at F;have:p.2+1=t.size+1:=F;omega) (λ e=>by
   rcases Y with k|k
   ·exfalso
    cases ps with
    | nil=>exact e rfl
    | cons p' ps'=>
     obtain⟨_,k2,k3,_⟩:=F;omega
   ·refine⟨?_,k⟩;apply MD;intro aL
    cases ps with
    | nil=>exact e rfl
    | cons p' ps'=>
     obtain⟨_,k2,k3,_⟩:=F;omega)
  rw[kG,aA (by rw[Q];decide)];unfold B9;rw[c1]
  cases C:oF (t.extract (q+1) p.2)with
  | none=>
   refine⟨λ l h=>(by cases h),λ _ l b h=>?_⟩
   cases I:oW t (q+1)with
   | none=>rw[I]at h;cases h
   | some y=>
    obtain⟨x,b2⟩:=y;have Z:=o.2 C x b2 I;rw[I]at h;simp only at h
    cases n with
    | zero=>cases h
    | succ n=>
     rw[kG,aB (AC (λ _=>X b2 Z.1 Z.2))]at h;injection h with h;injection h with _ h;omega
  | some x=>
   have I:=o.1 x C;rw[I];simp only;have J:=ih (aS++[G0 x])
   cases e2:B9 t ps with
   | none=>exact⟨λ l h=>(by cases h),λ _ l b h=>J.2 e2 l b h⟩
   | some l2=>
    refine⟨λ l h=>?_,λ h=>(by cases h)⟩;injection h with h;rw[J.1 l2 e2,<-h];simp
theorem Lc{t:tB}:∀{ps:List (Nat×Nat)}{a:Nat},Zk t c a ps->a+ps.length<=t.size+1
 | [],a,h=>by have h:a=t.size+1:=h;simp;omega
 | p::ps,a,h=>by
  obtain⟨_,C,D,_,_,o⟩:=h;have:=Lc o;simp only[MN];omega
theorem Ts{t:tB}:∀{ps:List (Nat×Nat)}{l:List mR},B9 t ps=some l->l.length=ps.length
 | [],l,h=>by injection h with h;rw[<-h];rfl
 | p::ps,l,h=>by
  unfold B9 at h
  cases e:oF (t.extract p.1 p.2)with
  | none=>rw[e]at h;cases h
  | some x=>
   rw[e]at h;simp only at h
   cases e2:B9 t ps with
   | none=>rw[e2]at h;cases h
   | some l2=>
    rw[e2]at h;injection h with h;rw[<-h,MN,MN,Ts e2]
theorem Pg(t:tB):vE t=if 8<(lU t 10).length then none else(B9 t (lU t 10)).map (λ l=>l.map G0):=by
 have F:=Al t 10
 cases hl:lU t 10 with
 | nil=>rw[hl]at F;have:0=t.size+1:=F;omega
 | cons p ps=>
  rw[hl]at F;have I:=Lc F;obtain⟨c1,c2,c3,X,Y,D⟩:=F;have o:=Gn (t:=t) (a:=0) (e:=p.2) c3 c2 X Y;have ih:=λ C=>Aa (t:=t) ps (t.size+1) C p.2 D (by simp at I;omega) (λ e=>by rw[e]at D;have:p.2+1=t.size+1:=D;omega) (λ e=>by
   rcases Y with k|k
   ·exfalso
    cases ps with
    | nil=>exact e rfl
    | cons p' ps'=>
     obtain⟨_,k2,k3,_⟩:=D;omega
   ·refine⟨?_,k⟩;apply MD;intro aL
    cases ps with
    | nil=>exact e rfl
    | cons p' ps'=>
     obtain⟨_,k2,k3,_⟩:=D;omega)
  unfold vE L3 B9;rw[c1]
  cases e1:oF (t.extract 0 p.2)with
  | none=>
   have U:(match (match oW t 0 with|none=>none|some (x,a)=>kG t (t.size+1) [x] a)with|none=>none|some (l,a)=>if a=t.size/\l.length<=8 then some l else none)=(none:Option (List gX)):=by
    cases V:oW t 0 with
    | none=>rfl
    | some y=>
     obtain⟨x,b2⟩:=y;have Z:=o.2 e1 x b2 V;simp only;rw[kG,aB (AC (λ _=>X b2 Z.1 Z.2))];simp only;rw[aA (λ h=>by omega)]
   refine Eq.trans U ?_;split<;>rfl
  | some x=>
   have V:=o.1 x e1;rw[V];simp only;have J:=ih [G0 x]
   cases e2:B9 t ps with
   | none=>
    have U:(match kG t (t.size+1) [G0 x] p.2 with|none=>none|some (l,a)=>if a=t.size/\l.length<=8 then some l else none)=(none:Option (List gX)):=by
     cases hr2:kG t (t.size+1) [G0 x] p.2 with
     | none=>rfl
     | some y=>
      obtain⟨l,b⟩:=y;have:=J.2 e2 l b hr2;simp only;rw[aA (λ h=>by omega)]
    refine Eq.trans U ?_;split<;>rfl
   | some l2=>
    rw[J.1 l2 e2];simp only[true_and];have:=Ts e2;by_cases Q:8<(p::ps).length
    ·rw[aB Q,aA (by simp at Q⊢;omega)]
    ·rw[aA Q,aB (by simp at Q⊢;omega)]
     rfl
theorem Bb:∀(l:List mR),mW (l.map G0)=Ab l
 | []=>rfl
 | x::l=>by
  show(G0 x).2.2.np+mW (l.map G0)=x.2.2.2.np+Ab l;rw[Bb l];rfl
theorem Ri(t:tB):(∀c,vG t=(none,c)->c≠0/\kB t=(c:Int))/\(∀l c,vG t=(some l,c)->kB t=0/\vE t=some (l.map G0)/\Ab l<=10/\t.size<=120/\B9 t (lU t 10)=some l):=by
 obtain⟨U,I,V⟩:=Df t;have o:=Pg t;unfold vG;by_cases D:120<t.size
 ·rw[aB D];refine⟨λ c h=>?_,λ l c h=>(by injection h with h;cases h)⟩;injection h with _ h;rw[<-h];exact⟨by decide,U D⟩
 ·rw[aA D];by_cases C:8<(lU t 10).length
  ·rw[aB C];rw[aB C]at o;refine⟨λ c h=>?_,λ l c h=>(by injection h with h;cases h)⟩;injection h with _ h;rw[<-h];exact⟨by decide,I (by omega) o⟩
  ·rw[aA C];rw[aA C]at o
   cases e:B9 t (lU t 10)with
   | none=>
    rw[e]at o;refine⟨λ c h=>?_,λ l c h=>(by injection h with h;cases h)⟩;injection h with _ h;rw[<-h];exact⟨by decide,I (by omega) o⟩
   | some l=>
    rw[e]at o;have o:vE t=some (l.map G0):=o;obtain⟨J,Q⟩:=V (by omega) _ o;rw[rJ,show jX.aW.length=0 from rfl,MB,Bb]at J Q;simp only;by_cases F:10<Ab l
    ·rw[aB F];refine⟨λ c h=>?_,λ l c h=>(by injection h with h;cases h)⟩;injection h with _ h;rw[<-h];exact⟨by decide,J F⟩
    ·rw[aA F];refine⟨λ c h=>(by injection h with h;cases h),λ X c h=>?_⟩;injection h with h _;injection h with h;subst h;exact⟨(Q (by omega)).1,o,by omega,by omega,rfl⟩
end
open Go.RowKit Go.Stn
theorem Od{w0:tW}{O:Nat->Nat}{N:List RN}{R:List RV}{ls:List mR}(h:Sx w0 O N R ls)(c r:Nat)(w:List Nat):WL N (rC c 0 R) r w↔∃x:gX,(ls.map G0)[r]?=some x/\x.1 c=true/\W x.2.2 w:=by
 constructor
 ·rintro⟨p,Z,C,X⟩;obtain⟨j,x,F,I,Y⟩:=Q1.1 Z;have J:j<ls.length:=by rw[<-h.1];exact(LF.1 F).1
  have D:=LD J;obtain⟨_,Q,_,U⟩:=h.2 j x _ F D;rw[Y,MB]at C X;have C:j=r:=C;subst C;refine⟨G0 (ls[j]'J),by rw[MQ,D];rfl,?_,?_⟩
  ·show(ls[j]'J).1 c=true;rw[<-Q];exact I
  ·exact(U.2.1 w).1 (M0.1 X)
 ·rintro⟨x,o,F,I⟩;rw[MQ]at o
  cases D:ls[r]? with
  | none=>rw[D]at o;cases o
  | some y=>
   rw[D]at o;have o:some (G0 y)=some x:=o;injection o with o;subst o;have C:r<R.length:=by rw[h.1];exact(LF.1 D).1
   have V:=LD C;obtain⟨_,Q,_,U⟩:=h.2 r _ y V D;refine⟨(r,[(R[r]'C).n]),Q1.2 ⟨r,_,V,by rw[Q];exact F,by rw[MB]⟩,rfl,M0.2 ((U.2.1 w).2 I)⟩
theorem Hv.tok{w0:tW}{O:Nat->Nat}{N:List RN}{R:List RV}{ls:List mR}(h:Sx w0 O N R ls){c:Nat}{w:List Nat}{v:Nat}(Q:Hv N (rC c 0 R) w v):G9 (ls.map G0) c w v:=by
 rcases Q with⟨C,D⟩|⟨r,C,D,J⟩
 ·exact .inl ⟨C,λ r x U o=>D r ((Od h c r w).2 ⟨x,U,o.1,o.2⟩)⟩
 ·obtain⟨x,V,X,Y⟩:=(Od h c r w).1 D;exact .inr ⟨r,x,C,V,⟨X,Y⟩,λ r' Z F I o=>J r' F ((Od h c r' w).2 ⟨Z,I,o.1,o.2⟩)⟩
