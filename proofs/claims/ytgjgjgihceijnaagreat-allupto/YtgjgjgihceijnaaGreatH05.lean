import Derived.Test.YtgjgjgihceijnaaGreatH04
import Derived.Deep.CutRange
open Go.RowKit renaming intOf->QN,Hid->QO
open Go renaming wpList_load_mid->QP,wpList_store_mid->QQ,all_oneCell_toArray->QR,info_parts->QS,wpList_make_full->QT,wpList_append_lies->QU,maxLen->QV,Calls->QW
open List renaming getElem?_eq_getElem->LC,getElem?_eq_some_iff->LD,length_append->LH,getElem?_append_left->LI,mem_of_getElem?->LJ,length_singleton->LK,getD_eq_getElem?_getD->LN,getElem?_append_right->LP,append_assoc->MI,mem_singleton->ML,take_length->MM,length_cons->MN,getElem?_map->MR,append_nil->MS,length_map->MT,mem_cons_self->MU,getElem?_of_mem->MV,mem_cons_of_mem->MW,take_add_one->MY,not_mem_nil->NC,map_append->ND,length_take->NE,mem_of_mem_take->NH,length_drop->NI,getElem?_replicate->NK,drop_eq_nil_of_le->NN,take_zero->NT,length_eq_zero_iff->NU,getElem?_cons_succ->NW,length_nil->NY,map_nil->OC,all_eq_false->OD,flatMap_nil->OE,all_eq_true->OF,getElem_map->OG,mem_append->OI,mem_cons->OJ,mem_map->OK
open Go.World renaming cell?_of_block->LF,cell?_setCell_other->LQ,frozen?_of_block->LS,cell?_setCell_same->LU,setCell->MB,frozen?_setCell->ME,cell?_alloc_at->MG,rangeAt_setCells_same->NF,ownsRow_nil->NG,frozen?_alloc_at->NO,cell?_alloc_new->NZ
open UInt8 renaming ofNat->LG
open Go.RowKit.Below renaming heap_alloc->LM,refl->NJ
open Nat renaming lt_of_lt_of_le->LO,le_trans->LZ,zero_add->MA,add_zero->MQ,sub_self->NB,lt_trichotomy->NQ,mul_one->NR,le_of_lt->NS,add_assoc->OB,min_eq_left->OH
open Go.Value renaming oneCell'->LR,ownBlock->LY,slice->MJ,int->NM
open Classical renaming byContradiction->MC
open Go.Proofs.Tryz renaming prog->MD,underlying116->MH,underlying59->MO,underlying66->MZ
open Int renaming toNat_natCast->MF
open Go.Proofs.Tryz
set_option maxRecDepth 100000
set_option maxHeartbeats 8000000
namespace Go.Proofs.YtgjgjgihceijnaaGreat
open Go.RowKit Go.Stn
variable {l y ks lw aQ aK aN:List Nat}{i m g n k fb gN aJ B r b p j a gb z gR cR bE rb s gO qO gT qT dg ab:Nat}{ys xs:List (List Nat)}{t:Int}{T:TypeId}{Of:List Int}{aS:List UInt8}
theorem cI:(Tryz.prog.info? 59).map (λ i=>(i.zero,i.size,i.bytes))=some (some (.slice none 0 0),1,24):=by kernel_rfl
def JI(fb:Nat)(L:List NV)(gN aJ c m:Nat):Prop:=∀(w:tW),FR fb w L gN aJ->
 QW MD 107 #[.pointer (some ⟨fb,0,none⟩),.int .i64 (m:Int),.int .i64 (c:Int)] w λ e w'=>∃v,e=.returned v/\Bl w w'/\Zb w' w.heap.size v (bD (jB L) c m)
theorem Yx(h:l[i]?=some m):l.drop i=m::l.drop (i+1):=by
 obtain⟨o,C⟩:=LD.1 h;rw[List.drop_eq_getElem_cons o,C]
theorem IL.drop{w:tW}{o q:Nat}(hn:l.length=n)(hg:g<w.heap.size)(h:∀(i m:Nat),l[i]?=some m->w.cell? ⟨g,o+i,none⟩=some (.int .i64 (m:Int)))(hi:i<=n)(I:n<=q)(a:Option Addr)(F:i<q->a=some ⟨g,o+i,none⟩):IL w (.slice a (n-i) (q-i)) (l.drop i):=by
 refine⟨a,q-i,by rw[NI,hn],by rw[NI];omega,?_⟩;by_cases D:i<n
 ·refine .inr ⟨g,o+i,F (by omega),hg,λ j m C=>?_⟩;rw[List.getElem?_drop]at C;rw[OB];exact h (i+j) m C
 ·left;exact NN (by omega)
theorem I3(h:ys[k]?=some y)(r:List Nat):((ys.take (k+1)).map (·++r))=((ys.take k).map (·++r))++[y++r]:=by
 rw[MY,h,ND];rfl
theorem RI.up{w w1 wr:tW}{v1 v:tV}(h:RI w w1 v1 wr v xs):RI w w (.slice none 0 0) wr v xs:=by
 obtain⟨vs,o⟩:=h.ll;exact⟨⟨vs,o⟩,⟨h.bl.os,h.bl.tape,h.bl.output,h.bl.size,λ k C _=>h.bl.block k C⟩,λ g e=> .inr (o.ro.lt g e).1,h.bl⟩
theorem RI.done{w w1 wr:tW}{v1 v:tV}(h:RI w w1 v1 wr v xs):Bl w wr/\Zb wr w.heap.size v xs:=by
 obtain⟨vs,o⟩:=h.ll;exact⟨h.bl,o.read⟩
theorem Nl{L:List NV}(hs:rA (jB L))(hc:gI (jB L))(hL:L.length<=100000)(c:Nat){l:List Nat}(hb:∀m,m∈l->JI fb L gN aJ c m)
  (X:∀m,m∈l->m<L.length/\(bD (jB L) c m).length<=10/\∀y,y∈bD (jB L) c m->y.length<=1000000) (hl:l.length<=1000000) {w:tW} (h:FR fb w L gN aJ) {v:tV} (hv:IL w v l):
  QW MD 83 #[.pointer (some ⟨fb,0,none⟩),v,.int .i64 (c:Int)] w λ e w'=>∃v',e=.returned v'/\Bl w w'/\Zb w' w.heap.size v' (nU (bD (jB L) c) (jB L) l):=by
 obtain⟨a,vc,rfl,hC,hv⟩:=hv;have HV:=fV hv;have HF:=fV h;have HB:=fV hb;have HM:=fV X;have HE:=fV (λ m (X:m<L.length) W=>I8 (fb:=fb) (gN:=gN) (aJ:=aJ) hs hc hL m X W);obtain⟨n,en⟩:=xE (l.length)
 rw[en]at hl hC ⊢;have Q:=fV en;clear h hv hb X en hs hc;go_enter func83,ntmps83;go_wp2
 go_loopw [7,8] (λ y z wr=>∃(i:Nat)(xs:List (List Nat)),i<=n/\z=.int .i64 (i:Int)/\xs.length<=10*i/\QO (nU (bD (jB L) c) (jB L) l=xs++nU (bD (jB L) c) (jB L) (l.drop i))/\RI w w (.slice none 0 0) wr y xs) (λ _ z _=>n-(QN z).toNat)
 case atStart=>exact⟨0,[],by omega,rfl,by simp,fV (by simp),RI.start w⟩
 case round=>
  obtain⟨i,xs,hi,rfl,tT,HX,hJ⟩:=hrel;have F:=fV hJ;clear hJ;by_cases hW:i<n
  ·obtain⟨m,X⟩:∃m,l[i]?=some m:=⟨l[i]'(by rw[Q.o];exact hW),LC _⟩
   obtain⟨g,o,rfl,hg,U⟩:=HV.o.resolve_left (λ e=>by rw[e]at X;simp at X);have y0:wr.cell? ⟨g,o+i,none⟩=some (.int .i64 (m:Int)):=(F.o.bl.cell (p:=⟨g,o+i,none⟩) hg).trans (U i m X);obtain⟨rT,hK,eR⟩:=HM.o m (LJ X);have A0:=iI i n (by omega)
   have hE:=fV (HB.o m (LJ X));have hS:=fV eR;have lH:=fV X;have hF:=fV U;have B2:=F.o.bl.size;have aR:QO (nU (bD (jB L) c) (jB L) l=(xs++(bD (jB L) c m).map (·++l.drop (i+1)))++(if xJ (jB L) m=true then nU (bD (jB L) c) (jB L) (l.drop (i+1))else [])):=by
    unfold QO;rw[HX.o,Yx X,nU,MI]
   clear eR X U HX;go_upto_region 6 with fail;refine(hE.o _ (HF.o.below (B:=w.heap.size) ⟨F.o.bl.os,F.o.bl.tape,F.o.bl.output,F.o.bl.size,F.o.bl.block⟩ lR)).mono ?_;rintro e w1 ⟨vm,rfl,aO,hI⟩;have rO:=fV (F.o.below aO);obtain⟨am,cm,rfl,eT⟩:=hI;have hV:=fV eT;have tL:=aO.size;have hY:QO (∀k,wr.heap.size<=k->u7.ownBlock≠some k):=λ k hk e=>by
    obtain⟨vs,nL⟩:=F.o.ll;have:=(nL.ro.lt k e).2;omega
   have hN:=fV (HE.o m rT);clear HE hE eT aO F y0;generalize wr.heap.size=sW at*;generalize hys:bD (jB L) c m=ys at*;obtain⟨M,eM⟩:=xE (ys.length)
   rw[eM]at hK ⊢;have cF:=fV eM;clear eM;go_wp2_with fail
   go_loopw [7,10] (λ y2 z2 hX=>∃k,k<=M/\z2=.int .i64 (k:Int)/\RI w w1 u7 hX y2 (xs++(ys.take k).map (·++l.drop (i+1)))) (λ _ z2 _=>M-(QN z2).toNat)
   case atStart=>exact⟨0,by omega,rfl,by rw[NT,OC,MS];exact rO.o.from⟩
   case round=>
    obtain⟨k,hk,rfl,bC⟩:=hrel;have I:=fV bC;clear bC;by_cases hQ:k<M
    ·obtain⟨y,hy⟩:∃y,ys[k]?=some y:=⟨ys[k]'(by rw[cF.o];exact hQ),LC _⟩
     obtain⟨gm,rfl,eL,hH,eS⟩:=hV.o.resolve_left (λ e=>by rw[e]at hy;simp at hy);obtain⟨u,hu,hD⟩:=eS k y hy;have bO:∀j,sW<=j->j<w1.heap.size->wr.heap[j]?=w1.heap[j]? :=λ j h1 h2=>I.o.gr.block j h2 (λ e=>hY.o j h1 e.symm)
     have y1:wr.cell? ⟨gm,k,none⟩=some u:=(LF (w:=w1) (a:=⟨gm,k,none⟩) (bO gm eL hH)).trans hu;have aT:Fj wr sW none u y:=hD.keep I.o.gr.size (λ j h1 h2 _=>⟨bO j h1 h2,λ e=>by cases e⟩) lR;have eX:=fV aT.il;obtain⟨ua,uc,rfl,_,_⟩:=aT;have iN:QO (∀(a:Option Addr),(i+1<vc->a=some ⟨g,o+(i+1),none⟩)->IL wr (.slice a (n-(i+1)) (vc-(i+1))) (l.drop (i+1))):=λ a ha=>IL.drop Q.o (LO hg I.o.bl.size) (λ j x hx=>(I.o.bl.cell (p:=⟨g,o+j,none⟩) hg).trans (hF.o j x hx)) (by omega) hC a ha
     have gL:QO (vc=i+1->∀(a:Option Addr)(q:Nat),IL wr (.slice a (n-(i+1)) q) (l.drop (i+1))):=λ e a q=>⟨a,q,by rw[NI,Q.o],by rw[NI,Q.o];omega,.inl (NN (by rw[Q.o];omega))⟩
     have H1:y.length<=1000000:=hS.o y (LJ hy);have hG:QO (y.length+(l.drop (i+1)).length<=1000000000):=by unfold QO;rw[NI,Q.o];omega
     have A3:=iI k M (by omega)
     have sR:(0:Int)<=(i:Int)+1/\(i:Int)+1<=(n:Int):=by omega
     have HY:=fV hy;clear bO hu hD hy eS;go_upto_region 9 with fail
     go_cut [11] from 26 to 44 (λ x wx=>Bl wr wx/\wx.ownsRow wr.heap.size 3 1 x (y++l.drop (i+1)).length (kK (y++l.drop (i+1))))
     case first=>
      have wi:IntKind.i64.wrap ((i:Int)+1)=(i:Int)+1:=IntWalk.i64_in _ (by omega);have ti:((i:Int)+1).toNat=i+1:=by omega
      by_cases cN:vc=i+1
      ·have A2:∀(x y:Option Addr),(if vc=i+1 then x else y)=x:=λ x y=>aB cN
       have nN:=fV cN;clear cN;go_region_with (go_at_call 108;refine(V4 (ns:=y) (ms:=l.drop (i+1)) (eX.o.below (w':=wr.drew) ⟨rfl,rfl,rfl,lR,λ _ _=>rfl⟩ lR) ((gL.o nN.o _ _).below (w':=wr.drew) ⟨rfl,rfl,rfl,lR,λ _ _=>rfl⟩ lR) hG.o).mono ?_;rintro e w3 ⟨v',rfl,C,J⟩)
       all_goals
        have bM:QO (Bl wr w3):=⟨C.os,C.tape,C.output,C.size,C.block⟩
        have bN:=fV J;clear C J;go_wp2_with fail;go_meet
        case rel=>exact⟨bM.o,bN.o⟩
      ·
       go_region_with (go_at_call 108;refine(V4 (ns:=y) (ms:=l.drop (i+1)) (eX.o.below (w':=wr.drew) ⟨rfl,rfl,rfl,lR,λ _ _=>rfl⟩ lR) ((iN.o _ (λ h=>rfl)).below (w':=wr.drew) ⟨rfl,rfl,rfl,lR,λ _ _=>rfl⟩ lR) hG.o).mono ?_;rintro e w3 ⟨v',rfl,C,J⟩)
       all_goals
        have bM:QO (Bl wr w3):=⟨C.os,C.tape,C.output,C.size,C.block⟩
        have bN:=fV J;clear C J;go_wp2_with fail;go_meet
        case rel=>exact⟨bM.o,bN.o⟩
     case rest=>
      obtain⟨C,J⟩:=hcut;have D:=fV (I.o.below C);obtain⟨hU,aL⟩:=D.o.ll;obtain⟨ao,co,eo⟩:=gA aL.ro;subst eo;have bK:QO (Fj wc w.heap.size (MJ ao (xs++(ys.take k).map (·++l.drop (i+1))).length co).ownBlock u11 (y++l.drop (i+1))):=Fj.of_row J (λ j e=>by
       obtain⟨A1,hA⟩:=I.o.ll;exact(hA.ro.lt j e).2) I.o.bl.size
      obtain⟨au,cu,eu⟩:=gA J;subst eu;have tO:=C.size;have B1:=I.o.bl.size;have E6:w.heap.size<=wc.heap.size:=by omega
      have bT:=fV aL;have hR:QO ((xs++(ys.take k).map (·++l.drop (i+1))).length<=10*i+10):=by
       unfold QO;rw[LH,MT,NE];omega
      have hM:QO ((xs++(ys.take k).map (·++l.drop (i+1)))++[y++l.drop (i+1)]=xs++(ys.take (k+1)).map (·++l.drop (i+1))):=by
       unfold QO;rw[I3 HY.o,MI]
      clear aL J C;generalize y++l.drop (i+1)=yr at*;generalize xs++(ys.take k).map (·++l.drop (i+1))=xk at*;obtain⟨nk,ek⟩:=xE (xk.length)
      obtain⟨ny,ey⟩:=xE (yr.length)
      have H0:nk<=10*i+10:=by rw[<-ek];exact hR.o
      rw[ek]at bT bK D ⊢;rw[ey]at bK ⊢;have qL:=fV ek;have eO:=fV bT.o.ro;rw[ek]at eO;clear ek ey;go_wp2_with (first|(at_builtin;refine gB wc rfl (.tmp 41) (.tmp 43) 66 rfl w.heap.size 59 (.slice none 0 0) 1 24 MZ cI rfl (by decide) (by decide) (.slice ao nk co) nk hU [.slice au ny cu] _ rfl eO.o _ rfl rfl rfl (by simp[LR]) (by omega) (by omega) ?_;intro g4 cap4 w4 Z V aW hB;have hT:=fV (D.o.app bK.o qL.o bT.o Z V aW);clear Z V aW hB));go_roundw
      case rel=>exact⟨k+1,by omega,by go_num,by rw[<-hM.o];exact hT.o⟩
      case measure=>simp[QN];omega
    ·have cP:k=M:=by omega
     have dl:=dF k M (by omega)
     have bS:=I.o;rw[cP,<-cF.o,MM]at bS;have D:=fV bS;have y0:wr.cell? ⟨g,o+i,none⟩=some (.int .i64 (m:Int)):=(D.o.bl.cell (p:=⟨g,o+i,none⟩) hg).trans (hF.o i m lH.o);have hP:QO ((xs++ys.map (·++l.drop (i+1))).length<=10*(i+1)):=by
      unfold QO;rw[LH,MT,cF.o];omega
     clear bS cP I;generalize xs++ys.map (·++l.drop (i+1))=xn at*;go_wp2_with fail;refine(hN.o _ (HF.o.below (B:=w.heap.size) ⟨D.o.bl.os,D.o.bl.tape,D.o.bl.output,D.o.bl.size,D.o.bl.block⟩ lR)).mono ?_;rintro e w5 ⟨rfl,Y⟩;have eN:=fV (D.o.below ⟨Y.os,Y.tape,Y.output,Y.size,Y.block⟩).up;clear Y y0 D
     cases hem:xJ (jB L) m with
     | true=>
      rw[hem,aB rfl]at aR;clear hem;go_wp2;go_roundw
      case rel=>exact⟨i+1,xn,by omega,by go_num,hP.o,aR,eN.o⟩
      case measure=>simp[QN];omega
     | false=>
      rw[hem,aA (by decide),MS]at aR;clear hem;go_wp2;go_ret;exact⟨_,rfl,by rw[aR.o];exact eN.o.done⟩
  ·have rL:i=n:=by omega
   have qR:QO (nU (bD (jB L) c) (jB L) l=xs):=by
    unfold QO;rw[HX.o,NN (by rw[Q.o];omega)];unfold nU;rw[MS]
   have dl:=dF i n (by omega)
   clear rL;go_wp2;go_ret;exact⟨_,rfl,by rw[qR.o];exact F.o.done⟩
theorem Tj{α:Type}:∀{xs:List α}{Q:Nat->tV->α->Prop},(∀(k:Nat)(x:α),xs[k]?=some x->∃u,Q k u x)->∃C:List tV,C.length=xs.length/\∀(k:Nat)(u:tV)(x:α),C[k]?=some u->xs[k]?=some x->Q k u x
 | [],Q,_=>⟨[],rfl,λ k u x h=>by simp at h⟩
 | y::xs,Q,h=>by
  obtain⟨u,I⟩:=h 0 y rfl;obtain⟨C,J,U⟩:=Tj (xs:=xs) (Q:=λ k=>Q (k+1)) (λ k x o=>h (k+1) x (by simpa using o));refine⟨u::C,by simp[J],λ k v x D o=>?_⟩
  cases k with
  | zero=>
   have F:=sJ D
   have V:=sJ o
   rw[<-F,<-V];exact I
  | succ k=>exact U k v x (by simpa using D) (by simpa using o)
theorem S3(w:tW){ops:Array Oper}{rest:List Oper}{o:Oper}{a:Act}{Q:Exit->Act->tW->Prop}(aO:o.guard=none)(s x:Operand)
  (ho:o.op=.call {callee:= .builtin .append,args:= #[s,x],argTypes:= #[66,66]})
  (aH:Nat) (v:tV) (xs ys:List (List Nat)) (vs:List tV) (u:tV) (B:Nat) (hs:a.eval s=v) (C:LL w aH v xs vs) (V:a.eval x=u) (hu:Zb w B u ys) (hB:aH<=B) (aW:∀k,B<=k->v.ownBlock≠some k) (hn:xs.length+ys.length<=1000000000) (U:aH<=w.heap.size)
  (h:∀v' w',(∃bC,LL w' aH v' (xs++ys) bC)->w.grownBy w' v.ownBlock->(∀g,v'.ownBlock=some g->v.ownBlock=some g\/w.heap.size<=g)->wpList MD ops Q rest (a.put o.dst v') w'):wpList MD ops Q (o::rest) a w:=by
 obtain⟨i,hi,hz,I,X⟩:=QS cI;obtain⟨ad,aJ,rfl,hu⟩:=hu;have F:ys=[]->wpList MD ops Q (o::rest) a w:=λ e=>by
  subst e;refine wpList_plain aO λ K hK=>?_
  have hr:=xT (P:=MD) w 66 o.type aH 59 i 1 MZ hi v xs.length vs C.ro ad aJ;have hh:=h v w ⟨vs,by rw[MS];exact C⟩ ⟨rfl,rfl,rfl,lR,λ _ _ _=>rfl⟩ (λ g e=> .inl e);unfold Oper.wp execOp;simp only[ho,resolve,invoke,builtin,Go.Sem.run_bind,Go.Sem.run_pure,Result.andThen_ok,List.map_toArray,List.map_cons,OC,hs,V,NY,hr];exact hK _ _ hh
 rcases hu with e|⟨g,rfl,bM,bN,hc⟩
 ·exact F e
 ·by_cases aT:ys.length=0
  ·exact F (NU.1 aT)
  ·obtain⟨us,bK,J⟩:=Tj (Q:=λ k u x=>w.cell? ⟨g,k,none⟩=some u/\Fj w B none u x) hc;have aL:∀(j:Nat)(y:tV),us[j]?=some y->∃x,ys[j]?=some x:=λ j y Y=>by
    have:=(LD.1 Y).1;exact⟨ys[j]'(by omega),LC _⟩
   have aR:vs.length=xs.length:=by have:=C.ro.1;omega
   refine QU w aO s x 66 ho aH 59 i (.slice none 0 0) 1 24 MZ hi hz I X rfl (by decide) v xs.length vs hs C.ro ⟨g,0,none⟩ ys.length aJ us V (by omega) (λ j y Y=>?_) (λ y Y=>?_) (by omega) (by unfold QV;omega) (by omega) U _ rfl (λ g4 cap4 w4 h1 h2 h3 h4=>h _ w4 ⟨vs++us,⟨by rw[LH];exact h1,λ j a b ha X=>?_⟩⟩ h2 (λ k e=>?_))
   ·rw[oM,MA];obtain⟨x,V⟩:=aL j y Y;exact(J j y x Y V).1
   ·obtain⟨j,hj⟩:=MV Y;obtain⟨x,V⟩:=aL j y hj;obtain⟨a,c,e,_⟩:=(J j y x hj V).2;rw[e];rfl
   ·have D:∀k,k<w.heap.size->v.ownBlock≠some k->w4.heap[k]?=w.heap[k]? /\(MJ (some ⟨g4,0,none⟩) (xs.length+ys.length) cap4).ownBlock≠some k:=λ k hk h0=>by
     refine⟨h2.block k hk (λ e=>h0 e.symm),λ e=>?_⟩;have e:g4=k:=by simpa[LY]using e
     subst e;rcases h3 with Z|Z
     ·exact h0 Z
     ·omega
    by_cases hj:j<vs.length
    ·rw[LI hj]at ha;rw[LI (by omega)]at X;exact(C.el j a b ha X).keep h2.size (λ k _=>D k) lR
    ·rw[LP (by omega)]at ha X;rw[aR]at ha;exact(J _ a b ha X).2.keep h2.size (λ k h1 hk _=>D k hk (aW k h1)) hB
   ·have e:g4=k:=by simpa[LY]using e
    subst e;rcases h3 with Z|Z
    ·exact .inl Z
    ·exact .inr (by omega)
theorem RI.aM{w w1 wr w4:tW}{C vo J:tV}(h:RI w w1 C wr vo xs)(X:∃vs,LL w4 w.heap.size J ys vs)(hg:wr.grownBy w4 vo.ownBlock)(V:∀g,J.ownBlock=some g->vo.ownBlock=some g\/wr.heap.size<=g):RI w w1 C w4 J ys:=by
 have Z:=h.gr.size;have U:=h.bl.size;have Q:=hg.size;obtain⟨Y,F⟩:=h.ll;refine⟨X,⟨hg.os.trans h.gr.os,hg.tape.trans h.gr.tape,hg.output.trans h.gr.output,by omega,λ k I D=>?_⟩,λ g e=>?_,⟨hg.os.trans h.bl.os,hg.tape.trans h.bl.tape,hg.output.trans h.bl.output,by omega,λ k I=>?_⟩⟩
 ·refine(hg.block k (by omega) (λ e=>?_)).trans (h.gr.block k I D);rcases h.ow k e.symm with o|o
  ·exact D o.symm
  ·omega
 ·rcases V g e with o|o
  ·exact h.ow g o
  ·right;omega
 ·exact(hg.block k (by omega) (λ e=>by have:=(F.ro.lt k e.symm).1;omega)).trans (h.bl.block k I)
theorem Zb.lower{w:tW}{B':Nat}{v:tV}(h:Zb w B v xs)(o:B'<=B):Zb w B' v xs:=h.keep lR (λ _ _ _=>rfl) o
theorem O4(B:Nat->List (List Nat))(h:l[i]?=some m):(l.take (i+1)).flatMap B=(l.take i).flatMap B++B m:=by
 rw[MY,h,List.flatMap_append];simp
theorem Qb{B:Nat->List (List Nat)}:∀(l:List Nat),(∀m,m∈l->(B m).length<=10)->(l.flatMap B).length<=10*l.length
 | [],_=>by simp
 | m::l,h=>by
  rw[List.flatMap_cons,LH,MN];have:=h m MU;have:=Qb l (λ x o=>h x (MW _ o));omega
theorem Mj{L:List NV}(hs:rA (jB L))(hc:gI (jB L))(hL:L.length<=3000)(c:Nat)(nL:c<256):∀(n:Nat),n<L.length->(∀m,K3 (jB L) n m->(bD (jB L) c m).length<=10)->JI fb L gN aJ c n:=by
 intro n
 induction n using Nat.strongRecOn with
 | ind n ih=>
  intro hn hU w h;obtain⟨t,ht⟩:∃t,L[n]?=some t:=⟨L[n],LC hn⟩
  have hx:=N2 ht;have HE:=fV (Q1 hc (c:=c) hx);have bS:=hs n t.x hx;have aT:=hc n t.x hx;have hC:QO (∀m,m∈t.x.l->JI fb L gN aJ c m):=λ m Z=>ih m (aT m Z) (by have:=aT m Z;omega) (λ k hk=>hU k (K3.trans (.step .refl hx Z) hk))
  have aR:QO (∀m,m∈t.x.l->m<L.length/\(bD (jB L) c m).length<=10/\∀y,y∈bD (jB L) c m->y.length<=1000000):=λ m Z=>by
   have aW:m<L.length:=by have:=aT m Z;omega
   refine⟨aW,hU m (.step .refl hx Z),λ y hy=>?_⟩;have hN:m<(jB L).length:=by rw[lB];exact aW
   have:=(Pc hc hs m hN y (Cq hc m hN y hy)).2;omega
  have cP:=fV (λ(l:List Nat) hb Z hl W hW v (hv:IL W v l)=>Nl (fb:=fb) (gN:=gN) (aJ:=aJ) hs hc (by omega) c (l:=l) hb Z hl (w:=W) hW (v:=v) hv);have sR:=fV (h.nd n t ht).1;have nN:=fV (h.nd n t ht).2;have O6:(0:Int)<=(n:Int)/\(n:Int)<(L.length:Int):=by omega
  have c0:=h.c0;have HF:=fV h;have C:QO (Bl w ((w.alloc (.cells #[.int .i64 0,.slice none 0 0,.slice none 0 0] 180)).setCells w.heap.size 0 t.cells)):=fX _ 0 _ _ (bR.alloc lR _) lR;have hT:QO ((w.alloc (.cells #[.int .i64 0,.slice none 0 0,.slice none 0 0] 180)).there w.heap.size 0 3):=iD _ _ _ _ _ rfl rfl;have hJ:QO (((w.alloc (.cells #[.int .i64 0,.slice none 0 0,.slice none 0 0] 180)).setCells w.heap.size 0 t.cells).rangeAt w.heap.size 0 t.cells):=NF _ _ _ _ hT.o;have bN:w.heap.size<((w.alloc (.cells #[.int .i64 0,.slice none 0 0,.slice none 0 0] 180)).setCells w.heap.size 0 t.cells).heap.size:=by
   have:=(fX t.cells 0 (w.alloc (.cells #[.int .i64 0,.slice none 0 0,.slice none 0 0] 180)) w.heap.size (NJ 0 _) zL).size;simp at this;omega
  have tO:=fV (NV.one nN.o);clear ih h ht hU hx aT;go_enter func107,ntmps107;go_upto_region 2 with(first
   | (refine QP rfl 180 (.tmp 19) rfl gN (n*3) rfl t.cells _ sR.o underlying180 rfl cK ?_)
   | (refine QQ rfl 180 (.tmp 7) (.tmp 20) rfl w.heap.size 0 t.cells.toArray rfl rfl hT.o cK (QR tO.o) ?_))
  generalize (w.alloc (.cells #[.int .i64 0,.slice none 0 0,.slice none 0 0] 180)).setCells w.heap.size 0 t.cells=W at*;have hI:=fV (HF.o.below C.o lR);have bC:=fV (nN.o.below C.o lR);have n0:W.cell? ⟨w.heap.size,0,none⟩=some (.int .i64 (t.x.k:Int)):=by have:=hJ.o 0 _ rfl;exact this
  have n1:W.cell? ⟨w.heap.size,1,none⟩=some t.l:=by have:=hJ.o 1 _ rfl;exact this
  have n2:W.cell? ⟨w.heap.size,2,none⟩=some t.i:=by have:=hJ.o 2 _ rfl;exact this
  clear hT sR c0 hJ tO HF nN;have h5:t.x.k=0\/t.x.k=1\/(t.x.k=2\/t.x.k=4)\/t.x.k=3:=by omega
  rcases h5 with e|e|e|e
  ·
   obtain⟨g,hi,hg,hE⟩:∃g,t.i=.slice (some ⟨g,0,none⟩) 256 256/\g<W.heap.size/\∀i,i<256->W.cell? ⟨g,i,none⟩=some (.bool (t.x.f i)):=by
    rcases bC.o with⟨_,_,_,g,h4,h6,h7⟩|⟨h0,_⟩
    ·exact⟨g,h4,h6,h7⟩
    ·exact absurd e h0
   have HR:QO (bD (jB L) c n=if t.x.f c=true then [[]]else []):=by unfold QO;rw[HE.o,aB e]
   rw[e]at n0;rw[hi]at n2;have y0:=hE c nL;have S5:(0:Int)<=(c:Int)/\(c:Int)<(256:Int):=by omega
   clear e bS hi hE HE bC
   cases hf:t.x.f c with
   | true=>
    rw[hf]at y0;rw[hf,aB rfl]at HR;clear hf;go_wp2_with (first|(at_builtin;refine gB W rfl (.tmp 30) (.tmp 31) 66 rfl W.heap.size 59 (.slice none 0 0) 1 24 MZ cI rfl (by decide) (by decide) (.slice none 0 0) 0 [] [.slice none 0 0] _ rfl (NG _ _ _ 1) _ rfl rfl rfl (by simp[LR]) (by omega) (by omega) ?_;intro g4 cap4 w4 X J bM eX;have Q:=fV ((RI.start W).app (Fj.nil _ _ _) rfl (LL.start _ _) X J bM);clear X J bM eX));go_ret;refine⟨_,rfl,?_,?_⟩
    ·exact⟨Q.o.bl.os.trans C.o.os,Q.o.bl.tape.trans C.o.tape,Q.o.bl.output.trans C.o.output,LZ C.o.size Q.o.bl.size,λ k hk=>(Q.o.bl.block k (by omega)).trans (C.o.block k hk)⟩
    ·rw[HR.o];exact Q.o.done.2.lower (NS bN)
   | false=>
    rw[hf]at y0;rw[hf,aA (by decide)]at HR;clear hf;go_wp2;go_ret;exact⟨_,rfl,C.o,by rw[HR.o];exact(LL.start W _).read⟩
  ·
   obtain⟨g,lc,hl,hA,hg,HG⟩:∃g lc,t.l=.slice (some ⟨g,0,none⟩) t.x.l.length lc/\t.x.l.length<=lc/\g<W.heap.size/\QO (∀(i m:Nat),t.x.l[i]?=some m->W.cell? ⟨g,i,none⟩=some (.int .i64 (m:Int))):=by
    rcases bC.o with⟨h0,_⟩|⟨_,_,g,lc,h1,h2,h3⟩
    ·omega
    ·exact⟨g,lc,h1,h3.2,h2,fV h3.1⟩
   have HR:QO (bD (jB L) c n=nU (bD (jB L) c) (jB L) t.x.l):=by unfold QO;rw[HE.o,aA (by omega),aB e]
   have B2:QO (IL W (.slice (some ⟨g,0,none⟩) t.x.l.length lc) t.x.l):=⟨_,_,rfl,hA,.inr ⟨g,0,rfl,hg,λ i m Z=>by rw[MA];exact HG.o i m Z⟩⟩
   have A1:=bS.2.2;rw[e]at n0;rw[hl]at n1;clear e bS HE bC hl;go_wp2_with fail;refine(cP.o t.x.l hC.o aR.o (by omega) _ (hI.o.below (w':=W) ⟨rfl,rfl,rfl,lR,λ _ _=>rfl⟩ lR) _ (B2.o.below (w':=W) ⟨rfl,rfl,rfl,lR,λ _ _=>rfl⟩ lR)).mono ?_;rintro e w1 ⟨v',rfl,D,Y⟩;have eT:=fV D;have eO:=fV Y;clear D Y;go_wp2;go_ret;refine⟨_,rfl,?_,by rw[HR.o];exact eO.o.lower (NS bN)⟩;exact⟨eT.o.os.trans C.o.os,eT.o.tape.trans C.o.tape,eT.o.output.trans C.o.output,LZ C.o.size eT.o.size,λ k hk=>(eT.o.block k (by omega)).trans (C.o.block k hk)⟩
  ·
   obtain⟨g,lc,hl,hA,hg,HG⟩:∃g lc,t.l=.slice (some ⟨g,0,none⟩) t.x.l.length lc/\t.x.l.length<=lc/\g<W.heap.size/\QO (∀(i m:Nat),t.x.l[i]?=some m->W.cell? ⟨g,i,none⟩=some (.int .i64 (m:Int))):=by
    rcases bC.o with⟨h0,_⟩|⟨_,_,g,lc,h1,h2,h3⟩
    ·omega
    ·exact⟨g,lc,h1,h3.2,h2,fV h3.1⟩
   have HR:QO (bD (jB L) c n=t.x.l.flatMap (bD (jB L) c)):=by unfold QO;rw[HE.o,aA (by omega),aA (by omega),aB e]
   have A1:=bS.2.2;rw[hl]at n1;clear bS HE bC hl cP;generalize t.x.l=l at*;obtain⟨N,eN⟩:=xE (l.length)
   rw[eN]at n1 A1 hA;have hG:=fV eN;clear eN;rcases e with e|e
   ·rw[e]at n0;clear e;go_wp2
    go_loopw [8,9] (λ y z wr=>∃i,i<=N/\z=.int .i64 (i:Int)/\RI W W (.slice none 0 0) wr y ((l.take i).flatMap (bD (jB L) c))) (λ _ z _=>N-(QN z).toNat)
    case atStart=>exact⟨0,by omega,rfl,by rw[NT,OE];exact RI.start W⟩
    case round=>
     obtain⟨i,hi,rfl,cF⟩:=hrel;have F:=fV cF;have hY:=(cF.bl.cell (p:=⟨w.heap.size,1,none⟩) bN).trans n1;clear cF;by_cases aT:i<N
     ·obtain⟨m,Z⟩:∃m,l[i]?=some m:=⟨l[i]'(by rw[hG.o];exact aT),LC _⟩
      have y0:wr.cell? ⟨g,i,none⟩=some (.int .i64 (m:Int)):=(F.o.bl.cell (p:=⟨g,i,none⟩) hg).trans (HG.o i m Z);have U:=LJ Z;have H5:=iI i N (by omega)
      have gL:=fV (hC.o m U);have hF:=(aR.o m U).2.1;have iN:QO ((l.take i).flatMap (bD (jB L) c)++bD (jB L) c m=(l.take (i+1)).flatMap (bD (jB L) c)):=(O4 _ Z).symm;have N1:((l.take i).flatMap (bD (jB L) c)).length<=10*i:=by
       have:=Qb (B:=bD (jB L) c) (l.take i) (λ x hx=>(aR.o x (NH hx)).2.1);rw[NE]at this;omega
      clear Z U;go_upto_region 15 with fail;refine(gL.o _ (hI.o.below (B:=W.heap.size) ⟨F.o.bl.os,F.o.bl.tape,F.o.bl.output,F.o.bl.size,F.o.bl.block⟩ lR)).mono ?_;rintro e w1 ⟨vm,rfl,D,Y⟩;have bT:=fV (F.o.below ⟨D.os,D.tape,D.output,D.size,D.block⟩);have eO:=fV Y;have rO:=D.size;have qL:=F.o.bl.size;obtain⟨M2,bK⟩:=F.o.ll;have hR:QO (∀k,wr.heap.size<=k->u8.ownBlock≠some k):=λ k hk e=>by
       have:=(bK.ro.lt k e).2;omega
      obtain⟨hH,V⟩:=bT.o.ll;have bO:=fV V;clear D Y bK V F hY y0;generalize (l.take i).flatMap (bD (jB L) c)=xi at*;generalize bD (jB L) c m=ym at*;go_wp2_with (first|(at_builtin;refine S3 w1 rfl (.tmp 58) (.tmp 59) rfl W.heap.size u8 xi ym hH vm wr.heap.size rfl bO.o rfl eO.o qL hR.o (by omega) (by omega) ?_;intro v4 w4 eS hB eL;have Q:=fV (bT.o.aM eS hB eL);clear eS hB eL));go_roundw
      case rel=>exact⟨i+1,by omega,by go_num,by rw[<-iN.o];exact Q.o⟩
      case measure=>simp[QN];omega
     ·have eR:i=N:=by omega
      have I:QO (RI W W (.slice none 0 0) wr u8 (l.flatMap (bD (jB L) c))):=by
       unfold QO;have:=F.o;rw[eR,<-hG.o,MM]at this;exact this
      have dl:=dF i N (by omega)
      clear eR F;go_wp2;go_ret;refine⟨_,rfl,?_,by rw[HR.o];exact I.o.done.2.lower (NS bN)⟩;exact⟨I.o.bl.os.trans C.o.os,I.o.bl.tape.trans C.o.tape,I.o.bl.output.trans C.o.output,LZ C.o.size I.o.bl.size,λ k hk=>(I.o.bl.block k (by omega)).trans (C.o.block k hk)⟩
   ·rw[e]at n0;clear e;go_wp2
    go_loopw [8,9] (λ y z wr=>∃i,i<=N/\z=.int .i64 (i:Int)/\RI W W (.slice none 0 0) wr y ((l.take i).flatMap (bD (jB L) c))) (λ _ z _=>N-(QN z).toNat)
    case atStart=>exact⟨0,by omega,rfl,by rw[NT,OE];exact RI.start W⟩
    case round=>
     obtain⟨i,hi,rfl,cF⟩:=hrel;have F:=fV cF;have hY:=(cF.bl.cell (p:=⟨w.heap.size,1,none⟩) bN).trans n1;clear cF;by_cases aT:i<N
     ·obtain⟨m,Z⟩:∃m,l[i]?=some m:=⟨l[i]'(by rw[hG.o];exact aT),LC _⟩
      have y0:wr.cell? ⟨g,i,none⟩=some (.int .i64 (m:Int)):=(F.o.bl.cell (p:=⟨g,i,none⟩) hg).trans (HG.o i m Z);have U:=LJ Z;have H5:=iI i N (by omega)
      have gL:=fV (hC.o m U);have hF:=(aR.o m U).2.1;have iN:QO ((l.take i).flatMap (bD (jB L) c)++bD (jB L) c m=(l.take (i+1)).flatMap (bD (jB L) c)):=(O4 _ Z).symm;have N1:((l.take i).flatMap (bD (jB L) c)).length<=10*i:=by
       have:=Qb (B:=bD (jB L) c) (l.take i) (λ x hx=>(aR.o x (NH hx)).2.1);rw[NE]at this;omega
      clear Z U;go_upto_region 15 with fail;refine(gL.o _ (hI.o.below (B:=W.heap.size) ⟨F.o.bl.os,F.o.bl.tape,F.o.bl.output,F.o.bl.size,F.o.bl.block⟩ lR)).mono ?_;rintro e w1 ⟨vm,rfl,D,Y⟩;have bT:=fV (F.o.below ⟨D.os,D.tape,D.output,D.size,D.block⟩);have eO:=fV Y;have rO:=D.size;have qL:=F.o.bl.size;obtain⟨M2,bK⟩:=F.o.ll;have hR:QO (∀k,wr.heap.size<=k->u8.ownBlock≠some k):=λ k hk e=>by
       have:=(bK.ro.lt k e).2;omega
      obtain⟨hH,V⟩:=bT.o.ll;have bO:=fV V;clear D Y bK V F hY y0;generalize (l.take i).flatMap (bD (jB L) c)=xi at*;generalize bD (jB L) c m=ym at*;go_wp2_with (first|(at_builtin;refine S3 w1 rfl (.tmp 58) (.tmp 59) rfl W.heap.size u8 xi ym hH vm wr.heap.size rfl bO.o rfl eO.o qL hR.o (by omega) (by omega) ?_;intro v4 w4 eS hB eL;have Q:=fV (bT.o.aM eS hB eL);clear eS hB eL));go_roundw
      case rel=>exact⟨i+1,by omega,by go_num,by rw[<-iN.o];exact Q.o⟩
      case measure=>simp[QN];omega
     ·have eR:i=N:=by omega
      have I:QO (RI W W (.slice none 0 0) wr u8 (l.flatMap (bD (jB L) c))):=by
       unfold QO;have:=F.o;rw[eR,<-hG.o,MM]at this;exact this
      have dl:=dF i N (by omega)
      clear eR F;go_wp2;go_ret;refine⟨_,rfl,?_,by rw[HR.o];exact I.o.done.2.lower (NS bN)⟩;exact⟨I.o.bl.os.trans C.o.os,I.o.bl.tape.trans C.o.tape,I.o.bl.output.trans C.o.output,LZ C.o.size I.o.bl.size,λ k hk=>(I.o.bl.block k (by omega)).trans (C.o.block k hk)⟩
  ·
   obtain⟨g,lc,hl,hA,hg,HG⟩:∃g lc,t.l=.slice (some ⟨g,0,none⟩) t.x.l.length lc/\t.x.l.length<=lc/\g<W.heap.size/\QO (∀(i m:Nat),t.x.l[i]?=some m->W.cell? ⟨g,i,none⟩=some (.int .i64 (m:Int))):=by
    rcases bC.o with⟨h0,_⟩|⟨_,_,g,lc,h1,h2,h3⟩
    ·omega
    ·exact⟨g,lc,h1,h3.2,h2,fV h3.1⟩
   obtain⟨m,aW⟩:=bS.2.1 e;have U:m∈t.x.l:=by rw[aW];exact ML.2 rfl
   have HR:QO (bD (jB L) c n=(bD (jB L) c m).map (·++[n])):=by unfold QO;rw[HE.o,aA (by omega),aA (by omega),aA (by omega),aW]
   have y0:W.cell? ⟨g,0,none⟩=some (.int .i64 (m:Int)):=HG.o 0 m (by rw[aW];rfl);have gL:=fV (hC.o m U);have hF:=(aR.o m U).2.1;have H2:=fV (aR.o m U).2.2;rw[hl]at n1;rw[aW]at n1;rw[e]at n0;clear bS HE bC hl cP e hA HG hC aR U aW;have e1:([m]:List Nat).length=1:=rfl;rw[e1]at n1;clear e1;go_upto_region 18 with fail;refine(gL.o _ (hI.o.below (w':=W) ⟨rfl,rfl,rfl,lR,λ _ _=>rfl⟩ lR)).mono ?_;rintro e w1 ⟨vm,rfl,D,Y⟩;have hM:Bl W w1:=⟨D.os,D.tape,D.output,D.size,D.block⟩
   have bT:=fV ((RI.start W).below hM);obtain⟨am,cm,rfl,tL⟩:=Y;have H6:=fV tL;have rO:=D.size;clear tL D hM y0 n1 n0 n2;generalize bD (jB L) c m=ys at*;obtain⟨M,eM⟩:=xE (ys.length)
   rw[eM]at hF ⊢;have B1:=fV eM;clear eM;go_wp2_with fail
   go_loopw [8,12] (λ y2 z2 N0=>∃k,k<=M/\z2=.int .i64 (k:Int)/\RI W w1 (.slice none 0 0) N0 y2 ((ys.take k).map (·++[n]))) (λ _ z2 _=>M-(QN z2).toNat)
   case atStart=>exact⟨0,by omega,rfl,by rw[NT,OC];exact bT.o.from⟩
   case round=>
    obtain⟨k,hk,rfl,hP⟩:=hrel;have aO:=fV hP;clear hP;by_cases H0:k<M
    ·obtain⟨y,hy⟩:∃y,ys[k]?=some y:=⟨ys[k]'(by rw[B1.o];exact H0),LC _⟩
     obtain⟨gm,rfl,O3,A2,sW⟩:=H6.o.resolve_left (λ e=>by rw[e]at hy;simp at hy);obtain⟨u,hu,A0⟩:=sW k y hy;have hV:∀j,j<w1.heap.size->wr.heap[j]?=w1.heap[j]? :=λ j h2=>aO.o.gr.block j h2 (λ e=>by cases e)
     have y1:wr.cell? ⟨gm,k,none⟩=some u:=(LF (w:=w1) (a:=⟨gm,k,none⟩) (hV gm A2)).trans hu;have hK:Fj wr W.heap.size none u y:=A0.keep aO.o.gr.size (λ j h1 h2 _=>⟨hV j h2,λ e=>by cases e⟩) lR;have L1:=fV hK.il;obtain⟨ua,uc,rfl,_,_⟩:=hK;have S2:y.length<=1000000:=H2.o y (LJ hy);have O7:=iI k M (by omega)
     have HY:=fV hy;have aL:QO (Bl wr (wr.alloc (.cells #[.int .i64 (n:Int)] 3))):=bR.alloc lR _;have tT:QO (IL (wr.alloc (.cells #[.int .i64 (n:Int)] 3)) (.slice (some ⟨wr.heap.size,0,none⟩) 1 1) [n]):=⟨_,_,rfl,by simp,.inr ⟨wr.heap.size,0,rfl,by simp,λ i x hx=>by
      cases i with
      | zero=>
       have e:=sJ hx
       subst e;rw[NZ]
       rfl
      | succ i=>simp at hx⟩⟩
     clear hV hu A0 hy sW;go_upto_region 22 with fail;refine(V4 (ns:=y) (ms:= [n]) (L1.o.below aL.o lR) tT.o (by simp;omega)).mono ?_;rintro e wc ⟨H4,rfl,cN,lH⟩;have hQ:Bl wr wc:=⟨cN.os.trans aL.o.os,cN.tape.trans aL.o.tape,cN.output.trans aL.o.output,LZ aL.o.size cN.size,λ k hk=>(cN.block k (LO hk aL.o.size)).trans (aL.o.block k hk)⟩
     have qR:=fV (aO.o.below hQ);obtain⟨H3,hD⟩:=qR.o.ll;obtain⟨ao,co,eo⟩:=gA hD.ro;subst eo;have A3:=aL.o.size;have hS:QO (Fj wc W.heap.size (MJ ao ((ys.take k).map (·++[n])).length co).ownBlock H4 (y++[n])):=Fj.of_row lH (λ j e=>by
      obtain⟨hH,V⟩:=aO.o.ll;exact LO (V.ro.lt j e).2 A3) (LZ aO.o.bl.size A3)
     obtain⟨au,cu,eu⟩:=gA lH;subst eu;have O5:=hQ.size;have O8:=aO.o.bl.size;have O9:W.heap.size<=wc.heap.size:=by omega
     have bO:=fV hD;have H1:QO (((ys.take k).map (·++[n])).length<=10):=by
      unfold QO;rw[MT,NE];omega
     have E6:QO (((ys.take k).map (·++[n]))++[y++[n]]=(ys.take (k+1)).map (·++[n])):=(I3 HY.o [n]).symm;clear hD lH cN hQ tT aL;generalize y++[n]=yr at*;generalize (ys.take k).map (·++[n])=xk at*;obtain⟨nk,ek⟩:=xE (xk.length)
     obtain⟨ny,ey⟩:=xE (yr.length)
     have P0:nk<=10:=by rw[<-ek];exact H1.o
     rw[ek]at bO hS qR ⊢;rw[ey]at hS ⊢;have O0:=fV ek;have rT:=fV bO.o.ro;rw[ek]at rT;clear ek ey;go_wp2_with (first|(at_builtin;refine gB wc rfl (.tmp 83) (.tmp 85) 66 rfl W.heap.size 59 (.slice none 0 0) 1 24 MZ cI rfl (by decide) (by decide) (.slice ao nk co) nk H3 [.slice au ny cu] _ rfl rT.o _ rfl rfl rfl (by simp[LR]) (by omega) (by omega) ?_;intro g4 cap4 w4 X J bM eX;have Q:=fV (qR.o.app hS.o O0.o bO.o X J bM);clear X J bM eX));go_roundw
     case rel=>exact⟨k+1,by omega,by go_num,by rw[<-E6.o];exact Q.o⟩
     case measure=>simp[QN];omega
    ·have rL:k=M:=by omega
     have dl:=dF k M (by omega)
     have hX:=aO.o;rw[rL,<-B1.o,MM]at hX;have I:=fV hX;clear hX rL aO;go_wp2;go_ret;refine⟨_,rfl,?_,by rw[HR.o];exact I.o.done.2.lower (NS bN)⟩;exact⟨I.o.bl.os.trans C.o.os,I.o.bl.tape.trans C.o.tape,I.o.bl.output.trans C.o.output,LZ C.o.size I.o.bl.size,λ k hk=>(I.o.bl.block k (by omega)).trans (C.o.block k hk)⟩
theorem Qk{l:List jL}{x y:jL}(h:l[i]?=some y)(o:mB y.1 y.2 x.1 x.2=true):nH l x=true:=by
 unfold nH;rw[List.any_eq_true];exact⟨y,LJ h,o⟩
theorem Nc{l:List jL}{x:jL}(h:∀(i:Nat)(y:jL),l[i]?=some y->mB y.1 y.2 x.1 x.2=false):nH l x=false:=by
 unfold nH;rw[List.any_eq_false];intro y o;obtain⟨i,hi⟩:=MV o;rw[h i y hi];decide
theorem Ds{w:tW}{P:Nat->Prop}{v u:tV}{ls:List jL}{ns:List Nat}(hv:Aw w P v ls)(hu:IL w u ns)(hl:ls.length<=1000000)(hb:∀x,x∈ls->x.2.length<=1000000)(hn:ns.length<=1000000):
  QW MD 84 #[v,.agg #[.int .i64 (r:Int),u]] w λ e w'=>e=.returned (.bool (nH ls (r,ns)))/\Bl w w':=by
 obtain⟨a,ca,rfl,hv⟩:=hv;have HU:=fV hu;obtain⟨b,cb,rfl,_,_⟩:=hu;obtain⟨n,en⟩:=xE (ls.length)
 obtain⟨m,em⟩:=xE (ns.length)
 rw[en]at hl ⊢;rw[em]at HU ⊢;have bK:m<=1000000:=by omega
 have Y:=fV en;have bN:=fV em;have HV:=fV hv;have aR:=fV hb;clear en em hv hb hn;have C:QO (Bl w (w.alloc (.cells #[.int .i64 (r:Int),.slice b m cb] 188))):=bR.alloc lR _;have aO:w.heap.size<(w.alloc (.cells #[.int .i64 (r:Int),.slice b m cb] 188)).heap.size:=by simp
 have a0:(w.alloc (.cells #[.int .i64 (r:Int),.slice b m cb] 188)).cell? ⟨w.heap.size,0,none⟩=some (.int .i64 (r:Int)):=(MG _ _ _ 0 rfl).trans rfl;have a1:(w.alloc (.cells #[.int .i64 (r:Int),.slice b m cb] 188)).cell? ⟨w.heap.size,1,none⟩=some (.slice b m cb):=(MG _ _ _ 1 rfl).trans rfl;go_enter func84,ntmps84;go_wp2_with fail;generalize w.alloc (.cells #[.int .i64 (r:Int),.slice b m cb] 188)=W at*
 go_loopw [5] (λ z wr=>∃(i:Nat),i<=n/\z=.int .i64 (i:Int)/\QO (∀(j:Nat)(y:jL),j<i->ls[j]?=some y->mB y.1 y.2 r ns=false)/\Bl W wr) (λ z _=>n-(QN z).toNat)
 case atStart=>exact⟨0,by omega,rfl,fV (λ j y hj=>absurd hj (by omega)),bR⟩
 case round=>
  obtain⟨i,hi,rfl,HA,F⟩:=hrel;have J:=fV F;have bT:=F.size;have b0:=(F.cell (p:=⟨w.heap.size,0,none⟩) aO).trans a0;have b1:=(F.cell (p:=⟨w.heap.size,1,none⟩) aO).trans a1;by_cases aW:i<n
  ·obtain⟨y,Q⟩:∃y,ls[i]?=some y:=⟨ls[i]'(by rw[Y.o];exact aW),LC _⟩
   obtain⟨g,rfl,_,hg,hc⟩:=HV.o.resolve_left (λ e=>by rw[e]at Q;simp at Q);obtain⟨q,hq,V⟩:=hc i y Q;have Z:g<W.heap.size:=by have:=C.o.size;omega
   have y1:wr.cell? ⟨g,i*2,none⟩=some (.int .i64 (y.1:Int)):=(F.cell (p:=⟨g,i*2,none⟩) Z).trans ((C.o.cell (p:=⟨g,i*2,none⟩) hg).trans (by have:=hq 0 _ rfl;exact this));have y2:wr.cell? ⟨g,i*2+1,none⟩=some q:=(F.cell (p:=⟨g,i*2+1,none⟩) Z).trans ((C.o.cell (p:=⟨g,i*2+1,none⟩) hg).trans (by have:=hq 1 _ rfl;exact this));have bC:QO (IL wr q y.2):=(V.il.below C.o lR).below F lR;have aT:QO (IL wr (.slice b m cb) ns):=(HU.o.below C.o lR).below F lR;obtain⟨qa,qc,rfl,_,_⟩:=V;have bM:=aR.o y (LJ Q);have aL:QO (y.2.length<=1000000/\ns.length<=1000000):=⟨bM,by rw[bN.o];exact bK⟩
   have bS:=iI i n (by omega)
   have HY:=fV Q;clear F hq hc Q;go_upto_region 4 with fail
   go_cut [6] from 7 to 19 (λ x wx=>x=.bool (mB y.1 y.2 r ns)/\Bl wr wx)
   case first=>
    go_region_with (go_at_call 110;refine(Vm y.1 r (bC.o.below (w':=wr.drew) ⟨rfl,rfl,rfl,lR,λ _ _=>rfl⟩ lR) (aT.o.below (w':=wr.drew) ⟨rfl,rfl,rfl,lR,λ _ _=>rfl⟩ lR) aL.o).mono ?_;rintro e w3 ⟨rfl,D⟩)
    all_goals
     have I:QO (Bl wr w3):=⟨D.os,D.tape,D.output,D.size,D.block⟩
     clear D;go_wp2_with fail;go_meet
     case rel=>exact⟨rfl,I.o⟩
   case rest=>
    obtain⟨rfl,D⟩:=hcut;have I:QO (Bl W wc):=⟨D.os.trans J.o.os,D.tape.trans J.o.tape,D.output.trans J.o.output,LZ J.o.size D.size,λ k U=>(D.block k (LO U J.o.size)).trans (J.o.block k U)⟩
    clear D
    cases hsm:mB y.1 y.2 r ns with
    | true=>
     have HR:QO (nH ls (r,ns)=true):=Qk HY.o hsm;clear hsm;go_wp2;go_ret;refine⟨by rw[HR.o];rfl,I.o.os.trans C.o.os,I.o.tape.trans C.o.tape,I.o.output.trans C.o.output,LZ C.o.size I.o.size,λ k U=>(I.o.block k (LO U C.o.size)).trans (C.o.block k U)⟩
    | false=>
     have bO:QO (∀(j:Nat)(y:jL),j<i+1->ls[j]?=some y->mB y.1 y.2 r ns=false):=λ j z hj X=>by
      by_cases e:j=i
      ·subst e;rw[HY.o]at X;injection X with X;rw[<-X];exact hsm
      ·exact HA.o j z (by omega) X
     clear hsm;go_wp2;go_roundw
     case rel=>exact⟨i+1,by omega,by go_num,bO,I.o⟩
     case measure=>simp[QN];omega
  ·have HR:QO (nH ls (r,ns)=false):=Nc (λ j y Q=>HA.o j y (by have:=(LD.1 Q).1;rw[Y.o]at this;omega) Q);have dl:=dF i n (by omega)
   go_wp2;go_ret;refine⟨by rw[HR.o];rfl,J.o.os.trans C.o.os,J.o.tape.trans C.o.tape,J.o.output.trans C.o.output,LZ C.o.size J.o.size,λ k U=>(J.o.block k (LO U C.o.size)).trans (C.o.block k U)⟩
theorem Oj{a b:List jL}(h:a.length≠b.length):pP a b=false:=by
 unfold pP;rw[decide_eq_false h];rfl
theorem Wq{a b:List jL}{x:jL}(o:a[i]?=some x)(h:nH b x=false):pP a b=false:=by
 unfold pP;have:a.all (λ x=>nH b x)=false:=by
  rw[OD];exact⟨x,LJ o,by rw[h];decide⟩
 rw[this,Bool.and_false]
theorem Pm{a b:List jL}(C:a.length=b.length)(h:∀(i:Nat)(x:jL),a[i]?=some x->nH b x=true):pP a b=true:=by
 unfold pP;rw[decide_eq_true C,Bool.true_and,OF];intro x o;obtain⟨i,hi⟩:=MV o;exact h i x hi
theorem Oe{w:tW}{P Q:Nat->Prop}{v u:tV}{ls ms:List jL}(hv:Aw w P v ls)(hu:Aw w Q u ms)(hl:ls.length<=1000000)(aO:ms.length<=1000000)(hb:∀x,x∈ls->x.2.length<=1000000)(aL:∀x,x∈ms->x.2.length<=1000000):
  QW MD 105 #[v,u] w λ e w'=>e=.returned (.bool (pP ls ms))/\Bl w w':=by
 have HU:=fV hu;obtain⟨a,ca,rfl,hv⟩:=hv;obtain⟨b,cb,rfl,_⟩:=hu;obtain⟨n,en⟩:=xE (ls.length)
 obtain⟨m,em⟩:=xE (ms.length)
 rw[en]at hl ⊢;rw[em]at HU ⊢;have bS:=fV aO;have I:=fV en;have Z:=fV em;have HV:=fV hv;have bM:=fV hb;have aR:=fV aL;clear en em hv hb aL aO;by_cases F:n=m
 ·have d1:((n:Int) !=(m:Int))=false:=by rw[F];simp
  have aT:=fV F;clear F;go_enter func105,ntmps105;go_wp2_with fail
  go_loopw [5] (λ z wr=>∃(i:Nat),i<=n/\z=.int .i64 (i:Int)/\QO (∀(j:Nat)(y:jL),j<i->ls[j]?=some y->nH ms y=true)/\Bl w wr) (λ z _=>n-(QN z).toNat)
  case atStart=>exact⟨0,by omega,rfl,fV (λ j y hj=>absurd hj (by omega)),bR⟩
  case round=>
   obtain⟨i,hi,rfl,HA,C⟩:=hrel;have U:=fV C;have cF:=C.size;by_cases bK:i<n
   ·obtain⟨y,J⟩:∃y,ls[i]?=some y:=⟨ls[i]'(by rw[I.o];exact bK),LC _⟩
    obtain⟨g,rfl,_,hg,hc⟩:=HV.o.resolve_left (λ e=>by rw[e]at J;simp at J);obtain⟨q,hq,Y⟩:=hc i y J;have y1:wr.cell? ⟨g,i*2,none⟩=some (.int .i64 (y.1:Int)):=(C.cell (p:=⟨g,i*2,none⟩) hg).trans (by have:=hq 0 _ rfl;exact this);have y2:wr.cell? ⟨g,i*2+1,none⟩=some q:=(C.cell (p:=⟨g,i*2+1,none⟩) hg).trans (by have:=hq 1 _ rfl;exact this);have aW:QO (IL wr q y.2):=Y.il.below C lR;have bC:QO (Aw wr Q (.slice b m cb) ms):=HU.o.below C;obtain⟨qa,qc,rfl,_,_⟩:=Y;have bO:=fV (bM.o y (LJ J));have bT:=iI i n (by omega)
    have HY:=fV J;clear C hq hc J;go_wp2_with fail;refine(Ds (r:=y.1) (bC.o.below (w':=wr) ⟨rfl,rfl,rfl,lR,λ _ _=>rfl⟩) (aW.o.below (w':=wr) ⟨rfl,rfl,rfl,lR,λ _ _=>rfl⟩ lR) bS.o aR.o bO.o).mono ?_;rintro e w3 ⟨rfl,D⟩;have X:QO (Bl w w3):=⟨D.os.trans U.o.os,D.tape.trans U.o.tape,D.output.trans U.o.output,LZ U.o.size D.size,λ k hk=>(D.block k (LO hk U.o.size)).trans (U.o.block k hk)⟩
    clear D
    cases hsm:nH ms (y.1,y.2)with
    | true=>
     have bN:QO (∀(j:Nat)(y:jL),j<i+1->ls[j]?=some y->nH ms y=true):=λ j z hj V=>by
      by_cases e:j=i
      ·subst e;rw[HY.o]at V;injection V with V;rw[<-V];exact hsm
      ·exact HA.o j z (by omega) V
     clear hsm;go_wp2;go_roundw
     case rel=>exact⟨i+1,by omega,by go_num,bN,X.o⟩
     case measure=>simp[QN];omega
    | false=>
     have HR:QO (pP ls ms=false):=Wq HY.o hsm;clear hsm;go_wp2;go_ret;exact⟨by rw[HR.o];rfl,X.o⟩
   ·have HR:QO (pP ls ms=true):=Pm (by rw[I.o,Z.o];exact aT.o) (λ j y J=>HA.o j y (by have:=(LD.1 J).1;rw[I.o]at this;omega) J);have dl:=dF i n (by omega)
    go_wp2;go_ret;exact⟨by rw[HR.o];rfl,U.o⟩
 ·have d1:((n:Int) !=(m:Int))=true:=by rw[aD];omega
  have HR:QO (pP ls ms=false):=Oj (by rw[I.o,Z.o];exact F);clear F;go_enter func105,ntmps105;go_wp2;go_ret;exact⟨by rw[HR.o];rfl,bR⟩
open Go.Stn
section
def Ap(N:List RN)(Ls:List (List jL))(l:List jL)(b:Nat)(t:Int):Prop:=
 (lG N b l=[]/\t= -1)\/∃(k:Nat)(o:List jL),t=(k:Int)/\0<k/\Ls[k]?=some o/\lG N b l≠ []/\∀x,x∈o↔x∈lG N b l
theorem Ap.app{N:List RN}{Ls:List (List jL)}{l:List jL}(h:Ap N Ls l b t)(a:List jL):Ap N (Ls++[a]) l b t:=by
 rcases h with h|⟨k,I,D,F,o,C⟩
 ·exact .inl h
 ·exact .inr ⟨k,I,D,F,by rw[LI (LD.1 o).1];exact o,C⟩
theorem Ap.rng{N:List RN}{Ls:List (List jL)}{l:List jL}(h:Ap N Ls l b t):t= -1\/(0<t/\t<(Ls.length:Int)):=by
 rcases h with h|⟨k,I,D,F,o,C⟩
 ·exact .inl h.2
 ·right;have:=(LD.1 o).1;omega
def Dn(p b i j:Nat):Prop:=j<256/\(i<p\/(i=p/\j<b))
structure GI(N:List RN)(aQ:List Nat)(l0:List jL)(Ls:List (List jL))(Of:List Int)(To:Nat->Nat->Int)(p b:Nat):Prop where
 len:Of.length=Ls.length
 z:Ls[0]?=some l0
 zo:Of[0]?=some (-1)
 of:∀(i:Nat)(l:List jL),0<i->Ls[i]?=some l->Of[i]?=some (pT N l)
 ok:∀(i:Nat)(l:List jL),0<i->Ls[i]?=some l->l≠ []/\l.Nodup/\∀x,x∈l->UL N aQ x
 dif:∀(i j:Nat)(l l':List jL),0<i->i<j->Ls[i]?=some l->Ls[j]?=some l'->¬ ∀x,x∈l↔x∈l'
 lead:∀(i j:Nat)(l:List jL),Dn p b i j->Ls[i]?=some l->Ap N Ls l j (To i j)
 d1:∀(i j q:Nat),Dn p b i j->0<q->(q:Int)<=To i j->∃i' j':Nat,Dn p b i' j'/\(i'<i\/(i'=i/\j'<=j))/\To i' j'=(q:Int)
 d2:∀q:Nat,0<q->q<Ls.length->∃i j:Nat,Dn p b i j/\i<q/\To i j=(q:Int)
def Ao(To:Nat->Nat->Int)(p b:Nat)(t:Int):Nat->Nat->Int:=λ i j=>if i=p/\j=b then t else To i j
theorem qM(To:Nat->Nat->Int)(p b:Nat)(t:Int):Ao To p b t p b=t:=aB ⟨rfl,rfl⟩
theorem mP{To:Nat->Nat->Int}(h:¬(i=p/\j=b)):Ao To p b t i j=To i j:=aA h
section
variable {N:List RN}{aQ:List Nat}{l0:List jL}{Ls:List (List jL)}{Of:List Int}{To:Nat->Nat->Int}{p b:Nat}
theorem Dn.old(h:Dn p b i j):¬(i=p/\j=b):=λ e=>by
 rcases h.2 with h|h
 ·omega
 ·omega
theorem Dn.more(h:Dn p b i j):Dn p (b+1) i j:=⟨h.1,h.2.imp id (λ h=>⟨h.1,by omega⟩)⟩
theorem Dn.split(h:Dn p (b+1) i j):Dn p b i j\/(i=p/\j=b):=by
 rcases h.2 with o|o
 ·exact .inl ⟨h.1,.inl o⟩
 ·by_cases e:j=b
  ·exact .inr ⟨o.1,e⟩
  ·exact .inl ⟨h.1,.inr ⟨o.1,by omega⟩⟩
theorem GI.start(N:List RN)(aQ:List Nat)(l0:List jL)(To:Nat->Nat->Int):GI N aQ l0 [l0] [-1] To 0 0:=
 ⟨rfl,rfl,rfl,λ i l C o=>(by have:=(LD.1 o).1;simp at this;omega),λ i l C o=>(by have:=(LD.1 o).1;simp at this;omega),
  λ i j l F C o _ D=>(by have:=(LD.1 D).1;simp at this;omega),λ i j l h=>(by rcases h.2 with h|h<;>omega),λ i j q h=>(by rcases h.2 with h|h<;>omega),λ q C o=>(by simp at o;omega)⟩
theorem GI.old(h:GI N aQ l0 Ls Of To p b)(hb:b<256){l:List jL}(Z:Ls[p]?=some l){t:Int}(X:Ap N Ls l b t):GI N aQ l0 Ls Of (Ao To p b t) p (b+1):=by
 have hr:=X.rng;refine⟨h.len,h.z,h.zo,h.of,h.ok,h.dif,λ i j Y D o=>?_,λ i j q D Q F=>?_,λ q Q V=>?_⟩
 ·rcases D.split with D|⟨rfl,rfl⟩
  ·rw[mP D.old];exact h.lead i j Y D o
  ·rw[Z]at o;injection o with o;subst o;rw[qM];exact X
 ·rcases D.split with D|⟨rfl,rfl⟩
  ·rw[mP D.old]at F;obtain⟨i',J,C,U,I⟩:=h.d1 i j q D Q F;exact⟨i',J,C.more,U,by rw[mP C.old];exact I⟩
  ·rw[qM]at F;obtain⟨i',J,C,U,I⟩:=h.d2 q Q (by omega);refine⟨i',J,C.more,?_,by rw[mP C.old];exact I⟩;rcases C.2 with k|k
   ·exact .inl k
   ·exact .inr ⟨k.1,by omega⟩
 ·obtain⟨i',J,C,U,I⟩:=h.d2 q Q V;exact⟨i',J,C.more,U,by rw[mP C.old];exact I⟩
theorem GI.new(h:GI N aQ l0 Ls Of To p b)(hb:b<256){l:List jL}(hl:Ls[p]?=some l)(aL:lG N b l≠ [])(hu:∀x,x∈lG N b l->UL N aQ x)(aO:∀(i:Nat)(o:List jL),0<i->Ls[i]?=some o->¬ ∀x,x∈o↔x∈lG N b l):
  GI N aQ l0 (Ls++[lG N b l]) (Of++[pT N (lG N b l)]) (Ao To p b (Ls.length:Int)) p (b+1):=by
 have hp:=(LD.1 hl).1;have I:=h.len;have C:∀(i:Nat)(o:List jL),(Ls++[lG N b l])[i]?=some o->Ls[i]?=some o\/(i=Ls.length/\o=lG N b l):=λ i o hi=>by
  by_cases Q:i<Ls.length
  ·rw[LI Q]at hi;exact .inl hi
  ·have:=(LD.1 hi).1;rw[LH,LK]at this;have e:i=Ls.length:=by omega
   subst e;rw[LP lR,NB]at hi;exact .inr ⟨rfl,by simpa using hi.symm⟩
 have V:(Ls++[lG N b l])[Ls.length]?=some (lG N b l):=by rw[LP lR,NB];rfl
 have hz:=(LD.1 h.z).1;refine⟨by simp[I],by rw[LI hz];exact h.z,by rw[LI (by omega)];exact h.zo,λ i o Y hi=>?_,λ i o Y hi=>?_,λ i j l1 l2 Y aR F U=>?_,λ i j o J D=>?_,λ i j q J hq X=>?_,λ q hq Q=>?_⟩
 ·rcases C i o hi with k|⟨Z,k2⟩
  ·rw[LI (by rw[I];exact(LD.1 k).1)];exact h.of i o Y k
  ·rw[Z,k2,<-I,LP lR,NB];rfl
 ·rcases C i o hi with k|⟨Z,k2⟩
  ·exact h.ok i o Y k
  ·rw[k2];exact⟨aL,P6 _ _ _,hu⟩
 ·have aT:=(LD.1 U).1;rw[LH,LK]at aT;have Z:=(C i l1 F).resolve_right (λ e=>by omega);rcases C j l2 U with k|⟨e1,e2⟩
  ·exact h.dif i j l1 l2 Y aR Z k
  ·rw[e2];exact aO i l1 Y Z
 ·rcases J.split with J|⟨rfl,rfl⟩
  ·rw[mP J.old];have hi:i<Ls.length:=by rcases J.2 with k|k<;>omega
   rw[LI hi]at D;exact(h.lead i j o J D).app _
  ·rw[LI hp,hl]at D;injection D with D;subst D;rw[qM];exact .inr ⟨Ls.length,_,rfl,by omega,V,aL,λ _=>Iff.rfl⟩
 ·rcases J.split with J|⟨rfl,rfl⟩
  ·rw[mP J.old]at X;obtain⟨i',j',F,U,h3⟩:=h.d1 i j q J hq X;exact⟨i',j',F.more,U,by rw[mP F.old];exact h3⟩
  ·rw[qM]at X;by_cases e:q=Ls.length
   ·exact⟨i,j,J,.inr ⟨rfl,lR⟩,by rw[qM,e]⟩
   ·obtain⟨i',j',F,U,h3⟩:=h.d2 q hq (by omega);refine⟨i',j',F.more,?_,by rw[mP F.old];exact h3⟩;rcases F.2 with k|k
    ·exact .inl k
    ·exact .inr ⟨k.1,by omega⟩
 ·rw[LH,LK]at Q;by_cases e:q=Ls.length
  ·exact⟨p,b,⟨hb,.inr ⟨rfl,by omega⟩⟩,by omega,by rw[qM,e]⟩
  ·obtain⟨i',j',F,U,h3⟩:=h.d2 q hq (by omega);exact⟨i',j',F.more,U,by rw[mP F.old];exact h3⟩
theorem Dn.aG:Dn p 256 i j↔Dn (p+1) 0 i j:=by
 unfold Dn;constructor
 ·rintro⟨h,k⟩;exact⟨h,.inl (by omega)⟩
 ·rintro⟨h,k⟩;refine⟨h,?_⟩;by_cases e:i=p
  ·exact .inr ⟨e,h⟩
  ·exact .inl (by omega)
theorem GI.aG(h:GI N aQ l0 Ls Of To p 256):GI N aQ l0 Ls Of To (p+1) 0:=
 ⟨h.len,h.z,h.zo,h.of,h.ok,h.dif,λ i j l C V=>h.lead i j l (Dn.aG.2 C) V,λ i j q C D F=>by
  obtain⟨i',U,I,J,Q⟩:=h.d1 i j q (Dn.aG.2 C) D F;exact⟨i',U,Dn.aG.1 I,J,Q⟩,λ q D o=>by
  obtain⟨i',U,I,J,Q⟩:=h.d2 q D o;exact⟨i',U,Dn.aG.1 I,J,Q⟩⟩
def R0:List jL->List jL->Nat
 | [],_=>0
 | u::us,l=>2*R0 us l+(if nH l u=true then 1 else 0)
theorem Np:∀(o l:List jL),R0 o l<2 ^ o.length
 | [],l=>by show 0<1;omega
 | u::o,l=>by
  have:=Np o l;unfold R0;rw[MN,Nat.pow_succ];split<;>omega
theorem Br:∀{o l C:List jL},R0 o l=R0 o C->∀u,u∈o->(u∈l↔u∈C)
 | [],l,C,_,u,hu=>absurd hu NC
 | a::o,l,C,h,u,hu=>by
  unfold R0 at h;have I:R0 o l=R0 o C:=by split at h<;>split at h<;>omega
  have J:(nH l a=true↔nH C a=true):=by
   constructor
   ·intro F;rw[aB F]at h;apply MC;intro D;rw[aA D]at h;omega
   ·intro F;rw[aB F]at h;apply MC;intro D;rw[aA D]at h;omega
  rcases OJ.1 hu with e|e
  ·rw[e,<-rR,<-rR];exact J
  ·exact Br I u e
theorem GI.few(Z:mO N aQ ks)(h:GI N aQ l0 Ls Of To p b):Ls.length<=1025:=by
 obtain⟨S,Q,I⟩:=Z.univ;have o:0<Ls.length:=(LD.1 h.z).1;obtain⟨a,t,e⟩:∃a t,Ls=a::t:=by
  cases hL:Ls with
  | nil=>rw[hL]at o;simp at o
  | cons a t=>exact⟨a,t,rfl⟩
 have J:(t.map (R0 S)).Nodup:=by
  refine List.pairwise_iff_getElem.2 (λ i j F D X=>?_);rw[MT]at F D;rw[OG,OG];intro V;have hi:Ls[i+1]?=some (t[i]'F):=by rw[e,NW];exact LC F
  have U:Ls[j+1]?=some (t[j]'D):=by rw[e,NW];exact LC D
  refine h.dif (i+1) (j+1) _ _ (by omega) (by omega) hi U (λ x=>?_);have Y:=(h.ok (i+1) _ (by omega) hi).2.2;have k2:=(h.ok (j+1) _ (by omega) U).2.2;constructor
  ·intro C;exact(Br V x (I x (Y x C))).1 C
  ·intro C;exact(Br V x (I x (k2 x C))).2 C
 have:=vY (S:=List.range 1024) J (λ x C=>by
  obtain⟨l,_,rfl⟩:=OK.1 C;rw[List.mem_range];have h1:=Np S l;have h2:2 ^ S.length<=2 ^ 10:=Nat.pow_le_pow_right (by decide) Q;omega)
 rw[MT,List.length_range]at this;rw[e,MN];omega
theorem GI.auto(h:GI N aQ l0 Ls Of To Ls.length 0):oT Ls.length 256 To:=by
 have D:=(LD.1 h.z).1;refine⟨D,λ p b o C=>?_⟩;have:=(h.lead p b _ ⟨C,.inl o⟩ (LC o)).rng;omega
theorem GI.order(h:GI N aQ l0 Ls Of To Ls.length 0):Gg Ls.length 256 To:=by
 refine⟨λ p b q Q U C D=>?_,λ q C o=>?_⟩
 ·obtain⟨i,j,F,I,J⟩:=h.d1 p b q ⟨U,.inl Q⟩ C D;exact⟨i,j,F.1,I,J⟩
 ·obtain⟨i,j,F,I,J⟩:=h.d2 q C o;exact⟨i,j,I,F.1,J⟩
end
def Ii(N:List RN)(l:List jL)(w:List Nat)(v:Nat):Prop:=(v=0/\∀r,¬WL N l r w)\/∃r,v=r+1/\WL N l r w/\∀r',r'<r->¬WL N l r' w
theorem Ii.same{N:List RN}{l I:List jL}{w w':List Nat}{v:Nat}(h:Ii N l w v)(C:∀r,WL N l r w↔WL N I r w'):Ii N I w' v:=by
 rcases h with⟨o,F⟩|⟨r,o,F,U⟩
 ·exact .inl ⟨o,λ r J=>F r ((C r).2 J)⟩
 ·exact .inr ⟨r,o,(C r).1 F,λ r' D Q=>U r' D ((C r').2 Q)⟩
theorem WL.same{N:List RN}{l D:List jL}(h:∀x,x∈l↔x∈D)(r:Nat)(w:List Nat):WL N l r w↔WL N D r w:=by
 constructor
 ·rintro⟨p,o,C⟩;exact⟨p,(h p).1 o,C⟩
 ·rintro⟨p,o,C⟩;exact⟨p,(h p).2 o,C⟩
def KW(Of:List Int)(p:Nat):Nat:=(Of.getD p 0+1).toNat
section
variable {N:List RN}{aQ ks:List Nat}{l0:List jL}{Ls:List (List jL)}{Of:List Int}{To:Nat->Nat->Int}
theorem s6(F:mO N aQ ks)(l:List jL):Ii N l [] (pT N l+1).toNat:=by
 rcases BB N l with⟨C,D⟩|⟨r,C,⟨p,D,V,Q⟩,X⟩
 ·refine .inl ⟨by rw[C];rfl,λ r=>?_⟩;rintro⟨p,I,_,o⟩;have:=(F.done p.2).2 o;rw[D p I]at this
  cases this
 ·refine .inr ⟨r,by rw[C];omega,⟨p,D,V,(F.done p.2).1 Q⟩,λ r' U=>?_⟩;rintro⟨q,J,e,o⟩;have:=X q J ((F.done q.2).2 o);omega
theorem GI.tok(hf:mO N aQ ks)(h0:∀x,x∈l0->UB N aQ x)(h:GI N aQ l0 Ls Of To Ls.length 0):∀(w:List Nat)(b:Nat)(p:Nat)(l:List jL),Ls[p]?=some l->lF 256 (b::w)->Ii N l (b::w) (jM (KW Of) To p (b::w)):=by
 have V:∀(p:Nat)(l:List jL),Ls[p]?=some l->∀x,x∈l->UB N aQ x:=λ p l C x X=>by
  by_cases e:p=0
  ·rw[e,h.z]at C;injection C with C;subst C;exact h0 x X
  ·exact((h.ok p l (by omega) C).2.2 x X).ub
 intro w
 induction w with
 | nil=>
  intro b p l C o;have Y:=(LD.1 C).1;have Q:=o b MU;have D:=λ r=>hf.wl_step (V p l C) Q r []
  rcases h.lead p b l ⟨Q,.inl Y⟩ C with⟨F,I⟩|⟨k,U,F,I,Z,h4,h5⟩
  ·rw[lS I];refine .inl ⟨rfl,λ r hr=>?_⟩;obtain⟨q,J,_⟩:=(D r).2 hr;rw[F]at J;exact absurd J NC
  ·rw[iT (by rw[F];omega),F,MF,Zq];have e:KW Of k=(pT N U+1).toNat:=by
    unfold KW;rw[LN,h.of k U I Z]
    rfl
   rw[e];exact(s6 hf U).same (λ r=>(WL.same h5 r []).trans (D r))
 | cons c w ih=>
  intro b p l C o;have Y:=(LD.1 C).1;have Q:=o b MU;have D:=λ r=>hf.wl_step (V p l C) Q r (c::w)
  rcases h.lead p b l ⟨Q,.inl Y⟩ C with⟨F,I⟩|⟨k,U,F,I,Z,h4,h5⟩
  ·rw[lS I];refine .inl ⟨rfl,λ r hr=>?_⟩;obtain⟨q,J,_⟩:=(D r).2 hr;rw[F]at J;exact absurd J NC
  ·rw[iT (by rw[F];omega),F,MF];exact(ih c k U Z (λ x X=>o x (MW _ X))).same (λ r=>(WL.same h5 r (c::w)).trans (D r))
end
end
theorem d7{N:List RN}{x:RN}(C:N[n]?=some x)(o:x.k=0)(D:x.f a≠x.f b):wQ N a b=false:=by
 unfold wQ;rw[OD];refine⟨x,LJ C,?_⟩;rw[o];simpa using D
theorem Hp{N:List RN}(h:∀(n:Nat)(x:RN),N[n]?=some x->x.k=0->x.f a=x.f b):wQ N a b=true:=by
 unfold wQ;rw[OF];intro x D;obtain⟨n,C⟩:=MV D;by_cases o:x.k=0
 ·rw[h n x C o];simp
 ·have:(x.k !=0)=true:=by rw[aD];exact o
  rw[this];rfl
theorem Yj{L:List NV}(ha:a<256)(hb:b<256)(hL:L.length<=100000){w:tW}(h:FR fb w L gN aJ):
  QW MD 45 #[.pointer (some ⟨fb,0,none⟩),.int .i64 (a:Int),.int .i64 (b:Int)] w λ e w'=>e=.returned (.bool (wQ (jB L) a b))/\Bl w w':=by
 obtain⟨n,en⟩:=xE (L.length)
 have k0:=h.c0;rw[en]at hL k0;have bN:=fV en;have HF:=fV h;have bS:=h.b0;have cF:(0:Int)<=(a:Int)/\(a:Int)<(256:Int):=by omega
 have bT:(0:Int)<=(b:Int)/\(b:Int)<(256:Int):=by omega
 clear en h;go_enter func45,ntmps45;go_wp2_with fail
 go_loopw [7] (λ z wr=>∃(i:Nat),i<=n/\z=.int .i64 (i:Int)/\QO (∀(j:Nat)(x:RN),j<i->(jB L)[j]?=some x->x.k=0->x.f a=x.f b)/\Bl w wr) (λ z _=>n-(QN z).toNat)
 case atStart=>exact⟨0,by omega,rfl,fV (λ j x hj=>absurd hj (by omega)),bR⟩
 case round=>
  obtain⟨i,hi,rfl,HA,V⟩:=hrel;have HB:=fV V;have cP:=V.size;have c0:wr.cell? ⟨fb,0,none⟩=some (.slice (some ⟨gN,0,none⟩) n aJ):=(V.cell (p:=⟨fb,0,none⟩) bS).trans k0;by_cases X:i<n
  ·obtain⟨t,ht⟩:∃t,L[i]?=some t:=⟨L[i]'(by rw[bN.o];exact X),LC _⟩
   have aL:=HF.o.below V lR;have bO:=fV (aL.nd i t ht).1;have aW:=fV (aL.nd i t ht).2;have HX:=fV (N2 ht);have cN:=iI i n (by omega)
   have Q:QO (Bl wr ((wr.alloc (.cells #[.int .i64 0,.slice none 0 0,.slice none 0 0] 180)).setCells wr.heap.size 0 t.cells)):=fX _ 0 _ _ (bR.alloc lR _) lR;have aR:QO ((wr.alloc (.cells #[.int .i64 0,.slice none 0 0,.slice none 0 0] 180)).there wr.heap.size 0 3):=iD _ _ _ _ _ rfl rfl;have aO:QO (((wr.alloc (.cells #[.int .i64 0,.slice none 0 0,.slice none 0 0] 180)).setCells wr.heap.size 0 t.cells).rangeAt wr.heap.size 0 t.cells):=NF _ _ _ _ aR.o;have bK:=fV (NV.one aW.o);clear aL ht V;go_upto_region 5 with(first
    | (refine QP rfl 180 (.tmp 23) rfl gN (i*3) rfl t.cells _ bO.o underlying180 rfl cK ?_)
    | (refine QQ rfl 180 (.tmp 8) (.tmp 24) rfl wr.heap.size 0 t.cells.toArray rfl rfl aR.o cK (QR bK.o) ?_))
   generalize (wr.alloc (.cells #[.int .i64 0,.slice none 0 0,.slice none 0 0] 180)).setCells wr.heap.size 0 t.cells=W at*;have aT:=fV (aW.o.below Q.o lR);have n0:W.cell? ⟨wr.heap.size,0,none⟩=some (.int .i64 (t.x.k:Int)):=by have:=aO.o 0 _ rfl;exact this
   have n2:W.cell? ⟨wr.heap.size,2,none⟩=some t.i:=by have:=aO.o 2 _ rfl;exact this
   have C:QO (Bl w W):=⟨Q.o.os.trans HB.o.os,Q.o.tape.trans HB.o.tape,Q.o.output.trans HB.o.output,LZ HB.o.size Q.o.size,λ k I=>(Q.o.block k (LO I HB.o.size)).trans (HB.o.block k I)⟩
   clear aR bO c0 aO bK aW
   dsimp only[Act.put]
   have Y:QO ((t.x.k=0->t.x.f a=t.x.f b)->∀(j:Nat)(x:RN),j<i+1->(jB L)[j]?=some x->x.k=0->x.f a=x.f b):=λ hh j x hj Z I=>by
    by_cases e:j=i
    ·subst e;rw[HX.o]at Z;injection Z with Z;rw[<-Z]at I ⊢;exact hh I
    ·exact HA.o j x (by omega) Z I
   by_cases I:t.x.k=0
   ·obtain⟨g,bM,hg,J⟩:∃g,t.i=.slice (some ⟨g,0,none⟩) 256 256/\g<W.heap.size/\∀i,i<256->W.cell? ⟨g,i,none⟩=some (.bool (t.x.f i)):=by
     rcases aT.o with⟨_,_,_,g,h4,h6,h7⟩|⟨h0,_⟩
     ·exact⟨g,h4,h6,h7⟩
     ·exact absurd I h0
    have y1:=J a ha;have y2:=J b hb;rw[bM]at n2;have D:QO (t.x.f a≠t.x.f b->wQ (jB L) a b=false):=d7 HX.o I;rw[I]at n0;have bC:=Y.o;rw[I]at bC;have F:QO (t.x.f a=t.x.f b->∀(j:Nat)(x:RN),j<i+1->(jB L)[j]?=some x->x.k=0->x.f a=x.f b):=λ e=>bC (λ _=>e)
    have dk:((0:Int)==0)=true:=rfl;clear I bM J bC Y aT
    cases hfa:t.x.f a<;>cases hfb:t.x.f b<;>rw[hfa]at y1 D F<;>rw[hfb]at y2 D F<;>clear hfa hfb
    ·have U:=fV (F.o rfl);clear F D;go_big_region
     all_goals
      go_wp2;go_roundw
      case rel=>exact⟨i+1,X,by go_num,U,⟨C.o.os,C.o.tape,C.o.output,C.o.size,C.o.block⟩⟩
      case measure=>simp[QN];omega
    ·have HR:=fV (D.o (by decide));clear F D;go_big_region
     all_goals
      go_wp2;go_ret;exact⟨by rw[HR.o];rfl,⟨C.o.os,C.o.tape,C.o.output,C.o.size,C.o.block⟩⟩
    ·have HR:=fV (D.o (by decide));clear F D;go_big_region
     all_goals
      go_wp2;go_ret;exact⟨by rw[HR.o];rfl,⟨C.o.os,C.o.tape,C.o.output,C.o.size,C.o.block⟩⟩
    ·have U:=fV (F.o rfl);clear F D;go_big_region
     all_goals
      go_wp2;go_roundw
      case rel=>exact⟨i+1,X,by go_num,U,⟨C.o.os,C.o.tape,C.o.output,C.o.size,C.o.block⟩⟩
      case measure=>simp[QN];omega
   ·have U:=fV (Y.o (λ e=>absurd e I));have dk:((t.x.k:Int)==0)=false:=by rw[aC];omega
    clear I Y aT;generalize t.x.k=kk at*;go_big_region
    all_goals
     go_wp2;go_roundw
     case rel=>exact⟨i+1,X,by go_num,U,⟨C.o.os,C.o.tape,C.o.output,C.o.size,C.o.block⟩⟩
     case measure=>simp[QN];omega
  ·have HR:QO (wQ (jB L) a b=true):=Hp (λ j x Z I=>HA.o j x (by have:=(LD.1 Z).1;rw[lB,bN.o]at this;omega) Z I);have dl:=dF i n (by omega)
   go_wp2;go_ret;exact⟨by rw[HR.o];rfl,HB.o⟩
theorem lZ{w w1 w2:tW}(h:Bl w w1)(k:Bl w1 w2):Bl w w2:=⟨k.os.trans h.os,k.tape.trans h.tape,k.output.trans h.output,LZ h.size k.size,λ j o=>(k.block j (LO o h.size)).trans (h.block j o)⟩
def G6(N:List RN)(lw:List Nat):Prop:=∀(b k:Nat),lw[b]?=some k->k<=b/\lw[k]?=some k/\wQ N k b=true
theorem G6.snoc{N:List RN}(h:G6 N lw){k:Nat}(J:k<=lw.length)(D:k<lw.length->lw[k]?=some k/\wQ N k lw.length=true):G6 N (lw++[k]):=λ b j C=>by
 by_cases Q:b<lw.length
 ·rw[LI Q]at C;obtain⟨F,I,U⟩:=h b j C;exact⟨F,by rw[LI (by omega)];exact I,U⟩
 ·have:=(LD.1 C).1;rw[LH,LK]at this;have e:b=lw.length:=by omega
  subst e;rw[LP lR,NB]at C;have V:=sJ C
  subst V;by_cases o:k<lw.length
  ·obtain⟨F,I⟩:=D o;exact⟨J,by rw[LI o];exact F,I⟩
  ·have e:k=lw.length:=by omega
   subst e;exact⟨lR,by rw[LP lR,NB];rfl,Hp (λ _ _ _ _=>rfl)⟩
theorem Kr{L:List NV}(hL:L.length<=100000){w:tW}(h:FR fb w L gN aJ):
  QW MD 21 #[.pointer (some ⟨fb,0,none⟩)] w λ e w'=>∃(v':tV)(lw:List Nat),e=.returned v'/\Bl w w'/\w'.ownsRow w.heap.size 3 1 v' 256 (kK lw)/\lw.length=256/\G6 (jB L) lw:=by
 have HF:=fV h;clear h;go_enter func21,ntmps21;go_wp2_with fail
 go_loopg [3,4] 256 (λ gj y z wr=>∃(b:Nat)(lw:List Nat),b+gj=256/\z=.int .i64 (b:Int)/\lw.length=b/\wr.ownsRow w.heap.size 3 1 y b (kK lw)/\G6 (jB L) lw/\Bl w wr)
 case atStart=>exact⟨0,[],by omega,rfl,rfl,NG _ _ _ 1,λ b k hk=>by simp at hk,bR⟩
 case round=>
  obtain⟨b,lw,eX,rfl,aW,aR,bC,aT⟩:=hrel;have HB:=fV aT;have F:=fV aR;have bN:=fV bC;have V:=fV aW;have hB:=aT.size;obtain⟨ao,co,eo⟩:=gA aR;subst eo;clear aT aR bC aW;by_cases cP:b<256
  ·obtain⟨d,rfl⟩:∃d,gk=d+1:=⟨gk-1,by omega⟩
   have bT:decide ((b:Int)<(256:Int))=true:=by simp;omega
   go_upto_block 2 with fail
   go_cut [5] from 7 to 32 (λ fv wc=>∃k:Nat,fv=.int .i64 (k:Int)/\k<=b/\QO (k<b->lw[k]?=some k/\wQ (jB L) k b=true)/\Bl wr wc)
   case first=>
    go_wp2_with fail
    go_loopg [5] b (λ gj fv wj=>∃(k:Nat),fv=.int .i64 (k:Int)/\k+gj=b/\Bl wr wj)
    case atStart=>exact⟨0,rfl,by omega,bR⟩
    case round=>
     obtain⟨k,rfl,gL,Q⟩:=hrel;have D:=fV Q;have eT:=Q.size;by_cases Y:k<b
     ·obtain⟨d2,rfl⟩:∃d2,gk=d2+1:=⟨gk-1,by omega⟩
      have eM:=dT k b (by omega)
      obtain⟨x,hx⟩:∃x,lw[k]?=some x:=⟨lw[k]'(by rw[V.o];exact Y),LC _⟩
      obtain⟨g2,J,eg⟩:∃g2 J,MJ ao b co=.slice (some ⟨g2,0,none⟩) b J:=by
       rcases iL F.o with e|⟨g2,J,e⟩
       ·injection e with _ e3 _;omega
       ·exact⟨g2,J,e⟩
      injection eg with ea _ ec;subst ea ec;have cF:=(F.o.lt g2 rfl).2;have y0:wr.cell? ⟨g2,k,none⟩=some (.int .i64 (x:Int)):=by
       have:=F.o.cells (g:=g2) rfl k _ (qH hx);rw[oM,MA]at this;exact(Q.cell (p:=⟨g2,k,none⟩) cF).trans this
      have HX:=fV hx;have hA:=iI k b (by omega)
      clear Q hx;by_cases Z:x=k
      ·have d1:((x:Int)==(k:Int))=true:=by rw[Z];simp
       have eN:=fV Z;clear Z;go_wp2_with fail;refine(Yj (a:=k) (b:=b) (by omega) cP hL ((HF.o.below HB.o lR).below (w':=wr) ⟨D.o.os,D.o.tape,D.o.output,D.o.size,D.o.block⟩ lR)).mono ?_;rintro e w3 ⟨rfl,C⟩;have U:=fV (lZ D.o C);clear C
       cases htw:wQ (jB L) k b with
       | true=>
        have eR:=fV htw;clear htw;go_wp2;go_meet
        case rel=>exact⟨k,rfl,by omega,fV (λ _=>⟨by rw[HX.o,eN.o],eR.o⟩),U.o⟩
       | false=>
        clear htw;go_wp2;go_roundg d2
        case measure=>omega
        case rel=>exact⟨k+1,by go_num,by omega,U.o⟩
      ·have d1:((x:Int)==(k:Int))=false:=by rw[aC];omega
       clear Z;go_wp2;go_roundg d2
       case measure=>omega
       case rel=>exact⟨k+1,by go_num,by omega,D.o⟩
     ·have bM:k=b:=by omega
      have eM:=dF k b (by omega)
      clear bM;go_wp2;go_meet
      case rel=>exact⟨k,rfl,by omega,fV (λ h=>absurd h Y),D.o⟩
   case rest=>
    obtain⟨k,rfl,Y,HK,C⟩:=hcut;have aL:=iH F.o (w':=wc) (λ j hj=>C.block j (F.o.lt j hj).2);have aO:=fV aL;have U:QO (Bl w wc):=⟨C.os.trans HB.o.os,C.tape.trans HB.o.tape,C.output.trans HB.o.output,LZ HB.o.size C.size,λ k hk=>(C.block k (LO hk HB.o.size)).trans (HB.o.block k hk)⟩
    have eS:=U.o.size;have eL:QO (G6 (jB L) (lw++[k])):=bN.o.snoc (by rw[V.o];exact Y) (λ h=>by rw[V.o]at h ⊢;exact HK.o h);clear aL C F HB HK;go_wp2_with (first|(at_builtin;refine gB wc rfl (.tmp 29) (.tmp 31) 59 rfl w.heap.size 3 (.int .i64 0) 1 8 MO bX rfl (by decide) (by decide) (.slice ao b co) b (kK lw) [.int .i64 (k:Int)] _ rfl aO.o _ rfl rfl rfl (by simp[LR]) (by omega) (by omega) ?_;intro g4 cap4 w4 X I bS bK;have cN:=fV X;have eO:QO (Bl w w4):=lU U.o aO.o I;clear X I bS bK));go_roundg d
    case measure=>omega
    case rel=>exact⟨b+1,lw++[k],by omega,by go_num,by rw[LH,V.o];rfl,by unfold kK at*;rw[ND];exact cN.o,eL.o,eO.o⟩
  ·have eb:b=256:=by omega
   have bT:decide ((b:Int)<(256:Int))=false:=by simp;omega
   have bO:=fV eb;clear eb;go_wp2;go_ret;exact⟨_,lw,rfl,HB.o,by rw[<-bO.o];exact F.o,by rw[V.o];exact bO.o,bN.o⟩
def At(w:tW)(P:Nat->Prop)(c:List tV)(l:List jL):Prop:=∃u,c=[u]/\Aw w P u l
theorem At.keeps:Ah At:=λ _ _ _ _ _ _ ⟨u,h1,h2⟩ hz hB=>⟨u,h1,h2.keep hz hB⟩
def zC(_:tW)(_:Nat->Prop)(c:List tV)(x:Int):Prop:=c=[.int .i64 x]
theorem zC.keeps:Ah zC:=λ _ _ _ _ _ _ h _ _=>h
def wX(w:tW)(P:Nat->Prop)(c:List tV)(f:Nat->Int):Prop:=∃g,c=[.slice (some ⟨g,0,none⟩) 256 256]/\P g/\g<w.heap.size/\∀b,b<256->w.cell? ⟨g,b,none⟩=some (.int .i64 (f b))
theorem wX.keeps:Ah wX:=λ w w' P P' c f ⟨g,h1,h2,h3,h4⟩ hz hB=>by
 obtain⟨C,D⟩:=hB g h2 h3;exact⟨g,h1,D,by omega,λ b o=>(LF (w:=w) (a:=⟨g,b,none⟩) C).trans (h4 b o)⟩
def KY(Ls:List (List jL))(l:List jL)(v:Int):Prop:=
 (v= -1/\∀(i:Nat)(o:List jL),0<i->Ls[i]?=some o->pP o l=false)\/∃(i:Nat)(o:List jL),v=(i:Int)/\0<i/\Ls[i]?=some o/\pP o l=true
theorem ES{w:tW}{P Q:Nat->Prop}{vL u:tV}{Ls:List (List jL)}{cs:List (List tV)}{l:List jL}(hg:gb<w.heap.size)(aO:w.cell? ⟨gb,0,none⟩=some vL)(hr:sV At 145 1 w B P vL Ls cs)(hu:Aw w Q u l)
  (hn:Ls.length<=1000000) (h0:0<Ls.length) (hb:∀C,C∈Ls->C.length<=1000000/\∀x,x∈C->x.2.length<=1000000) (hl:l.length<=1000000) (V:∀x,x∈l->x.2.length<=1000000):
  QW MD 77 #[.pointer (some ⟨gb,0,none⟩),u] w λ e w'=>∃v:Int,e=.returned (.int .i64 v)/\Bl w w'/\KY Ls l v:=by
 have HU:=fV hu;obtain⟨ua,uc,rfl,_⟩:=hu;obtain⟨J,cL,eL⟩:∃J cL,vL=.slice (some ⟨J,0,none⟩) Ls.length cL:=by
  obtain⟨g,aJ,_,e,_⟩:=hr.at (LC h0);exact⟨g,aJ,e⟩
 subst eL;obtain⟨n,en⟩:=xE (Ls.length)
 obtain⟨m,em⟩:=xE (l.length)
 rw[em]at HU hl ⊢;have bS:=fV em;have HR:=fV hr;rw[en]at hn h0 aO HR;have aL:=fV en;have aT:=fV hb;have bK:=fV V;clear en em hr hb V;go_enter func77,ntmps77;go_wp2_with fail
 go_loopw [5] (λ z wr=>∃(i:Nat),0<i/\i<=n/\z=.int .i64 (i:Int)/\QO (∀(j:Nat)(C:List jL),0<j->j<i->Ls[j]?=some C->pP C l=false)/\Bl w wr) (λ z _=>n-(QN z).toNat)
 case atStart=>exact⟨1,by omega,by omega,rfl,fV (λ j C h1 h2=>by omega),bR⟩
 case round=>
  obtain⟨i,bO,hi,rfl,HA,D⟩:=hrel;have HB:=fV D;have eN:=D.size;have c0:=(D.cell (p:=⟨gb,0,none⟩) hg).trans aO;by_cases bM:i<n
  ·obtain⟨C,I⟩:∃C,Ls[i]?=some C:=⟨Ls[i]'(by rw[aL.o];exact bM),LC _⟩
   obtain⟨g2,cP,c,e2,_,aW,⟨q,cN,hq⟩,_,F⟩:=HR.o.at I;injection e2 with e3 _ _;have e4:J=g2:=by injection e3 with e3;injection e3
   subst e4;have y0:wr.cell? ⟨J,i,none⟩=some q:=(D.cell (p:=⟨J,i,none⟩) aW).trans (by have:=F 0 q (by rw[cN];rfl);rw[NR,MQ]at this;exact this);have HQ:=fV (hq.below D);obtain⟨qa,qc,rfl,_⟩:=hq;obtain⟨b1,b2⟩:=aT.o C (LJ I);have bC:=fV b1;have aR:=fV b2;have eM:=iI i n (by omega)
   have X:=fV I;have cF:QO (Aw wr Q (.slice ua m uc) l):=HU.o.below D;clear D F I b1 b2 e3;go_wp2_with fail;refine(Oe (HQ.o.below (w':=wr) ⟨rfl,rfl,rfl,lR,λ _ _=>rfl⟩) (cF.o.below (w':=wr) ⟨rfl,rfl,rfl,lR,λ _ _=>rfl⟩) bC.o (by rw[bS.o];exact hl) aR.o bK.o).mono ?_;rintro e w3 ⟨rfl,Z⟩;have U:=fV (lZ HB.o Z);clear Z
   cases heq:pP C l with
   | true=>
    have bN:=fV heq;clear heq;go_wp2;go_ret;exact⟨(i:Int),rfl,U.o,.inr ⟨i,C,rfl,bO,X.o,bN.o⟩⟩
   | false=>
    have bT:QO (∀(j:Nat)(C:List jL),0<j->j<i+1->Ls[j]?=some C->pP C l=false):=λ j k h1 h2 Y=>by
     by_cases e:j=i
     ·subst e;rw[X.o]at Y;injection Y with Y;rw[<-Y];exact heq
     ·exact HA.o j k h1 (by omega) Y
    clear heq;go_wp2;go_roundw
    case rel=>exact⟨i+1,by omega,by omega,by go_num,bT,U.o⟩
    case measure=>simp[QN];omega
  ·have dl:=dF i n (by omega)
   go_wp2;go_ret;exact⟨-1,rfl,HB.o,.inl ⟨rfl,λ j k h1 h2=>HA.o j k h1 (by have:=(LD.1 h2).1;rw[aL.o]at this;omega) h2⟩⟩
theorem dL:(Tryz.prog.info? 188).map (λ i=>(i.zero,i.size,i.bytes))=some (some (.agg #[.int .i64 0,.slice none 0 0]),2,32):=by kernel_rfl
theorem mO.bndU{N:List RN}(h:mO N aQ ks){p:jL}(C:UB N aQ p):∀m,m∈p.2->∀k,K3 N m k->∀c,(bD N c k).length<=10:=λ m o k J c=>by
 obtain⟨n,I,Q⟩:=C;obtain⟨j,_,F,D,V⟩:=h.top I;have U:K3 N n m:=by
  rcases Q with e|e
  ·rw[e]at o;rw[ML.1 o];exact .refl
  ·exact p7 h.cl n F p.2 e m o
 have:=D.2 k (U.trans J) c;omega
theorem Nr{B:Nat->List (List Nat)}{N:List RN}:∀(l:List Nat),(∀m,m∈l->(B m).length<=10)->(nU B N l).length<=10*l.length
 | [],_=>by simp[nU]
 | m::l,h=>by
  unfold nU;rw[LH,MT,MN];have:=h m MU;have:=Nr (N:=N) l (λ x o=>h x (MW _ o));split
  ·omega
  ·simp only[NY];omega
theorem Uu{L:List NV}(o:mO (jB L) aQ ks)(c:Nat)(X:c<256){p:jL}(I:UB (jB L) aQ p){w:tW}(h:FR fb w L gN aJ){v:tV}(V:IL w v p.2):
  QW MD 83 #[.pointer (some ⟨fb,0,none⟩),v,.int .i64 (c:Int)] w λ e w'=>∃J,e=.returned J/\Bl w w'/\Zb w' w.heap.size J (yJ (jB L) c p.2):=by
 have Q:L.length<=3000:=by rw[<-lB];exact o.n3
 obtain⟨D,Z,_⟩:=o.bnd I;have F:∀m,m∈p.2->m<L.length:=λ m C=>by rw[<-lB];exact(D m C).1
 refine Nl o.sh o.cl (by omega) c (λ m C=>Mj o.sh o.cl Q c X m (F m C) (λ k U=>o.bndU I m C k U c)) (λ m C=>⟨F m C,(D m C).2 c,λ y Y=>?_⟩) (by omega) h V;have:=(Pc o.cl o.sh m (D m C).1 y (Cq o.cl m (D m C).1 y Y)).2;have:=o.n3;have:=(D m C).1;omega
theorem mO.row_bnd{N:List RN}(h:mO N aQ ks){p:jL}(o:UB N aQ p)(c:Nat):(yJ N c p.2).length<=7000000/\∀y,y∈yJ N c p.2->UL N aQ (p.1,y)/\y.length<=1000000:=by
 obtain⟨F,J,_⟩:=h.bnd o;refine⟨?_,λ y I=>?_⟩
 ·have:=Nr (B:=bD N c) (N:=N) p.2 (λ m D=>(F m D).2 c);show(nU (bD N c) N p.2).length<=_;omega
 ·have C:=h.step_in o I;have:y.length<=700000:=(h.bnd C.ub).2.1;exact⟨C,by omega⟩
theorem mO.mid{N:List RN}(h:mO N aQ ks){ls:List jL}(Q:∀p,p∈ls->UB N aQ p){c i k:Nat}{p:jL}(F:UB N aQ p):(yF p.1 (wU N c [] (ls.take i)) ((yJ N c p.2).take k)).length<=10/\∀x,x∈yF p.1 (wU N c [] (ls.take i)) ((yJ N c p.2).take k)->x.2.length<=1000000:=by
 have C:∀x,x∈yF p.1 (wU N c [] (ls.take i)) ((yJ N c p.2).take k)->UL N aQ x:=λ x o=>by
  rcases Ea.1 o with e|⟨m,U,e⟩
  ·rcases T0.1 e with e|⟨q,I,D,J⟩
   ·exact absurd e NC
   ·have:=h.step_in (Q q (NH I)) J;rw[D]at this;exact this
  ·rw[e];exact((h.row_bnd F c).2 m (NH U)).1
 exact⟨h.few (Jm (Dc List.nodup_nil)) C,λ x o=>by have:=(h.bnd (C x o).ub).2.1;omega⟩
theorem GR.up{α:Type}{E:tW->(Nat->Prop)->List tV->α->Prop}{w w1 wr:tW}{v1 v:tV}{xs:List α}{cs:List (List tV)}(h:GR E T z w w1 v1 wr v xs cs):GR E T z w w (.slice none 0 0) wr v xs cs:=
 ⟨h.ro,⟨h.bl.os,h.bl.tape,h.bl.output,h.bl.size,λ k o _=>h.bl.block k o⟩,λ g e=> .inr (h.ro.1.lt g e).1,h.bl⟩
theorem GR.lf{w w1 wr:tW}{v1 v:tV}{ls:List jL}{cs:List (List tV)}(h:GR wE 188 2 w w1 v1 wr v ls cs):Aw wr (λ g=>w.heap.size<=g) v ls:=h.ro.lf (λ _ o _=>o.1) (λ _ C _=>C)
theorem DK{out:List jL}{x:jL}(h:nH out x=true):Cw out x=out:=aB h
theorem AU{out:List jL}{x:jL}(h:nH out x=false):Cw out x=out++[x]:=aA (by rw[h];decide)
theorem Vz{out:List jL}(h:ys[k]?=some y):yF r out (ys.take (k+1))=Cw (yF r out (ys.take k)) (r,y):=by
 rw[MY,h];exact Xt r out (ys.take k) y
theorem Ps{N:List RN}{c:Nat}{ls:List jL}{p:jL}(h:ls[i]?=some p):wU N c [] (ls.take (i+1))=yF p.1 (wU N c [] (ls.take i)) (yJ N c p.2):=by
 rw[MY,h];exact Qi N c [] (ls.take i) p
theorem Vp{L:List NV}(hf:mO (jB L) aQ ks)(c:Nat)(hc:c<256){w:tW}(h:FR fb w L gN aJ){P:Nat->Prop}{v:tV}{ls:List jL}(hv:Aw w P v ls)(hl:ls.length<=1000000)(hu:∀p,p∈ls->UB (jB L) aQ p):
  QW MD 56 #[.pointer (some ⟨fb,0,none⟩),v,.int .i64 (c:Int)] w λ e w'=>∃v',e=.returned v'/\Bl w w'/\Aw w' (λ g=>w.heap.size<=g) v' (lG (jB L) c ls):=by
 obtain⟨a,ca,rfl,hv⟩:=hv;obtain⟨n,en⟩:=xE (ls.length)
 rw[en]at hl ⊢;have hF:=fV en;have HV:=fV hv;have HF:=fV h;have HU:=fV hu;have hP:=fV (λ(p:jL) J (W:tW) hW (u:tV) (hu:IL W u p.2)=>Uu (fb:=fb) (gN:=gN) (aJ:=aJ) hf c hc (p:=p) J (w:=W) hW (v:=u) hu);have aT:=fV (λ(i k:Nat)(p:jL) J=>hf.mid (c:=c) hu (i:=i) (k:=k) (p:=p) J);have eX:=fV (λ(p:jL) J=>hf.row_bnd (p:=p) J c);clear en hv hu h hf;go_enter func56,ntmps56;go_wp2_with fail
 go_loopw [7,8] (λ y z wr=>∃(i:Nat)(cs:List (List tV)),i<=n/\z=.int .i64 (i:Int)/\GR wE 188 2 w w (.slice none 0 0) wr y (wU (jB L) c [] (ls.take i)) cs) (λ _ z _=>n-(QN z).toNat)
 case atStart=>exact⟨0,[],by omega,rfl,GR.start _ _ _ w⟩
 case round=>
  obtain⟨i,cs,hi,rfl,F⟩:=hrel;have HG:=fV F;have qR:=F.bl.size;by_cases nL:i<n
  ·obtain⟨p,J⟩:∃p,ls[i]?=some p:=⟨ls[i]'(by rw[hF.o];exact nL),LC _⟩
   obtain⟨g,rfl,_,hg,eO⟩:=HV.o.resolve_left (λ e=>by rw[e]at J;simp at J);obtain⟨q,hq,eR⟩:=eO i p J;have rL:w.cell? ⟨g,i*2,none⟩=some (.int .i64 (p.1:Int)):=by have:=hq 0 _ rfl;exact this
   have y2:wr.cell? ⟨g,i*2+1,none⟩=some q:=(F.bl.cell (p:=⟨g,i*2+1,none⟩) hg).trans (by have:=hq 1 _ rfl;exact this);have hJ:QO (IL wr q p.2):=eR.il.below (B:=w.heap.size) ⟨F.bl.os,F.bl.tape,F.bl.output,F.bl.size,F.bl.block⟩ lR;obtain⟨qa,qc,rfl,_,_⟩:=eR;have cF:=HU.o p (LJ J);have hN:=fV cF;obtain⟨rT,eL⟩:=eX.o p cF;have hT:=fV eL;have A2:=iI i n (by omega)
   have hY:=fV (Ps (N:=jB L) (c:=c) J);clear hq eO J cF eL F;go_upto_region 6 with fail;refine(hP.o p hN.o _ (HF.o.below (B:=w.heap.size) ⟨HG.o.bl.os,HG.o.bl.tape,HG.o.bl.output,HG.o.bl.size,HG.o.bl.block⟩ lR) _ (hJ.o.below ⟨rfl,rfl,rfl,lR,λ _ _=>rfl⟩ lR)).mono ?_;rintro e w1 ⟨vm,rfl,I,hS⟩;have Q:Bl wr w1:=⟨I.os,I.tape,I.output,I.size,I.block⟩
   have tL:=fV (HG.o.below wE.keeps Q);obtain⟨am,cm,rfl,hB⟩:=hS;have lH:=fV hB;have A0:=Q.size;have hH:QO (∀k,wr.heap.size<=k->u7.ownBlock≠some k):=λ k hk e=>by
    have:=(HG.o.ro.1.lt k e).2;omega
   have qL:=fV (λ k=>aT.o i k p hN.o);clear hB I Q HG y2 hJ hP aT eX;have A1:w.heap.size<=wr.heap.size:=qR;generalize wr.heap.size=sW at*;generalize yJ (jB L) c p.2=ys at*;generalize wU (jB L) c [] (ls.take i)=out0 at*;obtain⟨M,eM⟩:=xE (ys.length)
   rw[eM]at rT ⊢;have hQ:=fV eM;clear eM;go_wp2_with fail
   go_loopw [7,10] (λ y2 z2 nN=>∃(k:Nat)(cs:List (List tV)),k<=M/\z2=.int .i64 (k:Int)/\GR wE 188 2 w w1 u7 nN y2 (yF p.1 out0 (ys.take k)) cs) (λ _ z2 _=>M-(QN z2).toNat)
   case atStart=>exact⟨0,cs,by omega,rfl,tL.o.from⟩
   case round=>
    obtain⟨k,cN,hk,rfl,bK⟩:=hrel;have D:=fV bK;clear bK;by_cases hX:k<M
    ·obtain⟨y,hy⟩:∃y,ys[k]?=some y:=⟨ys[k]'(by rw[hQ.o];exact hX),LC _⟩
     obtain⟨gm,rfl,eS,aW,hA⟩:=lH.o.resolve_left (λ e=>by rw[e]at hy;simp at hy);obtain⟨u,hu,hK⟩:=hA k y hy;have bN:∀j,sW<=j->j<w1.heap.size->wr.heap[j]?=w1.heap[j]? :=λ j h1 h2=>D.o.gr.block j h2 (λ e=>hH.o j h1 e.symm)
     have y1:wr.cell? ⟨gm,k,none⟩=some u:=(LF (w:=w1) (a:=⟨gm,k,none⟩) (bN gm eS aW)).trans hu;have y0:wr.cell? ⟨g,i*2,none⟩=some (.int .i64 (p.1:Int)):=(D.o.bl.cell (p:=⟨g,i*2,none⟩) hg).trans rL;have hC:∀g,u7.ownBlock=some g->¬(sW<=g/\g<w1.heap.size):=λ g e h2=>by
      rcases D.o.ow g e with e1|e1
      ·exact hH.o g h2.1 e1
      ·omega
     have hE:QO (ED wr (λ g=>w.heap.size<=g/\u7.ownBlock≠some g) u y):=by
      obtain⟨a,q,e,h1,h2⟩:=hK;refine⟨a,q,e,h1,?_⟩;rcases h2 with h2|⟨g2,o2,k1,k2,k3,_,k4⟩
      ·exact .inl h2
      ·exact .inr ⟨g2,o2,k1,⟨by omega,λ e=>hC g2 e ⟨k2,k3⟩⟩,LO k3 D.o.gr.size,λ i m hm=>(LF (w:=w1) (a:=⟨g2,o2+i,none⟩) (bN g2 k2 k3)).trans (k4 i m hm)⟩
     obtain⟨ua,uc,rfl,_,_⟩:=hK;have rO:=fV (hT.o y (LJ hy)).2;have aL:=fV (Vz (r:=p.1) (out:=out0) hy);have A3:=iI k M (by omega)
     have hD:=fV (qL.o k);have tO:gm<wr.heap.size:=LO aW D.o.gr.size;have tT:g<wr.heap.size:=LO hg D.o.bl.size;clear bN hu hy hA hC;go_upto_region 9 with fail
     go_cut [11] from 27 to 51 (λ x wx=>x=.pointer (some ⟨wr.heap.size,0,none⟩)/\Bl wr wx/\wr.heap.size<wx.heap.size/\wx.cell? ⟨wr.heap.size,0,none⟩=some (.int .i64 (p.1:Int))/\wx.cell? ⟨wr.heap.size,1,none⟩=some (.slice ua y.length uc))
     case first=>
      go_region
      all_goals
       go_wp2_with fail;go_meet
       case rel=>
        have hb:Bl wr (wr.alloc (.cells #[.int .i64 (p.1:Int),.slice ua y.length uc] 188)):=bR.alloc lR _;exact⟨rfl,⟨hb.os,hb.tape,hb.output,hb.size,hb.block⟩,by show wr.heap.size<(wr.alloc _).heap.size;simp,(MG _ _ _ 0 rfl).trans rfl,(MG _ _ _ 1 rfl).trans rfl⟩
     case rest=>
      obtain⟨rfl,aR,cP,c0,c1⟩:=hcut;have U:=fV (D.o.below wE.keeps aR);have X:QO (ED wc (λ g=>w.heap.size<=g/\u7.ownBlock≠some g) (.slice ua y.length uc) y):=hE.o.keep aR.size (λ j J hj=>⟨aR.block j hj,J⟩);obtain⟨ao,co,eo⟩:=gA U.o.ro.1;subst eo;obtain⟨hL,gL⟩:=hD.o;have hV:=fV gL;clear D aR hE y0 y1 gL hD;generalize yF p.1 out0 (ys.take k)=xk at*;obtain⟨nk,ek⟩:=xE (xk.length)
      rw[ek]at hL X U ⊢;have bS:=fV ek;clear ek;generalize wr.heap.size=sR at*;go_wp2_with fail;refine(Ds (r:=p.1) (U.o.lf.below (w':=wc) ⟨rfl,rfl,rfl,lR,λ _ _=>rfl⟩) (X.o.il.below (w':=wc) ⟨rfl,rfl,rfl,lR,λ _ _=>rfl⟩ lR) (by rw[bS.o];omega) hV.o rO.o).mono ?_;rintro e w5 ⟨rfl,Y⟩;have C:Bl wc w5:=⟨Y.os,Y.tape,Y.output,Y.size,Y.block⟩
      have aO:=fV (U.o.below wE.keeps C);have hM:=fV (X.o.keep (P':=λ g=>w.heap.size<=g/\(MJ ao nk co).ownBlock≠some g) C.size (λ j J hj=>⟨C.block j hj,J⟩));have z0:=(C.cell (p:=⟨sR,0,none⟩) cP).trans c0;have z1:=(C.cell (p:=⟨sR,1,none⟩) cP).trans c1;have B2:=C.size;clear U X c0 c1 Y C
      cases hh:nH xk (p.1,y)with
      | true=>
       have bM:QO (yF p.1 out0 (ys.take (k+1))=xk):=by unfold QO;rw[aL.o,DK hh]
       clear hh z0 z1;go_wp2;go_roundw
       case rel=>exact⟨k+1,cN,by omega,by go_num,by rw[bM.o];exact aO.o⟩
       case measure=>simp[QN];omega
      | false=>
       have bM:QO (yF p.1 out0 (ys.take (k+1))=xk++[(p.1,y)]):=by unfold QO;rw[aL.o,AU hh]
       have hU:QO (wE w5 (λ g=>w.heap.size<=g/\(MJ ao nk co).ownBlock≠some g) [.int .i64 (p.1:Int),.slice ua y.length uc] (p.1,y)):=⟨_,rfl,hM.o⟩
       have eT:=fV aO.o.ro.1;rw[bS.o]at eT;have B1:=aO.o.bl.size;clear hh aL;go_wp2_with (first|(at_builtin;refine gB w5 rfl (.tmp 48) (.tmp 50) 145 rfl w.heap.size 188 (.agg #[.int .i64 0,.slice none 0 0]) 2 32 underlying145 dL rfl (by decide) (by decide) (.slice ao nk co) nk cN.flatten [.int .i64 (p.1:Int),.slice ua y.length uc] _ rfl eT.o _ rfl rfl rfl (by simp[LR]) (by omega) (by omega) ?_;intro g4 cap4 w4 Z V bC hG;have iN:=fV (aO.o.app wE.keeps bS.o hU.o rfl Z V bC);clear Z V bC hG));go_roundw
       case rel=>exact⟨k+1,_,by omega,by go_num,by rw[bM.o];exact iN.o⟩
       case measure=>simp[QN];omega
    ·have eN:k=M:=by omega
     have dl:=dF k M (by omega)
     have bO:=D.o;rw[eN,<-hQ.o,MM,<-hY.o]at bO;have U:=fV bO.up;clear bO eN D;go_wp2;go_roundw
     case rel=>exact⟨i+1,cN,by omega,by go_num,U.o⟩
     case measure=>simp[QN];omega
  ·have hR:i=n:=by omega
   have bT:=HG.o;rw[hR,<-hF.o,MM]at bT;have hI:=fV bT;have dl:=dF i n (by omega)
   clear hR bT HG F;go_wp2;go_ret;exact⟨_,rfl,hI.o.bl,hI.o.lf⟩
structure II(fb:Nat)(w:tW)(R:List RV)(gR cR:Nat):Prop where
 c1:w.cell? ⟨fb,1,none⟩=some (.slice (some ⟨gR,0,none⟩) R.length cR)
 rl:∀(j:Nat)(x:RV),R[j]?=some x->w.rangeAt gR (j*3) x.cells/\x.g<w.heap.size/\∀i,i<4->w.cell? ⟨x.g,i,none⟩=some (.bool (x.f i))
 b0:fb<w.heap.size
 b1:gR<w.heap.size
theorem II.below{w w':tW}{R:List RV}(h:II fb w R gR cR)(o:Below B w w')(Q:w.heap.size<=B):II fb w' R gR cR:=by
 have F:=o.size;have J:=h.b0;have I:=h.b1;exact⟨(o.cell (p:=⟨fb,1,none⟩) (by show fb<B;omega)).trans h.c1,λ j x C=>by
  obtain⟨a,b,c⟩:=h.rl j x C;exact⟨λ i v D=>(o.cell (p:=⟨gR,j*3+i,none⟩) (by show gR<B;omega)).trans (a i v D),by omega,λ i hi=>(o.cell (p:=⟨x.g,i,none⟩) (by show x.g<B;omega)).trans (c i hi)⟩,by omega,by omega⟩
theorem Sx:∀(R:List RV)(j:Nat)(x:RV)(i:Nat)(v:tV),R[j]?=some x->x.cells[i]?=some v->(CP R)[j*3+i]?=some v
 | [],j,x,i,v,h,_=>by simp at h
 | y::R,0,x,i,v,h,hv=>by
  have e:=sJ h
  subst e;have hi:i<y.cells.length:=(LD.1 hv).1;show(y.cells++CP R)[0*3+i]?=some v;rw[Nat.zero_mul,MA,LI hi];exact hv
 | y::R,j+1,x,i,v,h,hv=>by
  have:=Sx R j x i v (by simpa using h) hv;show(y.cells++CP R)[(j+1)*3+i]?=some v;have o:y.cells.length=3:=rfl;rw[LP (by omega),o,show(j+1)*3+i-3=j*3+i by omega];exact this
theorem FN.aX{w:tW}{O:Nat->Nat}{L:List NV}{vN vR:tV}{R:List RV}{pl cn:Nat}{N:List RN}{ls:List mU}(h:FN fb w O L vN vR (CP R) R.length pl cn)(F:Um w O N R ls)(V:0<R.length):∃gR cR,II fb w R gR cR:=by
 have o:=h.rr;rcases iL o with e|⟨g,aJ,e⟩
 ·exfalso;obtain⟨a,c,D⟩:=gA o;rw[e]at D;injection D with _ X _;omega
 ·refine⟨g,aJ,by rw[<-e];exact h.c1,λ j x C=>?_,h.wt.2,(o.lt g (by rw[e];rfl)).2⟩;have I:j<ls.length:=by rw[<-F.1];exact(LD.1 C).1
  obtain⟨⟨_,J,Q⟩,_⟩:=F.2 j x _ C (LC I);refine⟨λ i v U=>?_,J,Q⟩;have:=o.cells (g:=g) (by rw[e];rfl) (j*3+i) v (Sx R j x i v C U);rw[oM,MA]at this;exact this
def rH(bE:Nat):Nat->List RV->List jL
 | _,[]=>[]
 | r,x::R=>(if x.f bE=true then [(r,[x.n])]else [])++rH bE (r+1) R
theorem Gd(bE:Nat)(x:RV):∀(R:List RV)(r:Nat),rH bE r (R++[x])=rH bE r R++(if x.f bE=true then [(r+R.length,[x.n])]else [])
 | [],r=>by simp[rH]
 | y::R,r=>by
  show(if y.f bE=true then [(r,[y.n])]else [])++rH bE (r+1) (R++[x])=((if y.f bE=true then [(r,[y.n])]else [])++rH bE (r+1) R)++_;rw[Gd bE x R (r+1),MI,MN,show r+1+R.length=r+(R.length+1) by omega]
theorem Xh{R:List RV}{x:RV}(h:R[i]?=some x):rH bE 0 (R.take (i+1))=rH bE 0 (R.take i)++(if x.f bE=true then [(i,[x.n])]else []):=by
 have o:=(LD.1 h).1;rw[MY,h];have:=Gd bE x (R.take i) 0;rw[NE,OH (by omega),MA]at this;exact this
theorem Dp(bE:Nat):∀(R:List RV)(r:Nat),(rH bE r R).length<=R.length
 | [],r=>by simp[rH]
 | x::R,r=>by
  have:=Dp bE R (r+1);unfold rH;rw[LH,MN];split
  ·rw[LK];omega
  ·simp only[NY];omega
theorem Q3{p:jL}:∀{R:List RV}{r:Nat},p∈rH bE r R↔∃(j:Nat)(x:RV),R[j]?=some x/\x.f bE=true/\p=(r+j,[x.n])
 | [],r=>by
  constructor
  ·intro h;exact absurd h NC
  ·rintro⟨j,x,h,_⟩;simp at h
 | y::R,r=>by
  unfold rH;rw[OI,Q3];constructor
  ·rintro(h|⟨j,x,o,C,D⟩)
   ·split at h
    ·rename_i F;exact⟨0,y,rfl,F,by rw[ML.1 h];rfl⟩
    ·exact absurd h NC
   ·exact⟨j+1,x,by simpa using o,C,by rw[D,show r+1+j=r+(j+1) by omega]⟩
  ·rintro⟨j,x,o,C,D⟩
   cases j with
   | zero=>
    have e:=sJ o
    subst e;left;rw[aB C,D];exact ML.2 rfl
   | succ j=>exact .inr ⟨j,x,by simpa using o,C,by rw[D,show r+1+j=r+(j+1) by omega]⟩
theorem Qo{R:List RV}(hc:bE<4)(hR:R.length<=1000){w:tW}(h:II fb w R gR cR):
  QW MD 55 #[.pointer (some ⟨fb,0,none⟩),.int .i64 (bE:Int)] w λ e w'=>∃v',e=.returned v'/\Bl w w'/\Aw w' (λ g=>w.heap.size<=g) v' (rH bE 0 R):=by
 obtain⟨n,en⟩:=xE (R.length)
 have k1:=h.c1;rw[en]at hR k1;have bC:=fV en;have HF:=fV h;have cF:=h.b0;have eL:(0:Int)<=(bE:Int)/\(bE:Int)<(4:Int):=by omega
 clear en h;go_enter func55,ntmps55;go_wp2_with fail
 go_loopw [5,6] (λ y z wr=>∃(i:Nat)(cs:List (List tV)),i<=n/\z=.int .i64 (i:Int)/\GR wE 188 2 w w (.slice none 0 0) wr y (rH bE 0 (R.take i)) cs) (λ _ z _=>n-(QN z).toNat)
 case atStart=>exact⟨0,[],by omega,rfl,GR.start _ _ _ w⟩
 case round=>
  obtain⟨i,cs,hi,rfl,F⟩:=hrel;have Q:=fV F;have cN:=F.bl.size;have c1:wr.cell? ⟨fb,1,none⟩=some (.slice (some ⟨gR,0,none⟩) n cR):=(F.bl.cell (p:=⟨fb,1,none⟩) cF).trans k1;have bS:=fV (HF.o.below F.bl lR);by_cases cP:i<n
  ·obtain⟨x,hx⟩:∃x,R[i]?=some x:=⟨R[i]'(by rw[bC.o];exact cP),LC _⟩
   obtain⟨hq,eN,aL⟩:=bS.o.rl i x hx;have y0:wr.cell? ⟨gR,i*3,none⟩=some (.slice (some ⟨x.g,0,none⟩) 4 4):=by have:=hq 0 _ rfl;exact this
   have y2:wr.cell? ⟨gR,i*3+2,none⟩=some (.int .i64 (x.n:Int)):=by have:=hq 2 _ rfl;exact this
   have y4:=aL bE hc;have eM:=iI i n (by omega)
   have D:=fV (Xh (bE:=bE) hx);have X:=fV (Dp bE (R.take i) 0);clear hq aL hx F
   cases hf:x.f bE with
   | false=>
    rw[hf]at y4 D;have U:QO (rH bE 0 (R.take (i+1))=rH bE 0 (R.take i)):=by unfold QO;rw[D.o,aA (by decide),MS]
    clear hf D;go_wp2;go_roundw
    case rel=>exact⟨i+1,cs,by omega,by go_num,by rw[U.o];exact Q.o⟩
    case measure=>simp[QN];omega
   | true=>
    rw[hf]at y4 D;have U:QO (rH bE 0 (R.take (i+1))=rH bE 0 (R.take i)++[(i,[x.n])]):=by unfold QO;rw[D.o,aB rfl]
    have bN:(rH bE 0 (R.take i)).length<=1000:=by have:=X.o;rw[NE]at this;omega
    clear hf D X;obtain⟨ao,co,eo⟩:=gA Q.o.ro.1;subst eo;have Z:Bl wr (wr.alloc (.cells #[.int .i64 (x.n:Int)] 3)):=bR.alloc lR _;have aT:(wr.alloc (.cells #[.int .i64 (x.n:Int)] 3)).heap.size=wr.heap.size+1:=by simp
    generalize rH bE 0 (R.take i)=xk at*;obtain⟨nk,ek⟩:=xE (xk.length)
    rw[ek]at bN Q ⊢;have bM:=fV ek;clear ek;have aO:=fV (Q.o.below wE.keeps Z);have aR:=fV aO.o.ro.1;rw[bM.o]at aR;have bT:QO (wE (wr.alloc (.cells #[.int .i64 (x.n:Int)] 3)) (λ g=>w.heap.size<=g/\(MJ ao nk co).ownBlock≠some g) [.int .i64 (i:Int),.slice (some ⟨wr.heap.size,0,none⟩) 1 1] (i,[x.n])):=⟨_,rfl,_,_,rfl,by simp,.inr ⟨wr.heap.size,0,rfl,⟨cN,λ e=>by have:=(Q.o.ro.1.lt _ e).2;omega⟩,by omega,λ j m hm=>by
     cases j with
     | zero=>
      have e:x.n=m:=by simpa using hm
      subst e;rw[NZ]
      rfl
     | succ j=>simp at hm⟩⟩
    have HZ:=fV aT;clear Z aT Q;go_wp2_with (first|(at_builtin;refine gB (wr.alloc (.cells #[.int .i64 (x.n:Int)] 3)) rfl (.tmp 27) (.tmp 39) 145 rfl w.heap.size 188 (.agg #[.int .i64 0,.slice none 0 0]) 2 32 underlying145 dL rfl (by decide) (by decide) (.slice ao nk co) nk cs.flatten [.int .i64 (i:Int),.slice (some ⟨wr.heap.size,0,none⟩) 1 1] _ rfl aR.o (wr.heap.size+1) HZ.o rfl rfl (by simp[LR]) (by omega) (by have:=HZ.o;omega) ?_;intro g4 cap4 w4 I C J bK;have bO:=fV (aO.o.app wE.keeps bM.o bT.o rfl I C J).up;clear I C J bK));go_roundw
    case rel=>exact⟨i+1,_,by omega,by go_num,by rw[U.o];exact bO.o⟩
    case measure=>simp[QN];omega
  ·have aW:i=n:=by omega
   have V:=Q.o;rw[aW,<-bC.o,MM]at V;have Y:=fV V;have dl:=dF i n (by omega)
   clear aW V Q F;go_wp2;go_ret;exact⟨_,rfl,Y.o.bl,Y.o.lf⟩
theorem Qx{N:List RN}{l:List jL}{p:jL}(h:l[i]?=some p):pT N (l.take (i+1))=Fl N (pT N (l.take i)) p:=by
 rw[MY,h];exact Ge N (l.take i) p
theorem Yk{N:List RN}{l:List jL}{R:Nat}(h:∀x,x∈l->x.1<R): -1<=pT N l/\pT N l<R:=by
 rcases BB N l with⟨o,_⟩|⟨r,o,⟨p,C,D,_⟩,_⟩
 ·omega
 ·have:=h p C;omega
theorem Kj{L:List NV}(hs:rA (jB L))(hc:gI (jB L))(hL:L.length<=100000){w:tW}{P:Nat->Prop}{v:tV}{ls:List jL}(h:FR fb w L gN aJ)(hv:Aw w P v ls)(hl:ls.length<=1000000)(hb:∀x,x∈ls->x.1<1000/\x.2.length<=1000000/\∀m,m∈x.2->m<L.length):
  QW MD 57 #[.pointer (some ⟨fb,0,none⟩),v] w λ e w'=>e=.returned (.int .i64 (pT (jB L) ls))/\Bl w w':=by
 obtain⟨a,ca,rfl,hv⟩:=hv;obtain⟨n,en⟩:=xE (ls.length)
 rw[en]at hl ⊢;have aO:=fV en;have HV:=fV hv;have bM:=fV hb;have HF:=fV h;have bN:=fV (λ(W:tW) hW (u:tV) (ns:List Nat) (hu:IL W u ns) hn hln=>Xp (fb:=fb) (gN:=gN) (aJ:=aJ) hs hc hL (w:=W) hW (v:=u) (ns:=ns) hu hn hln);clear en hv hb h hs hc hL;go_enter func57,ntmps57;go_wp2_with fail
 go_loopw [5,6] (λ y z wr=>∃(i:Nat)(b:Int),i<=n/\z=.int .i64 (i:Int)/\y=.int .i64 b/\ -1<=b/\b<1000/\QO (b=pT (jB L) (ls.take i))/\Bl w wr) (λ _ z _=>n-(QN z).toNat)
 case atStart=>exact⟨0, -1,by omega,rfl,rfl,by omega,by omega,fV rfl,bR⟩
 case round=>
  obtain⟨i,b,hi,rfl,rfl,aL,aT,HA,J⟩:=hrel;have I:=fV J;have cP:=J.size;by_cases bO:i<n
  ·obtain⟨y,V⟩:∃y,ls[i]?=some y:=⟨ls[i]'(by rw[aO.o];exact bO),LC _⟩
   obtain⟨g,rfl,_,hg,hc⟩:=HV.o.resolve_left (λ e=>by rw[e]at V;simp at V);obtain⟨q,hq,Y⟩:=hc i y V;have aR:w.cell? ⟨g,i*2,none⟩=some (.int .i64 (y.1:Int)):=by have:=hq 0 _ rfl;exact this
   have y2:wr.cell? ⟨g,i*2+1,none⟩=some q:=(J.cell (p:=⟨g,i*2+1,none⟩) hg).trans (by have:=hq 1 _ rfl;exact this);have bS:QO (IL wr q y.2):=Y.il.below J lR;obtain⟨qa,qc,rfl,_,_⟩:=Y;obtain⟨cF,aW,Z⟩:=bM.o y (LJ V);have bT:=fV aW;have bK:=fV Z;have cN:=iI i n (by omega)
   have C:QO (pT (jB L) (ls.take (i+1))=Fl (jB L) b y):=by unfold QO;rw[Qx V,HA.o]
   clear hq hc V aW Z J;go_upto_region 6 with fail;refine(bN.o _ (HF.o.below (B:=w.heap.size) ⟨I.o.os,I.o.tape,I.o.output,I.o.size,I.o.block⟩ lR) _ y.2 (bS.o.below ⟨rfl,rfl,rfl,lR,λ _ _=>rfl⟩ lR) bK.o bT.o).mono ?_;rintro e w3 ⟨rfl,F⟩;have U:Bl w w3:=⟨F.os.trans I.o.os,F.tape.trans I.o.tape,F.output.trans I.o.output,LZ I.o.size F.size,λ k hk=>(F.block k (LO hk I.o.size)).trans (I.o.block k hk)⟩
   have Q:=fV U;have y1:w3.cell? ⟨g,i*2,none⟩=some (.int .i64 (y.1:Int)):=(U.cell (p:=⟨g,i*2,none⟩) hg).trans aR;clear F U aR y2
   cases hd:xL (jB L) y.2 with
   | false=>
    have D:QO (b=pT (jB L) (ls.take (i+1))):=by unfold QO;rw[C.o,Fl,hd,aA (by simp)]
    clear hd C;go_wp2;go_roundw
    case rel=>exact⟨i+1,b,by omega,by go_num,rfl,aL,aT,D,Q.o⟩
    case measure=>simp[QN];omega
   | true=>
    by_cases X:b= -1
    ·have D:QO ((y.1:Int)=pT (jB L) (ls.take (i+1))):=by unfold QO;rw[C.o,Fl,hd,aB ⟨rfl,.inl X⟩]
     have d1:(b== -1)=true:=by rw[X];rfl
     clear hd C X;go_wp2;go_roundw
     case rel=>exact⟨i+1,(y.1:Int),by omega,by go_num,rfl,by omega,by omega,D,Q.o⟩
     case measure=>simp[QN];omega
    ·have d1:(b== -1)=false:=by rw[aC];exact X
     by_cases h2:(y.1:Int)<b
     ·have D:QO ((y.1:Int)=pT (jB L) (ls.take (i+1))):=by unfold QO;rw[C.o,Fl,hd,aB ⟨rfl,.inr h2⟩]
      have d2:decide ((y.1:Int)<b)=true:=by simp;omega
      clear hd C X;go_wp2;go_roundw
      case rel=>exact⟨i+1,(y.1:Int),by omega,by go_num,rfl,by omega,by omega,D,Q.o⟩
      case measure=>simp[QN];omega
     ·have D:QO (b=pT (jB L) (ls.take (i+1))):=by unfold QO;rw[C.o,Fl,hd,aA (λ h=>by rcases h.2 with h|h<;>omega)]
      have d2:decide ((y.1:Int)<b)=false:=by simp;omega
      clear hd C X;go_wp2;go_roundw
      case rel=>exact⟨i+1,b,by omega,by go_num,rfl,aL,aT,D,Q.o⟩
      case measure=>simp[QN];omega
  ·have bC:i=n:=by omega
   have HR:QO (b=pT (jB L) ls):=by
    unfold QO;rw[HA.o,bC,<-aO.o,MM]
   have dl:=dF i n (by omega)
   clear bC;go_wp2;go_ret;exact⟨by rw[<-HR.o];rfl,I.o⟩
section
structure GM(gb B:Nat)(w:tW)(O:Nat->Nat)(vL vO vT:tV)(Ls:List (List jL))(Of:List Int)(bF:List (Nat->Int))(cL cO cT:List (List tV)):Prop where
 c0:w.cell? ⟨gb,0,none⟩=some vL
 c1:w.cell? ⟨gb,1,none⟩=some vO
 c2:w.cell? ⟨gb,2,none⟩=some vT
 fz:∀i,w.frozen? ⟨gb,i,none⟩=false
 wt:O gb=1/\gb<w.heap.size/\B<=gb
 rL:sV At 145 1 w B (λ g=>O g=0) vL Ls cL
 rO:sV zC 3 1 w B (λ g=>O g=0) vO Of cO
 rT:sV wX 59 1 w B (λ g=>O g=0) vT bF cT
 tL:∀k,vL.ownBlock=some k->O k=2
 tO:∀k,vO.ownBlock=some k->O k=3
 tT:∀k,vT.ownBlock=some k->O k=4
 fr:∀k,w.heap.size<=k->O k=0
section
variable {gb B:Nat}{w w':tW}{O O':Nat->Nat}{vL vO vT:tV}{Ls:List (List jL)}{Of:List Int}{bF:List (Nat->Int)}{cL cO cT:List (List tV)}
theorem GM.keep(h:GM gb B w O vL vO vT Ls Of bF cL cO cT)(F:w.heap.size<=w'.heap.size)(C:∀k,k<w.heap.size->O k≠5->w'.heap[k]?=w.heap[k]? /\O' k=O k)(J:∀k,w'.heap.size<=k->O' k=0):GM gb B w' O' vL vO vT Ls Of bF cL cO cT:=by
 obtain⟨U,Q,b2⟩:=h.wt;obtain⟨D,X⟩:=C gb Q (by omega);have I:∀k,O k=0->k<w.heap.size->w'.heap[k]?=w.heap[k]? /\O' k=0:=λ k V o=>by
  obtain⟨a,b⟩:=C k o (by omega);exact⟨a,by omega⟩
 exact⟨(LF (w:=w) (a:=⟨gb,0,none⟩) D).trans h.c0,(LF (w:=w) (a:=⟨gb,1,none⟩) D).trans h.c1,(LF (w:=w) (a:=⟨gb,2,none⟩) D).trans h.c2,λ i=>(LS (w:=w) (a:=⟨gb,i,none⟩) D).trans (h.fz i),⟨by omega,by omega,b2⟩,
  h.rL.keep At.keeps F (λ k o=>(C k (h.rL.1.lt k o).2 (by have:=h.tL k o;omega)).1) I,h.rO.keep zC.keeps F (λ k o=>(C k (h.rO.1.lt k o).2 (by have:=h.tO k o;omega)).1) I,h.rT.keep wX.keeps F (λ k o=>(C k (h.rT.1.lt k o).2 (by have:=h.tT k o;omega)).1) I,
  λ k o=>by have:=h.tL k o;have:=(C k (h.rL.1.lt k o).2 (by omega)).2;omega,λ k o=>by have:=h.tO k o;have:=(C k (h.rO.1.lt k o).2 (by omega)).2;omega,λ k o=>by have:=h.tT k o;have:=(C k (h.rT.1.lt k o).2 (by omega)).2;omega,J⟩
theorem GM.below(h:GM gb B w O vL vO vT Ls Of bF cL cO cT)(C:Bl w w'):GM gb B w' O vL vO vT Ls Of bF cL cO cT:=h.keep C.size (λ k o _=>⟨C.block k o,rfl⟩) (λ k o=>h.fr k (LZ C.size o))
theorem GM.pushL(h:GM gb B w O vL vO vT Ls Of bF cL cO cT){w4:tW}{o:Obj}{g aJ n:Nat}{u:List tV}{x:List jL}(hn:Ls.length=n)(hu:At w (λ g=>O g=0) u x)(aO:u.length=1)
  (J:w4.ownsRow B 145 1 (.slice (some ⟨g,0,none⟩) (n+1) aJ) (n+1) (cL.flatten++u)) (D:(w.alloc o).grownBy w4 vL.ownBlock) (aT:vL.ownBlock=some g\/g=w.heap.size+1):
  GM gb B (w4.setCell ⟨gb,0,none⟩ (.slice (some ⟨g,0,none⟩) (n+1) aJ)) (λ k=>if k=g then 2 else O k) (.slice (some ⟨g,0,none⟩) (n+1) aJ) vO vT (Ls++[x]) Of bF (cL++[u]) cO cT/\
  (∀k,k<w.heap.size->O k≠1->O k≠2->(w4.setCell ⟨gb,0,none⟩ (.slice (some ⟨g,0,none⟩) (n+1) aJ)).heap[k]?=w.heap[k]? /\(if k=g then 2 else O k)=O k)/\w.heap.size<=w4.heap.size/\∀w0,Below B w0 w->Below B w0 (w4.setCell ⟨gb,0,none⟩ (.slice (some ⟨g,0,none⟩) (n+1) aJ)):=by
 obtain⟨o1,b1,b2⟩:=h.wt;have bM:=D.size;have ez:(w.alloc o).heap.size=w.heap.size+1:=by simp
 have bC:=(J.lt g rfl)
 have bK:(w4.setCell ⟨gb,0,none⟩ (.slice (some ⟨g,0,none⟩) (n+1) aJ)).heap.size=w4.heap.size:=by simp[MB]
 have Y:g<w.heap.size->O g=2:=λ hg=>by
  rcases aT with e|e
  ·exact h.tL g e
  ·omega
 have Q:g≠gb:=λ e=>by
  have:=Y (by omega);rw[e]at this;omega
 have F:∀k,k<w.heap.size->O k≠1->O k≠2->(w4.setCell ⟨gb,0,none⟩ (.slice (some ⟨g,0,none⟩) (n+1) aJ)).heap[k]?=w.heap[k]? /\(if k=g then 2 else O k)=O k:=λ k C h1 h2=>by
  have aR:k≠gb:=λ e=>h1 (by rw[e];exact o1)
  have aL:k≠g:=λ e=>h2 (by rw[e];exact Y (by omega))
  exact⟨(iC w4 gb 0 _ aR).trans ((D.block k (by omega) (λ e=>h2 (h.tL k e.symm))).trans (LM w o k C)),aA aL⟩
 have V:w4.heap[gb]?=w.heap[gb]? :=(D.block gb (by omega) (λ e=>by have:=h.tL gb e.symm;omega)).trans (LM w o gb b1);have hc:∀i,i≠0->(w4.setCell ⟨gb,0,none⟩ (.slice (some ⟨g,0,none⟩) (n+1) aJ)).cell? ⟨gb,i,none⟩=w.cell? ⟨gb,i,none⟩:=λ i hi=>by
  rw[LQ (h:=by intro e';injection e';omega)];exact LF (w:=w) (a:=⟨gb,i,none⟩) V
 have hP:∀k,O k=0->k<w.heap.size->(w4.setCell ⟨gb,0,none⟩ (.slice (some ⟨g,0,none⟩) (n+1) aJ)).heap[k]?=w.heap[k]? /\(if k=g then 2 else O k)=0:=λ k X C=>by
  obtain⟨a,b⟩:=F k C (by omega) (by omega);exact⟨a,by rw[b];exact X⟩
 have Z:=h.rL.app At.keeps (P':=λ k=>(if k=g then 2 else O k)=0) hn hu aO J D (λ k X C=>⟨λ e=>by have:=h.tL k e;omega,(hP k X C).2⟩);have U:sV At 145 1 (w4.setCell ⟨gb,0,none⟩ (.slice (some ⟨g,0,none⟩) (n+1) aJ)) B (λ k=>(if k=g then 2 else O k)=0) (.slice (some ⟨g,0,none⟩) (n+1) aJ) (Ls++[x]) (cL++[u]):=
  Z.keep At.keeps (by omega) (λ k C=>iC w4 gb 0 _ (λ e=>by
   have e2:g=k:=by simpa[LY]using C
   exact Q (by rw[e2];exact e))) (λ k X _=>⟨iC w4 gb 0 _ (λ e=>by
   rw[e,aA (Ne.symm Q)]at X;omega),X⟩)
 refine⟨⟨LU _ _ _ ((LF (w:=w) (a:=⟨gb,0,none⟩) V).trans h.c0),(hc 1 (by omega)).trans h.c1,(hc 2 (by omega)).trans h.c2,λ i=>by rw[ME];exact(LS (w:=w) (a:=⟨gb,i,none⟩) V).trans (h.fz i),⟨(aA (Ne.symm Q)).trans o1,by omega,b2⟩,U,h.rO.keep zC.keeps (by omega) (λ k C=>(F k (h.rO.1.lt k C).2 (by have:=h.tO k C;omega) (by have:=h.tO k C;omega)).1) hP,h.rT.keep wX.keeps (by omega) (λ k C=>(F k (h.rT.1.lt k C).2 (by have:=h.tT k C;omega) (by have:=h.tT k C;omega)).1) hP,λ k C=>by
  have e2:g=k:=by simpa[LY]using C
  exact aB e2.symm,λ k C=>by
  have h3:=h.tO k C;have h4:=(F k (h.rO.1.lt k C).2 (by omega) (by omega)).2;exact h4.trans h3,λ k C=>by
  have h3:=h.tT k C;have h4:=(F k (h.rT.1.lt k C).2 (by omega) (by omega)).2;exact h4.trans h3,λ k C=>?_⟩,F,by omega,λ w0 I=>?_⟩
 ·have:k≠g:=by omega
  simp only[aA this];exact h.fr k (by omega)
 ·have hs:=(NJ B w4).setCell (p:=⟨gb,0,none⟩) b2 (.slice (some ⟨g,0,none⟩) (n+1) aJ);refine⟨hs.os.trans (D.os.trans I.os),hs.tape.trans (D.tape.trans I.tape),hs.output.trans (D.output.trans I.output),by have:=I.size;omega,λ k C=>?_⟩;have h1:=hs.block k C;have aW:k<w.heap.size:=by omega
  exact h1.trans (((D.block k (by omega) (λ e=>by have:=(h.rL.1.lt k e.symm).1;omega)).trans (LM w o k aW)).trans (I.block k C))
theorem GM.pushO(h:GM gb B w O vL vO vT Ls Of bF cL cO cT){w4:tW}{o:Obj}{g aJ n:Nat}{u:List tV}{x:Int}(hn:Of.length=n)(hu:zC w (λ g=>O g=0) u x)(aO:u.length=1)
  (J:w4.ownsRow B 3 1 (.slice (some ⟨g,0,none⟩) (n+1) aJ) (n+1) (cO.flatten++u)) (D:(w.alloc o).grownBy w4 vO.ownBlock) (aT:vO.ownBlock=some g\/g=w.heap.size+1):
  GM gb B (w4.setCell ⟨gb,1,none⟩ (.slice (some ⟨g,0,none⟩) (n+1) aJ)) (λ k=>if k=g then 3 else O k) vL (.slice (some ⟨g,0,none⟩) (n+1) aJ) vT Ls (Of++[x]) bF cL (cO++[u]) cT/\
  (∀k,k<w.heap.size->O k≠1->O k≠3->(w4.setCell ⟨gb,1,none⟩ (.slice (some ⟨g,0,none⟩) (n+1) aJ)).heap[k]?=w.heap[k]? /\(if k=g then 3 else O k)=O k)/\w.heap.size<=w4.heap.size/\∀w0,Below B w0 w->Below B w0 (w4.setCell ⟨gb,1,none⟩ (.slice (some ⟨g,0,none⟩) (n+1) aJ)):=by
 obtain⟨o1,b1,b2⟩:=h.wt;have bM:=D.size;have ez:(w.alloc o).heap.size=w.heap.size+1:=by simp
 have bC:=(J.lt g rfl)
 have bK:(w4.setCell ⟨gb,1,none⟩ (.slice (some ⟨g,0,none⟩) (n+1) aJ)).heap.size=w4.heap.size:=by simp[MB]
 have Y:g<w.heap.size->O g=3:=λ hg=>by
  rcases aT with e|e
  ·exact h.tO g e
  ·omega
 have Q:g≠gb:=λ e=>by
  have:=Y (by omega);rw[e]at this;omega
 have F:∀k,k<w.heap.size->O k≠1->O k≠3->(w4.setCell ⟨gb,1,none⟩ (.slice (some ⟨g,0,none⟩) (n+1) aJ)).heap[k]?=w.heap[k]? /\(if k=g then 3 else O k)=O k:=λ k C h1 h2=>by
  have aR:k≠gb:=λ e=>h1 (by rw[e];exact o1)
  have aL:k≠g:=λ e=>h2 (by rw[e];exact Y (by omega))
  exact⟨(iC w4 gb 1 _ aR).trans ((D.block k (by omega) (λ e=>h2 (h.tO k e.symm))).trans (LM w o k C)),aA aL⟩
 have V:w4.heap[gb]?=w.heap[gb]? :=(D.block gb (by omega) (λ e=>by have:=h.tO gb e.symm;omega)).trans (LM w o gb b1);have hc:∀i,i≠1->(w4.setCell ⟨gb,1,none⟩ (.slice (some ⟨g,0,none⟩) (n+1) aJ)).cell? ⟨gb,i,none⟩=w.cell? ⟨gb,i,none⟩:=λ i hi=>by
  rw[LQ (h:=by intro e';injection e';omega)];exact LF (w:=w) (a:=⟨gb,i,none⟩) V
 have hP:∀k,O k=0->k<w.heap.size->(w4.setCell ⟨gb,1,none⟩ (.slice (some ⟨g,0,none⟩) (n+1) aJ)).heap[k]?=w.heap[k]? /\(if k=g then 3 else O k)=0:=λ k X C=>by
  obtain⟨a,b⟩:=F k C (by omega) (by omega);exact⟨a,by rw[b];exact X⟩
 have Z:=h.rO.app zC.keeps (P':=λ k=>(if k=g then 3 else O k)=0) hn hu aO J D (λ k X C=>⟨λ e=>by have:=h.tO k e;omega,(hP k X C).2⟩);have U:sV zC 3 1 (w4.setCell ⟨gb,1,none⟩ (.slice (some ⟨g,0,none⟩) (n+1) aJ)) B (λ k=>(if k=g then 3 else O k)=0) (.slice (some ⟨g,0,none⟩) (n+1) aJ) (Of++[x]) (cO++[u]):=
  Z.keep zC.keeps (by omega) (λ k C=>iC w4 gb 1 _ (λ e=>by
   have e2:g=k:=by simpa[LY]using C
   exact Q (by rw[e2];exact e))) (λ k X _=>⟨iC w4 gb 1 _ (λ e=>by
   rw[e,aA (Ne.symm Q)]at X;omega),X⟩)
 refine⟨⟨(hc 0 (by omega)).trans h.c0,LU _ _ _ ((LF (w:=w) (a:=⟨gb,1,none⟩) V).trans h.c1),(hc 2 (by omega)).trans h.c2,λ i=>by rw[ME];exact(LS (w:=w) (a:=⟨gb,i,none⟩) V).trans (h.fz i),⟨(aA (Ne.symm Q)).trans o1,by omega,b2⟩,h.rL.keep At.keeps (by omega) (λ k C=>(F k (h.rL.1.lt k C).2 (by have:=h.tL k C;omega) (by have:=h.tL k C;omega)).1) hP,U,h.rT.keep wX.keeps (by omega) (λ k C=>(F k (h.rT.1.lt k C).2 (by have:=h.tT k C;omega) (by have:=h.tT k C;omega)).1) hP,λ k C=>by
  have h3:=h.tL k C;have h4:=(F k (h.rL.1.lt k C).2 (by omega) (by omega)).2;exact h4.trans h3,λ k C=>by
  have e2:g=k:=by simpa[LY]using C
  exact aB e2.symm,λ k C=>by
  have h3:=h.tT k C;have h4:=(F k (h.rT.1.lt k C).2 (by omega) (by omega)).2;exact h4.trans h3,λ k C=>?_⟩,F,by omega,λ w0 I=>?_⟩
 ·have:k≠g:=by omega
  simp only[aA this];exact h.fr k (by omega)
 ·have hs:=(NJ B w4).setCell (p:=⟨gb,1,none⟩) b2 (.slice (some ⟨g,0,none⟩) (n+1) aJ);refine⟨hs.os.trans (D.os.trans I.os),hs.tape.trans (D.tape.trans I.tape),hs.output.trans (D.output.trans I.output),by have:=I.size;omega,λ k C=>?_⟩;have h1:=hs.block k C;have aW:k<w.heap.size:=by omega
  exact h1.trans (((D.block k (by omega) (λ e=>by have:=(h.rO.1.lt k e.symm).1;omega)).trans (LM w o k aW)).trans (I.block k C))
theorem GM.pushT(h:GM gb B w O vL vO vT Ls Of bF cL cO cT){w4:tW}{o:Obj}{g aJ n:Nat}{u:List tV}{x:Nat->Int}(hn:bF.length=n)(hu:wX w (λ g=>O g=0) u x)(aO:u.length=1)
  (J:w4.ownsRow B 59 1 (.slice (some ⟨g,0,none⟩) (n+1) aJ) (n+1) (cT.flatten++u)) (D:(w.alloc o).grownBy w4 vT.ownBlock) (aT:vT.ownBlock=some g\/g=w.heap.size+1):
  GM gb B (w4.setCell ⟨gb,2,none⟩ (.slice (some ⟨g,0,none⟩) (n+1) aJ)) (λ k=>if k=g then 4 else O k) vL vO (.slice (some ⟨g,0,none⟩) (n+1) aJ) Ls Of (bF++[x]) cL cO (cT++[u])/\
  (∀k,k<w.heap.size->O k≠1->O k≠4->(w4.setCell ⟨gb,2,none⟩ (.slice (some ⟨g,0,none⟩) (n+1) aJ)).heap[k]?=w.heap[k]? /\(if k=g then 4 else O k)=O k)/\w.heap.size<=w4.heap.size/\∀w0,Below B w0 w->Below B w0 (w4.setCell ⟨gb,2,none⟩ (.slice (some ⟨g,0,none⟩) (n+1) aJ)):=by
 obtain⟨o1,b1,b2⟩:=h.wt;have bM:=D.size;have ez:(w.alloc o).heap.size=w.heap.size+1:=by simp
 have bC:=(J.lt g rfl)
 have bK:(w4.setCell ⟨gb,2,none⟩ (.slice (some ⟨g,0,none⟩) (n+1) aJ)).heap.size=w4.heap.size:=by simp[MB]
 have Y:g<w.heap.size->O g=4:=λ hg=>by
  rcases aT with e|e
  ·exact h.tT g e
  ·omega
 have Q:g≠gb:=λ e=>by
  have:=Y (by omega);rw[e]at this;omega
 have F:∀k,k<w.heap.size->O k≠1->O k≠4->(w4.setCell ⟨gb,2,none⟩ (.slice (some ⟨g,0,none⟩) (n+1) aJ)).heap[k]?=w.heap[k]? /\(if k=g then 4 else O k)=O k:=λ k C h1 h2=>by
  have aR:k≠gb:=λ e=>h1 (by rw[e];exact o1)
  have aL:k≠g:=λ e=>h2 (by rw[e];exact Y (by omega))
  exact⟨(iC w4 gb 2 _ aR).trans ((D.block k (by omega) (λ e=>h2 (h.tT k e.symm))).trans (LM w o k C)),aA aL⟩
 have V:w4.heap[gb]?=w.heap[gb]? :=(D.block gb (by omega) (λ e=>by have:=h.tT gb e.symm;omega)).trans (LM w o gb b1);have hc:∀i,i≠2->(w4.setCell ⟨gb,2,none⟩ (.slice (some ⟨g,0,none⟩) (n+1) aJ)).cell? ⟨gb,i,none⟩=w.cell? ⟨gb,i,none⟩:=λ i hi=>by
  rw[LQ (h:=by intro e';injection e';omega)];exact LF (w:=w) (a:=⟨gb,i,none⟩) V
 have hP:∀k,O k=0->k<w.heap.size->(w4.setCell ⟨gb,2,none⟩ (.slice (some ⟨g,0,none⟩) (n+1) aJ)).heap[k]?=w.heap[k]? /\(if k=g then 4 else O k)=0:=λ k X C=>by
  obtain⟨a,b⟩:=F k C (by omega) (by omega);exact⟨a,by rw[b];exact X⟩
 have Z:=h.rT.app wX.keeps (P':=λ k=>(if k=g then 4 else O k)=0) hn hu aO J D (λ k X C=>⟨λ e=>by have:=h.tT k e;omega,(hP k X C).2⟩);have U:sV wX 59 1 (w4.setCell ⟨gb,2,none⟩ (.slice (some ⟨g,0,none⟩) (n+1) aJ)) B (λ k=>(if k=g then 4 else O k)=0) (.slice (some ⟨g,0,none⟩) (n+1) aJ) (bF++[x]) (cT++[u]):=
  Z.keep wX.keeps (by omega) (λ k C=>iC w4 gb 2 _ (λ e=>by
   have e2:g=k:=by simpa[LY]using C
   exact Q (by rw[e2];exact e))) (λ k X _=>⟨iC w4 gb 2 _ (λ e=>by
   rw[e,aA (Ne.symm Q)]at X;omega),X⟩)
 refine⟨⟨(hc 0 (by omega)).trans h.c0,(hc 1 (by omega)).trans h.c1,LU _ _ _ ((LF (w:=w) (a:=⟨gb,2,none⟩) V).trans h.c2),λ i=>by rw[ME];exact(LS (w:=w) (a:=⟨gb,i,none⟩) V).trans (h.fz i),⟨(aA (Ne.symm Q)).trans o1,by omega,b2⟩,h.rL.keep At.keeps (by omega) (λ k C=>(F k (h.rL.1.lt k C).2 (by have:=h.tL k C;omega) (by have:=h.tL k C;omega)).1) hP,h.rO.keep zC.keeps (by omega) (λ k C=>(F k (h.rO.1.lt k C).2 (by have:=h.tO k C;omega) (by have:=h.tO k C;omega)).1) hP,U,λ k C=>by
  have h3:=h.tL k C;have h4:=(F k (h.rL.1.lt k C).2 (by omega) (by omega)).2;exact h4.trans h3,λ k C=>by
  have h3:=h.tO k C;have h4:=(F k (h.rO.1.lt k C).2 (by omega) (by omega)).2;exact h4.trans h3,λ k C=>by
  have e2:g=k:=by simpa[LY]using C
  exact aB e2.symm,λ k C=>?_⟩,F,by omega,λ w0 I=>?_⟩
 ·have:k≠g:=by omega
  simp only[aA this];exact h.fr k (by omega)
 ·have hs:=(NJ B w4).setCell (p:=⟨gb,2,none⟩) b2 (.slice (some ⟨g,0,none⟩) (n+1) aJ);refine⟨hs.os.trans (D.os.trans I.os),hs.tape.trans (D.tape.trans I.tape),hs.output.trans (D.output.trans I.output),by have:=I.size;omega,λ k C=>?_⟩;have h1:=hs.block k C;have aW:k<w.heap.size:=by omega
  exact h1.trans (((D.block k (by omega) (λ e=>by have:=(h.rT.1.lt k e.symm).1;omega)).trans (LM w o k aW)).trans (I.block k C))
structure CR(w:tW)(O:Nat->Nat)(B rb:Nat)(f:Nat->Int)(b:Nat):Prop where
 wt:O rb=5/\rb<w.heap.size/\B<=rb
 c:∀j,j<b->w.cell? ⟨rb,j,none⟩=some (.int .i64 (f j))
 a:∀j,j<256->∃x:Int,w.cell? ⟨rb,j,none⟩=some (.int .i64 x)
 fz:∀i,w.frozen? ⟨rb,i,none⟩=false
theorem CR.keep{f:Nat->Int}(h:CR w O B rb f b)(I:w.heap.size<=w'.heap.size)(o:w'.heap[rb]?=w.heap[rb]? /\O' rb=O rb):CR w' O' B rb f b:=by
 obtain⟨F,J,b2⟩:=h.wt;refine⟨⟨by omega,by omega,b2⟩,λ j C=>(LF (w:=w) (a:=⟨rb,j,none⟩) o.1).trans (h.c j C),λ j C=>?_,λ i=>(LS (w:=w) (a:=⟨rb,i,none⟩) o.1).trans (h.fz i)⟩;obtain⟨x,D⟩:=h.a j C;exact⟨x,(LF (w:=w) (a:=⟨rb,j,none⟩) o.1).trans D⟩
theorem CR.put{f f':Nat->Int}(h:CR w O B rb f b)(V:b<256){t:Int}(U:f' b=t)(J:∀j,j<b->f' j=f j):CR (w.setCell ⟨rb,b,none⟩ (.int .i64 t)) O B rb f' (b+1):=by
 obtain⟨I,Y,b2⟩:=h.wt;have X:(w.setCell ⟨rb,b,none⟩ (.int .i64 t)).heap.size=w.heap.size:=by simp[MB]
 have D:∀j,j≠b->(w.setCell ⟨rb,b,none⟩ (.int .i64 t)).cell? ⟨rb,j,none⟩=w.cell? ⟨rb,j,none⟩:=λ j o=>LQ _ _ _ _ (by intro F;injection F;omega)
 obtain⟨x,Q⟩:=h.a b V;have C:(w.setCell ⟨rb,b,none⟩ (.int .i64 t)).cell? ⟨rb,b,none⟩=some (.int .i64 t):=LU _ _ _ Q;refine⟨⟨I,by omega,b2⟩,λ j o=>?_,λ j o=>?_,λ i=>by rw[ME];exact h.fz i⟩
 ·by_cases e:j=b
  ·rw[e,C,U]
  ·rw[D j e,J j (by omega)];exact h.c j (by omega)
 ·by_cases e:j=b
  ·rw[e];exact⟨t,C⟩
  ·rw[D j e];exact h.a j o
theorem GM.set(h:GM gb B w O vL vO vT Ls Of bF cL cO cT){rb:Nat}(C:O rb=5)(j:Nat)(x:tV):GM gb B (w.setCell ⟨rb,j,none⟩ x) O vL vO vT Ls Of bF cL cO cT:=
 h.keep (by simp[MB]) (λ k _ D=>⟨iC w rb j _ (λ e=>D (by rw[e];exact C)),rfl⟩) (λ k o=>h.fr k (by simpa[MB]using o))
theorem GM.done(h:GM gb B w O vL vO vT Ls Of bF cL cO cT){rb:Nat}{f:Nat->Int}(o:CR w O B rb f 256):GM gb B w (λ k=>if k=rb then 0 else O k) vL vO vT Ls Of bF cL cO cT/\wX w (λ g=>(if g=rb then 0 else O g)=0) [.slice (some ⟨rb,0,none⟩) 256 256] f:=by
 obtain⟨D,I,b2⟩:=o.wt;exact⟨h.keep lR (λ k _ F=>⟨rfl,aA (λ e=>F (by rw[e];exact D))⟩) (λ k C=>by
  have:k≠rb:=by omega
  simp only[aA this];exact h.fr k C),rb,rfl,aB rfl,I,o.c⟩
end
end
section
theorem M9{w:tW}{xs:List tV}(o:B<=g)(h:w.heap[g]?=some (.cells xs.toArray T (0,0)))(hn:xs.length=n*z)(C:n<=1000):w.ownsRow B T z (.slice (some ⟨g,0,none⟩) n n) n xs:=
 ⟨hn,.inr ⟨g,n,xs.toArray,rfl,o,h,lR,by unfold QV;omega,by simp[hn],by rw[<-hn];simp⟩⟩
theorem GM.start{w:tW}{C:tV}{l0:List jL}(hB:B<=w.heap.size)(Z:Aw w (λ g=>B<=g) C l0):
  GM (w.heap.size+1+1) B (((w.alloc (.cells #[C] 145)).alloc (.cells #[.int .i64 (-1)] 3)).alloc (.cells #[.slice (some ⟨w.heap.size,0,none⟩) 1 1,.slice (some ⟨w.heap.size+1,0,none⟩) 1 1,.slice none 0 0] 133))
   (λ k=>if k=w.heap.size then 2 else if k=w.heap.size+1 then 3 else if k=w.heap.size+1+1 then 1 else 0) (.slice (some ⟨w.heap.size,0,none⟩) 1 1) (.slice (some ⟨w.heap.size+1,0,none⟩) 1 1) (.slice none 0 0) [l0] [-1] [] [[C]] [[.int .i64 (-1)]] []/\
  Bl w (((w.alloc (.cells #[C] 145)).alloc (.cells #[.int .i64 (-1)] 3)).alloc (.cells #[.slice (some ⟨w.heap.size,0,none⟩) 1 1,.slice (some ⟨w.heap.size+1,0,none⟩) 1 1,.slice none 0 0] 133)):=by
 have z1:(w.alloc (.cells #[C] 145)).heap.size=w.heap.size+1:=by simp
 have V:((w.alloc (.cells #[C] 145)).alloc (.cells #[.int .i64 (-1)] 3)).heap.size=w.heap.size+1+1:=by simp
 generalize hw1:w.alloc (.cells #[C] 145)=w1 at*;generalize hw2:w1.alloc (.cells #[.int .i64 (-1)] 3)=w2 at*;generalize hw3:w2.alloc (.cells #[.slice (some ⟨w.heap.size,0,none⟩) 1 1,.slice (some ⟨w.heap.size+1,0,none⟩) 1 1,.slice none 0 0] 133)=w3 at*;have z3:w3.heap.size=w.heap.size+1+1+1:=by rw[<-hw3];simp[V]
 have U:∀k,k<w1.heap.size->w2.heap[k]?=w1.heap[k]? :=λ k o=>by rw[<-hw2];exact LM w1 _ k o
 have I:∀k,k<w2.heap.size->w3.heap[k]?=w2.heap[k]? :=λ k o=>by rw[<-hw3];exact LM w2 _ k o
 have aL:∀k,k<w.heap.size->w1.heap[k]?=w.heap[k]? :=λ k o=>by rw[<-hw1];exact LM w _ k o
 have a1:w3.heap[w.heap.size]?=some (.cells #[C] 145 (0,0)):=by rw[I _ (by omega),U _ (by omega),<-hw1];exact heap_alloc_new w _
 have a2:w3.heap[w.heap.size+1]?=some (.cells #[.int .i64 (-1)] 3 (0,0)):=by rw[I _ (by omega),<-hw2,<-z1];exact heap_alloc_new w1 _
 have Y:Bl w w3:=by
  have b1:Bl w w1:=by rw[<-hw1];exact bR.alloc lR _
  have b2:Bl w w2:=by rw[<-hw2];exact b1.alloc (by omega) _
  rw[<-hw3];exact b2.alloc (by omega) _
 have D:∀i,w3.cell? ⟨w.heap.size+1+1,i,none⟩=(#[.slice (some ⟨w.heap.size,0,none⟩) 1 1,.slice (some ⟨w.heap.size+1,0,none⟩) 1 1,.slice none 0 0]:Array tV)[i]? :=λ i=>by rw[<-hw3];exact MG _ _ _ i V.symm
 refine⟨⟨D 0,D 1,D 2,λ i=>by rw[<-hw3];exact NO _ _ _ i V.symm,⟨?_,by omega,by omega⟩,⟨M9 hB a1 rfl (by decide),rfl,λ c D=>?_,λ j c x F X=>?_⟩,⟨M9 (xs:= [.int .i64 (-1)]) (by omega) a2 rfl (by decide),rfl,λ c D=>?_,λ j c x F X=>?_⟩,sV.start _ _ _,λ k o=>?_,λ k o=>?_,λ k o=>(by cases o),λ k o=>?_⟩,Y⟩
 ·rw[aA (by omega),aA (by omega),aB rfl]
 ·rw[ML.1 D];rfl
 ·cases j with
  | zero=>
   have J: [C]=c:=by simpa using F
   have Q:=sJ X
   subst J Q;exact⟨C,rfl,Z.keep Y.size (λ k _ o=>⟨Y.block k o,by simp only[aA (show k≠w.heap.size by omega),aA (show k≠w.heap.size+1 by omega),aA (show k≠w.heap.size+1+1 by omega)]⟩)⟩
  | succ j=>simp at F
 ·rw[ML.1 D];rfl
 ·cases j with
  | zero=>
   have J: [.int .i64 (-1)]=c:=by simpa using F
   have Q:(-1:Int)=x:=by simpa using X
   subst J Q
   rfl
  | succ j=>simp at F
 ·have e:w.heap.size=k:=by simpa[LY]using o
  exact aB e.symm
 ·have e:w.heap.size+1=k:=by simpa[LY]using o
  rw[aA (by omega),aB e.symm]
 ·rw[aA (by omega),aA (by omega),aA (by omega)]
def uB(bF:List (Nat->Int))(To:Nat->Nat->Int)(p:Nat):Prop:=bF.length=p/\∀(i:Nat)(f:Nat->Int),bF[i]?=some f->∀j,j<256->f j=To i j
theorem uB.upd{bF:List (Nat->Int)}{To:Nat->Nat->Int}(h:uB bF To p)(t:Int):uB bF (Ao To p b t) p:=⟨h.1,λ i f o j C=>by
 have:=(LD.1 o).1;rw[mP (λ e=>by have:=h.1;omega)];exact h.2 i f o j C⟩
theorem uB.snoc{bF:List (Nat->Int)}{To:Nat->Nat->Int}(h:uB bF To p):uB (bF++[To p]) To (p+1):=by
 refine⟨by rw[LH,LK,h.1],λ i f o j C=>?_⟩;by_cases hi:i<bF.length
 ·rw[LI hi]at o;exact h.2 i f o j C
 ·have:=(LD.1 o).1;rw[LH,LK]at this;have e:i=bF.length:=by omega
  subst e;rw[LP lR,NB]at o;have e:To p=f:=by simpa using o
  rw[<-e,h.1]
theorem i8{N:List RN}{R:List RV}:∀x,x∈rH bE 0 R->UB N (R.map RV.n) x:=λ x o=>by
 obtain⟨j,y,C,_,D⟩:=Q3.1 o;rw[D,MA];exact⟨y.n,by rw[MR,C];rfl,.inl rfl⟩
section
variable {N:List RN}{aQ ks:List Nat}{l0:List jL}{Ls:List (List jL)}{Of:List Int}{To:Nat->Nat->Int}{p b:Nat}
theorem GI.ub(D:∀x,x∈l0->UB N aQ x)(h:GI N aQ l0 Ls Of To p b):∀o,o∈Ls->∀x,x∈o->UB N aQ x:=λ o F x C=>by
 obtain⟨i,hi⟩:=MV F;by_cases e:i=0
 ·rw[e,h.z]at hi;injection hi with hi;rw[<-hi]at C;exact D x C
 ·exact((h.ok i o (by omega) hi).2.2 x C).ub
theorem GI.bnds(D:mO N aQ ks)(U:∀x,x∈l0->UB N aQ x)(F:l0.length<=1000)(h:GI N aQ l0 Ls Of To p b):∀o,o∈Ls->o.length<=1000000/\∀x,x∈o->x.2.length<=1000000:=λ o C=>by
 refine⟨?_,λ x Q=>by have:=(D.bnd (h.ub U o C x Q)).2.1;omega⟩;obtain⟨i,hi⟩:=MV C;by_cases e:i=0
 ·rw[e,h.z]at hi;injection hi with hi;rw[<-hi];omega
 ·obtain⟨_,J,I⟩:=h.ok i o (by omega) hi;have:=D.few J I;omega
theorem GI.twin(J:mO N aQ ks){lw:List Nat}(C:G6 N lw)(h:GI N aQ l0 Ls Of To p b)(U:b<256){l:List jL}(Q:Ls[p]?=some l){x:Nat}(F:lw[b]?=some x)(o:x<b):Ap N Ls l b (To p x):=by
 obtain⟨_,_,I⟩:=C b x F;have D:=h.lead p x l ⟨by omega,.inr ⟨rfl,o⟩⟩ Q;unfold Ap at D⊢;rw[<-Fw J.cl I l];exact D
theorem GI.found(h:GI N aQ l0 Ls Of To p b){l:List jL}(D:lG N b l≠ []){i:Nat}{C:List jL}(hi:0<i)(o:Ls[i]?=some C)(F:pP C (lG N b l)=true):Ap N Ls l b (i:Int):=
 .inr ⟨i,C,rfl,hi,o,D,(Do (h.ok i C hi o).2.1 (P6 _ _ _)).1 F⟩
end
end
theorem eF:(Tryz.prog.info? 145).map (λ i=>(i.zero,i.size,i.bytes))=some (some (.slice none 0 0),1,24):=by kernel_rfl
def If(N:List RN)(aQ:List Nat)(l0:List jL)(B gb:Nat)(w':tW)(Ls:List (List jL))(Of:List Int)(To:Nat->Nat->Int):Prop:=
 GI N aQ l0 Ls Of To Ls.length 0/\∃(O:Nat->Nat)(vL vO vT:tV)(bF:List (Nat->Int)) (cL cO cT:List (List tV)),GM gb B w' O vL vO vT Ls Of bF cL cO cT/\uB bF To Ls.length
theorem Pz{L:List NV}{R:List RV}(hf:mO (jB L) (R.map RV.n) ks)(W6:bE<4){w:tW}(h:FR fb w L gN aJ)(hr:II fb w R gR cR){v:tV}{lw:List Nat}(hv:IL w v lw)(hX:lw.length=256)(e2:G6 (jB L) lw):
  QW MD 46 #[.pointer (some ⟨fb,0,none⟩),.int .i64 (bE:Int),v] w λ e w'=>∃(gb:Nat)(Ls:List (List jL)) (Of:List Int) (To:Nat->Nat->Int),e=.returned (.pointer (some ⟨gb,0,none⟩))/\Bl w w'/\If (jB L) (R.map RV.n) (rH bE 0 R) w.heap.size gb w' Ls Of To:=by
 have hR:R.length<=8:=by have:=hf.r8;rw[MT]at this;exact this
 obtain⟨a,vc,rfl,_,hv⟩:=hv;obtain⟨gl,ol,rfl,j1,a9⟩:=hv.resolve_left (λ e=>by rw[e]at hX;simp at hX);have j2:=fV a9;have Y:=fV hf;have HF:=fV h;have h9:=fV hX;have g0:=fV e2;have e5:=fV (Qo (fb:=fb) (gR:=gR) (cR:=cR) W6 (R:=R) (by omega) hr);have f0:QO (∀x,x∈rH bE 0 R->UB (jB L) (R.map RV.n) x):=i8;have h6:QO ((rH bE 0 R).length<=1000):=by have:=Dp bE R 0;unfold QO;omega
 obtain⟨i0,H2,d6,hS,c3⟩:=QS bX;have HI:QO (Tryz.prog.info? 3=some i0/\i0.zero=some (.int .i64 0)/\i0.size=1/\i0.bytes=8):=⟨H2,d6,hS,c3⟩
 rw[hX];clear H2 d6 hS c3 hf h hr hX e2 a9 hv;generalize R.map RV.n=aQ at*;generalize rH bE 0 R=l0 at*;go_enter func46,ntmps46;go_upto_region 2 with fail;refine e5.o.mono ?_;rintro e w1 ⟨v0,rfl,X0,T2⟩;have c4:=fV X0;have hS:=X0.size;have Hb:=GM.start hS T2;obtain⟨va,aU,rfl,_⟩:=T2;have j4:=fV Hb.1;have a8:=fV Hb.2;clear X0 Hb e5;go_wp2_with fail;generalize ((w1.alloc (.cells #[.slice va l0.length aU] 145)).alloc (.cells #[.int .i64 (-1)] 3)).alloc (.cells #[.slice (some ⟨w1.heap.size,0,none⟩) 1 1,.slice (some ⟨w1.heap.size+1,0,none⟩) 1 1,.slice none 0 0] 133)=W2 at*;have h5:QO (Bl w W2):=lZ c4.o a8.o;generalize w1.heap.size+1+1=gb at*;clear c4 a8 hS
 go_loopw [9] (λ z wr=>∃(p:Nat)(Ls:List (List jL)) (Of:List Int) (To:Nat->Nat->Int) (O:Nat->Nat) (vL vO vT:tV) (bF:List (Nat->Int)) (cL cO cT:List (List tV)),z=.int .i64 (p:Int)/\p<=Ls.length/\GI (jB L) aQ l0 Ls Of To p 0/\GM gb w.heap.size wr O vL vO vT Ls Of bF cL cO cT/\uB bF To p/\Bl w wr) (λ z _=>1026-(QN z).toNat)
 case atStart=>exact⟨0,[l0],[-1],λ _ _=>0,_,_,_,_,[],_,_,_,rfl,by simp,GI.start _ _ _ _,j4.o,⟨rfl,λ i f hf=>by simp at hf⟩,h5.o⟩
 case round=>
  obtain⟨p,Ls,Of,To,O,vL,vO,vT,bF,cL,cO,cT,rfl,hp,bT,F,eR,cF⟩:=hrel;have A2:=bT.few Y.o;have N1:0<Ls.length:=(LD.1 bT.z).1;have I:=fV bT;have bS:=fV F;have cP:=fV eR;have U:=fV cF;have a0:=cF.size;have B1:=F.wt.2.1;have c0:=F.c0;obtain⟨aL,qL,eL⟩:=gA F.rL.1;rw[eL]at c0;obtain⟨nL,a4⟩:=xE (Ls.length)
  rw[a4]at c0 A2 N1 hp;have B2:=fV a4;clear bT F eR cF a4 eL;by_cases d3:p<nL
  ·have b1:=dT p nL (by omega)
   go_upto_region 7 with(first|(at_make;refine QT wr rfl _ _ 59 rfl wr.heap.size 3 i0 (.int .i64 0) 1 MO HI.o.1 HI.o.2.1 HI.o.2.2.1 .i64 .i64 _ _ 256 rfl rfl rfl rfl (by rw[HI.o.2.2.2];omega) (by unfold QV;omega) lR ?_;intro w3 eM hL))
   have H1:Bl wr w3:=⟨hL.os,hL.tape,hL.output,hL.size,λ k hk=>hL.block k hk (by simp)⟩
   have a7:wr.heap.size<w3.heap.size:=(eM.lt wr.heap.size rfl).2;have Q:CR w3 (λ k=>if k=wr.heap.size then 5 else O k) w.heap.size wr.heap.size (To p) 0:=by
    refine⟨⟨aB rfl,a7,a0⟩,λ j hj=>by omega,λ j hj=>⟨0,?_⟩,λ i=>rX eM i⟩;have h1:=eM.cells rfl j (.int .i64 0) (by
     rw[F0,MR,NK,aB hj];rfl)
    rw[oM,MA]at h1;exact h1
   have W4:GM gb w.heap.size w3 (λ k=>if k=wr.heap.size then 5 else O k) vL vO vT Ls Of bF cL cO cT:=bS.o.keep H1.size (λ k hk _=>⟨H1.block k hk,aA (by omega)⟩) (λ k hk=>by
    have:k≠wr.heap.size:=by omega
    simp only[aA this];exact bS.o.fr k (by omega))
   have O5:=fV W4;have N0:=fV Q;have P0:=fV (lZ U.o H1);have d5:QO (p<Ls.length):=by unfold QO;rw[B2.o];exact d3
   clear W4 Q H1 eM hL bS U c0 b1;generalize wr.heap.size=rb at*;go_wp2_with fail
   go_loopw [11] (λ z X4=>∃(b:Nat)(Ls:List (List jL)) (Of:List Int) (To:Nat->Nat->Int) (O:Nat->Nat) (vL vO vT:tV) (cL cO cT:List (List tV)),z=.int .i64 (b:Int)/\b<=256/\p<Ls.length/\GI (jB L) aQ l0 Ls Of To p b/\GM gb w.heap.size X4 O vL vO vT Ls Of bF cL cO cT/\CR X4 O w.heap.size rb (To p) b/\uB bF To p/\Bl w X4) (λ z _=>256-(QN z).toNat)
   case atStart=>exact⟨0,Ls,Of,To,_,vL,vO,vT,cL,cO,cT,rfl,by omega,d5.o,I.o,O5.o,N0.o,cP.o,P0.o⟩
   case round=>
    clear I O5 N0 P0 d5 cP a0 B1 a7 A2 N1 hp d3 B2;obtain⟨b,Ls,Of,To,O,vL,vO,vT,cL,cO,cT,rfl,hb,H0,bT,F,Q,eR,cF⟩:=hrel;have A2:=bT.few Y.o;have I:=fV bT;have bS:=fV F;have H3:=fV Q;have cP:=fV eR;have U:=fV cF;have a0:=cF.size;have B1:=F.wt.2.1;have j0:=Q.wt.2.1;have a3:=Q.wt.2.2;have b3:=Q.wt.1;by_cases C:b<256
    ·obtain⟨x,hx⟩:∃x,lw[b]?=some x:=⟨lw[b]'(by rw[h9.o];exact C),LC _⟩
     obtain⟨l,hl⟩:∃l,Ls[p]?=some l:=⟨Ls[p]'H0,LC _⟩
     have HL:=fV hl;have y0:wr.cell? ⟨gl,ol+b,none⟩=some (.int .i64 (x:Int)):=(cF.cell (p:=⟨gl,ol+b,none⟩) j1).trans (j2.o b x hx);have l4:=(g0.o b x hx).1;have n4:(0:Int)<=(b:Int)/\(b:Int)<(256:Int):=by omega
     have m5:(0:Int)<=(x:Int)/\(x:Int)<(256:Int):=by omega
     obtain⟨f5,hJ⟩:=Q.a b C;have fz:=Q.fz b;by_cases W0:x<b
     ·have e3:=dT x b (by omega)
      have y1:=Q.c x W0;have hY:=fV (I.o.twin Y.o g0.o C hl hx W0);have hC:QO (CR (wr.setCell ⟨rb,b,none⟩ (.int .i64 (To p x))) O w.heap.size rb (Ao To p b (To p x) p) (b+1)):=H3.o.put C (qM _ _ _ _) (λ j hj=>mP (λ e=>by omega));have hD:QO (GM gb w.heap.size (wr.setCell ⟨rb,b,none⟩ (.int .i64 (To p x))) O vL vO vT Ls Of bF cL cO cT):=bS.o.set b3 b _;have hE:QO (Bl w (wr.setCell ⟨rb,b,none⟩ (.int .i64 (To p x)))):=U.o.setCell (p:=⟨rb,b,none⟩) a3 _;clear bT F Q eR cF hl hx;generalize To p x=tx at*;go_wp2;go_roundw
      case rel=>exact⟨b+1,Ls,Of,Ao To p b tx,O,vL,vO,vT,cL,cO,cT,by go_num,by omega,H0,I.o.old C HL.o hY.o,hD.o,hC.o,cP.o.upd _,hE.o⟩
      case measure=>simp[QN];omega
     ·have e3:=dF x b (by omega)
      obtain⟨g2,e7,c,eL,_,m0,⟨q,h0,hq⟩,_,A3⟩:=F.rL.at hl;have c0:=F.c0;rw[eL]at c0;have y2:wr.cell? ⟨g2,p,none⟩=some q:=by have:=A3 0 q (by rw[h0];rfl);rw[NR,MQ]at this;exact this
      have HQ:=fV hq;obtain⟨qa,qc,rfl,_⟩:=hq;have m4:(0:Int)<=(p:Int)/\(p:Int)<(Ls.length:Int):=by omega
      have Ha:=LJ hl;have e1:=fV (I.o.ub f0.o l Ha);have X2:=fV (I.o.bnds Y.o f0.o h6.o);have j5:=fV (X2.o l Ha).1;have b0:=fV eL;clear bT F Q eR cF hl hx A3 h0 Ha hJ fz;go_upto_region 13 with fail;refine(Vp Y.o b C (HF.o.below (B:=w.heap.size) ⟨U.o.os,U.o.tape,U.o.output,U.o.size,U.o.block⟩ lR) (HQ.o.below (w':=wr) ⟨rfl,rfl,rfl,lR,λ _ _=>rfl⟩) j5.o e1.o).mono ?_;rintro e w4 ⟨vl,rfl,hM,H6⟩;have cN:Bl wr w4:=⟨hM.os,hM.tape,hM.output,hM.size,hM.block⟩
      have hG:=fV (bS.o.below cN);have O9:=fV (H3.o.keep (w':=w4) (O':=O) cN.size ⟨cN.block rb j0,rfl⟩);have W1:=fV (lZ U.o cN);have m6:=cN.size;have A0:QO (Aw w4 (λ g=>O g=0) vl (lG (jB L) b l)):=H6.mono (λ k hk _=>bS.o.fr k hk);have hW:=fV (Y.o.step_all e1.o (c:=b));have S2:(lG (jB L) b l).length<=10:=Y.o.few (P6 _ _ _) hW.o;have E6:QO (∀x,x∈lG (jB L) b l->x.1<1000/\x.2.length<=1000000/\∀m,m∈x.2->m<L.length):=λ x hx=>by
       obtain⟨k1,k2,k3⟩:=Y.o.bnd (hW.o x hx).ub;have:=Y.o.r8;exact⟨by omega,by omega,λ m hm=>by rw[<-lB];exact(k1 m hm).1⟩
      obtain⟨la,lc,k5,_⟩:=H6;subst k5;have g3:gb<w4.heap.size:=by omega
      clear hM cN bS H3 U c0 y0 y2 HQ;go_upto_region 14 with fail;refine(ES (l:=lG (jB L) b l) g3 hG.o.c0 hG.o.rL A0.o (by omega) (by omega) X2.o (by omega) (λ x hx=>(E6.o x hx).2.1)).mono ?_;rintro e w5 ⟨v5,rfl,hP,S5⟩;have bM:Bl w4 w5:=⟨hP.os,hP.tape,hP.output,hP.size,hP.block⟩
      have hI:=fV (hG.o.below bM);have eX:=fV (O9.o.keep (w':=w5) (O':=O) bM.size ⟨bM.block rb (by omega),rfl⟩);have X:=fV (lZ W1.o bM);have aW:=fV (A0.o.below bM);have m8:=bM.size;have Pl:=fV S5;obtain⟨f5,hJ⟩:=eX.o.a b C;have fz:=eX.o.fz b;have hC:QO (∀t:Int,CR (w5.setCell ⟨rb,b,none⟩ (.int .i64 t)) O w.heap.size rb (Ao To p b t p) (b+1)):=λ t=>eX.o.put C (qM _ _ _ _) (λ j hj=>mP (λ e=>by omega))
      have hD:QO (∀t:Int,GM gb w.heap.size (w5.setCell ⟨rb,b,none⟩ (.int .i64 t)) O vL vO vT Ls Of bF cL cO cT):=λ t=>hI.o.set b3 b _
      have hE:QO (∀t:Int,Bl w (w5.setCell ⟨rb,b,none⟩ (.int .i64 t))):=λ t=>X.o.setCell (p:=⟨rb,b,none⟩) a3 _
      clear hP bM hG O9 W1 A0 S5;by_cases J:lG (jB L) b l=[]
      ·have hY:QO (Ap (jB L) Ls l b (-1)):= .inl ⟨J,rfl⟩;have e0:(lG (jB L) b l).length=0:=by rw[J];rfl
       rw[e0];clear J e0 S2 E6 hW Pl aW;go_wp2;go_roundw
       case rel=>exact⟨b+1,Ls,Of,Ao To p b (-1),O,vL,vO,vT,cL,cO,cT,by go_num,by omega,H0,I.o.old C HL.o hY.o,hD.o _,hC.o _,cP.o.upd _,hE.o _⟩
       case measure=>simp[QN];omega
      ·have i4:0<(lG (jB L) b l).length:=by
        rcases Nat.eq_zero_or_pos (lG (jB L) b l).length with e|e
        ·exact absurd (NU.1 e) J
        ·exact e
       have k9:=fV J;have d0:((((lG (jB L) b l).length:Nat):Int)==0)=false:=by rw[aC];omega
       rcases Pl.o with⟨rfl,c7⟩|⟨i,l',rfl,H2,h4,g1⟩
       ·have i3:QO (∀(i:Nat)(l':List jL),0<i->Ls[i]?=some l'->¬ ∀x,x∈l'↔x∈lG (jB L) b l):=λ i l' h1 h2 h3=>by
         have:=(Do (I.o.ok i l' h1 h2).2.1 (P6 (jB L) b l)).2 h3;rw[c7 i l' h1 h2]at this
         cases this
        have b5:=aW;have c5:=hI.o.c0;have k0:=b0.o;subst k0;clear b0 c7;have e9:=fV (I.o.new C HL.o J hW.o i3.o);have h8:QO ((lG (jB L) b l).length<=1000000):=by unfold QO;omega
        have l3:gb<w5.heap.size:=by omega
        obtain⟨ns,Go⟩:=xE ((lG (jB L) b l).length)
        rw[Go]at i4 d0 S2 aW ⊢;obtain⟨rr,g6⟩:=xE (pT (jB L) (lG (jB L) b l))
        have d4:=fV g6;have l1:=fV Go;clear J g6 Go hJ fz hC hD hE;go_upto_region 17 with fail;refine(Kj (fb:=fb) (gN:=gN) (aJ:=aJ) Y.o.sh Y.o.cl (by have:=Y.o.n3;rw[lB]at this;omega) (HF.o.below (B:=w.heap.size) ⟨X.o.os,X.o.tape,X.o.output,X.o.size,X.o.block⟩ lR) (aW.o.below (w':=w5) ⟨rfl,rfl,rfl,lR,λ _ _=>rfl⟩) h8.o E6.o).mono ?_;rintro e w6 ⟨rfl,hN⟩;have bK:Bl w5 w6:=⟨hN.os,hN.tape,hN.output,hN.size,hN.block⟩
        have aR:=fV (hI.o.below bK);have H4:=fV (eX.o.keep (w':=w6) (O':=O) bK.size ⟨bK.block rb (by omega),rfl⟩);have sR:=fV (lZ X.o bK);have O6:=fV (aW.o.below bK);have m3:=bK.size;have c6:=aR.o.c0;have f6:=aR.o.fz 0;have k7:=sR.o.size;have O0:gb<w6.heap.size:=by omega
        have hT:=fV aR.o.rL.1;have a2:=fV aR.o.tL;have hB:=fV aR.o.wt.1;have T3:QO (At w6 (λ g=>O g=0) [.slice la ns lc] (lG (jB L) b l)):=⟨_,rfl,O6.o⟩
        rw[d4.o];clear hN bK hI eX X aW b5 O6 c5;go_upto_region 18 with(first|(at_builtin;refine gB w6 rfl (.tmp 85) (.tmp 87) 131 rfl w.heap.size 145 (.slice none 0 0) 1 24 underlying131 eF rfl (by decide) (by decide) (.slice (some ⟨g2,0,none⟩) Ls.length e7) Ls.length cL.flatten [.slice la ns lc] _ rfl hT.o _ rfl rfl rfl (by simp[LR]) (by omega) (by omega) ?_;intro g7 hH w7 sW Z M2 d1;have m7:=((gH Z (k:=gb) O0 (λ e=>by have:=a2.o gb e.symm;have:=hB.o;omega)).1 0).trans c6;have n7:=((gH Z (k:=gb) O0 (λ e=>by have:=a2.o gb e.symm;have:=hB.o;omega)).2 0).trans f6;have f4:=fV sW;have f1:=fV Z;have b4:=fV M2;clear sW Z M2))
        obtain⟨H5,L1,k4,W3⟩:=aR.o.pushL rfl T3.o rfl f4.o f1.o b4.o;have V:=fV H5;have b6:=L1 rb (by omega) (by omega) (by omega);have hQ:=fV (W3 w sR.o);have i2:(w7.setCell ⟨gb,0,none⟩ (.slice (some ⟨g7,0,none⟩) (Ls.length+1) hH)).heap.size=w7.heap.size:=by simp[MB]
        have g5:w6.heap.size<=(w7.setCell ⟨gb,0,none⟩ (.slice (some ⟨g7,0,none⟩) (Ls.length+1) hH)).heap.size:=by omega
        have hK:QO (CR (w7.setCell ⟨gb,0,none⟩ (.slice (some ⟨g7,0,none⟩) (Ls.length+1) hH)) (λ k=>if k=g7 then 2 else O k) w.heap.size rb (To p) b):=H4.o.keep g5 b6;clear H5 L1 k4 W3 b6 i2 m7 n7 d1 f4 f1 b4 T3 hT a2 aR H4 sR c6 f6 hB;generalize hW8:w7.setCell ⟨gb,0,none⟩ (.slice (some ⟨g7,0,none⟩) (Ls.length+1) hH)=W8 at*;generalize hO8:(λ k=>if k=g7 then 2 else O k)=O8 at*;clear hW8 hO8;have c8:=V.o.c1;have f8:=V.o.fz 1;obtain⟨aO,qO,eO⟩:=gA V.o.rO.1;subst eO;have O3:gb<W8.heap.size:=by omega
        have l2:=hQ.o.size;have W5:=fV V.o.rO.1;have nN:=fV V.o.tO;have lH:=fV V.o.wt.1;have f9:=hK.o.wt.2.1;have k6:=hK.o.wt.1;have l9:Of.length<=2000:=by have:=I.o.len;omega
        go_upto_region 19 with(first|(at_builtin;refine gB W8 rfl (.tmp 95) (.tmp 97) 59 rfl w.heap.size 3 (.int .i64 0) 1 8 MO bX rfl (by decide) (by decide) (.slice aO Of.length qO) Of.length cO.flatten [.int .i64 rr] _ rfl W5.o _ rfl rfl rfl (by simp[LR]) (by omega) (by omega) ?_;intro g9 gL w9 bN D eS A1;have m9:=((gH D (k:=gb) O3 (λ e=>by have:=nN.o gb e.symm;have:=lH.o;omega)).1 1).trans c8;have n9:=((gH D (k:=gb) O3 (λ e=>by have:=nN.o gb e.symm;have:=lH.o;omega)).2 1).trans f8;have hU:=fV bN;have qR:=fV D;have hV:=fV eS;clear bN D eS))
        obtain⟨bC,iN,e4,bO⟩:=V.o.pushO (x:=rr) rfl (show zC _ _ [.int .i64 rr] rr from rfl) rfl hU.o qR.o hV.o;have hA:=fV bC;have O7:=iN rb f9 (by omega) (by omega);have hF:=fV (bO w hQ.o);have W7:(w9.setCell ⟨gb,1,none⟩ (.slice (some ⟨g9,0,none⟩) (Of.length+1) gL)).heap.size=w9.heap.size:=by simp[MB]
        have eN:QO (CR (w9.setCell ⟨gb,1,none⟩ (.slice (some ⟨g9,0,none⟩) (Of.length+1) gL)) (λ k=>if k=g9 then 3 else O8 k) w.heap.size rb (To p) b):=hK.o.keep (by omega) O7;clear bC iN e4 bO O7 W7 m9 n9 A1 hU qR hV W5 nN V hK hQ c8 f8 lH;generalize hW10:w9.setCell ⟨gb,1,none⟩ (.slice (some ⟨g9,0,none⟩) (Of.length+1) gL)=W10 at*;generalize hO10:(λ k=>if k=g9 then 3 else O8 k)=O10 at*;clear hW10 hO10;obtain⟨f5,hJ⟩:=eN.o.a b C;have fz:=eN.o.fz b;have W9:=eN.o.wt.1;have hC:QO (CR (W10.setCell ⟨rb,b,none⟩ (.int .i64 (Ls.length:Int))) O10 w.heap.size rb (Ao To p b (Ls.length:Int) p) (b+1)):=eN.o.put C (qM _ _ _ _) (λ j hj=>mP (λ e=>by omega));have hD:=fV (hA.o.set W9 b (.int .i64 (Ls.length:Int)));have hE:QO (Bl w (W10.setCell ⟨rb,b,none⟩ (.int .i64 (Ls.length:Int)))):=hF.o.setCell (p:=⟨rb,b,none⟩) a3 _;have a5:=e9.o;rw[d4.o]at a5;have d2:=fV a5;clear a5;go_wp2;go_roundw
        case rel=>exact⟨b+1,_,_,Ao To p b (Ls.length:Int),O10,_,_,vT,_,_,cT,by go_num,by omega,by rw[LH,LK];omega,d2.o,hD.o,hC.o,cP.o.upd _,hE.o⟩
        case measure=>simp[QN];omega
       ·have hY:=fV (I.o.found J H2 h4 g1);generalize (lG (jB L) b l).length=ns at*;clear J E6 hW Pl aW h4 g1 X2;go_wp2;go_roundw
        case rel=>exact⟨b+1,Ls,Of,Ao To p b (i:Int),O,vL,vO,vT,cL,cO,cT,by go_num,by omega,H0,I.o.old C HL.o hY.o,hD.o _,hC.o _,cP.o.upd _,hE.o _⟩
        case measure=>simp[QN];omega
    ·have eb:b=256:=by omega
     subst eb;have e3:decide ((256:Int)<(256:Int))=false:=by decide
     obtain⟨f3,g8⟩:=F.done Q;have e6:=fV f3;have c9:=fV g8;have c2:=F.c2;have f2:=F.fz 2;obtain⟨aT,qT,eT⟩:=gA F.rT.1;subst eT;have hT:=fV F.rT.1;have a6:=fV F.tT;have hB:=fV F.wt.1;have n5:bF.length<=2000:=by have:=eR.1;omega
     clear bT F Q eR cF f3 g8 bS H3;go_upto_region 5 with(first|(at_builtin;refine gB wr rfl (.tmp 112) (.tmp 114) 66 rfl w.heap.size 59 (.slice none 0 0) 1 24 MZ cI rfl (by decide) (by decide) (.slice aT bF.length qT) bF.length cT.flatten [.slice (some ⟨rb,0,none⟩) 256 256] _ rfl hT.o _ rfl rfl rfl (by simp[LR]) (by omega) (by omega) ?_;intro g9 gL w9 bN D eS A1;have m9:=((gH D (k:=gb) B1 (λ e=>by have:=a6.o gb e.symm;have:=hB.o;omega)).1 2).trans c2;have n9:=((gH D (k:=gb) B1 (λ e=>by have:=a6.o gb e.symm;have:=hB.o;omega)).2 2).trans f2;have hU:=fV bN;have qR:=fV D;have hV:=fV eS;clear bN D eS))
     obtain⟨bC,_,_,bO⟩:=e6.o.pushT rfl c9.o rfl hU.o qR.o hV.o;have hA:=fV bC;have hF:=fV (bO w U.o);have i5:=fV I.o.aG;have h7:=fV cP.o.snoc;clear bC bO m9 n9 A1 hU qR hV hT a6 e6 c9 c2 f2 hB;generalize w9.setCell ⟨gb,2,none⟩ (.slice (some ⟨g9,0,none⟩) (bF.length+1) gL)=W10 at*;go_wp2;go_roundw
     case rel=>exact⟨p+1,Ls,Of,To,_,vL,vO,_,_,cL,cO,_,by go_num,by omega,i5.o,hA.o,h7.o,hF.o⟩
     case measure=>simp[QN];omega
  ·have X1:p=nL:=by omega
   have b1:=dF p nL (by omega)
   have i1:QO (GI (jB L) aQ l0 Ls Of To Ls.length 0):=by
    unfold QO;rw[B2.o,<-X1];exact I.o
   have j3:QO (uB bF To Ls.length):=by
    unfold QO;rw[B2.o,<-X1];exact cP.o
   clear X1;go_wp2;go_ret;exact⟨gb,Ls,Of,To,rfl,U.o,i1.o,O,vL,vO,vT,bF,cL,cO,cT,bS.o,j3.o⟩
section
section
variable {n:Nat}{mk:Nat->Nat}{To:Nat->Nat->Int}{al:Nat->Bool}{d:Nat->Nat->Bool}
def K7(mk:Nat->Nat)(To:Nat->Nat->Int)(p:Nat):Prop:=∃z,lF 256 z/\jM mk To p z≠0
theorem Rr(D:b<256)(h:To p b≠ -1)(F:K7 mk To (To p b).toNat):K7 mk To p:=by
 obtain⟨z,o,C⟩:=F;exact⟨b::z,pL D o,by rw[iT h];exact C⟩
theorem CV(h:mk p≠0):K7 mk To p:=⟨[],wK _,h⟩
structure As(n:Nat)(mk:Nat->Nat)(To:Nat->Nat->Int)(al:Nat->Bool):Prop where
 sd:∀p,p<n->al p=true->K7 mk To p
 mo:∀p,p<n->mk p≠0->al p=true
 st:∀p b,p<n->b<256->To p b≠ -1->al (To p b).toNat=true->al p=true
theorem As.iff(Q:oT n 256 To)(h:As n mk To al){p:Nat}(C:p<n):al p=true↔K7 mk To p:=by
 refine⟨h.sd p C,?_⟩;rintro⟨z,D,o⟩;have I:∀(z:List Nat)(p:Nat),p<n->lF 256 z->jM mk To p z≠0->al p=true:=by
  intro z
  induction z with
  | nil=>intro p C _ o;exact h.mo p C o
  | cons b z ih=>
   intro p C D o;have F:=D b MU;by_cases e:To p b= -1
   ·rw[lS e]at o;exact absurd rfl o
   ·rw[iT e]at o;have U:=Q.rng p b C F;exact h.st p b C F e (ih _ (by omega) (λ c J=>D c (MW _ J)) o)
 exact I z p C D o
def mM(al:Nat->Bool)(t:Int):Bool:=decide (0<=t)&&al t.toNat
theorem Gy:mM al t=true↔0<=t/\al t.toNat=true:=by unfold mM;rw[Bool.and_eq_true,aE]
def qU(mk:Nat->Nat)(To:Nat->Nat->Int)(i j:Nat):Prop:=∃z,lF 256 z/\jM mk To i z≠jM mk To j z
theorem qU.symm(h:qU mk To i j):qU mk To j i:=by
 obtain⟨z,o,C⟩:=h;exact⟨z,o,λ e=>C e.symm⟩
theorem yR(h:¬qU mk To i j)(z:List Nat)(C:lF 256 z):jM mk To i z=jM mk To j z:=MC λ o=>h ⟨z,C,o⟩
def oK(al:Nat->Bool)(d:Nat->Nat->Bool)(To:Nat->Nat->Int)(i j b:Nat):Bool:=
 (mM al (To i b) !=mM al (To j b))||(mM al (To i b)&&mM al (To j b)&&d (To i b).toNat (To j b).toNat)
theorem yG(D:oT n 256 To)(h:As n mk To al){p b:Nat}(I:p<n)(J:b<256)(F:mM al (To p b)=false)(z:List Nat)(Q:lF 256 z):jM mk To p (b::z)=0:=by
 by_cases e:To p b= -1
 ·rw[lS e]
 ·rw[iT e];have U:=D.rng p b I J;apply MC;intro o;have:al (To p b).toNat=true:=(h.iff D (by omega)).2 ⟨z,Q,o⟩;have C:mM al (To p b)=true:=Gy.2 ⟨by omega,this⟩;rw[F]at C;cases C
theorem oR(I:oT n 256 To){p b:Nat}(C:p<n)(F:b<256)(o:mM al (To p b)=true):(To p b).toNat<n/\To p b≠ -1/\To p b=(((To p b).toNat:Nat):Int)/\al (To p b).toNat=true:=by
 obtain⟨Q,D⟩:=Gy.1 o;have J:=I.rng p b C F;exact⟨by omega,by omega,by omega,D⟩
theorem Rm(I:oT n 256 To)(h:As n mk To al){i j b:Nat}(hi:i<n)(Q:j<n)(C:b<256)(Y:∀s t,s<n->t<n->d s t=true->qU mk To s t)(F:oK al d To i j b=true):qU mk To i j:=by
 unfold oK at F
 cases e1:mM al (To i b)with
 | true=>
  obtain⟨U,V,_,Z⟩:=oR I hi C e1
  cases e2:mM al (To j b)with
  | true=>
   obtain⟨m1,m2,_,X⟩:=oR I Q C e2;rw[e1,e2]at F;have J:d (To i b).toNat (To j b).toNat=true:=by simpa using F
   obtain⟨z,D,o⟩:=Y _ _ U m1 J;exact⟨b::z,pL C D,by rw[iT V,iT m2];exact o⟩
  | false=>
   obtain⟨z,D,o⟩:=h.sd _ U Z;exact⟨b::z,pL C D,by rw[iT V,yG I h Q C e2 z D];exact o⟩
 | false=>
  cases e2:mM al (To j b)with
  | true=>
   obtain⟨m1,m2,_,X⟩:=oR I Q C e2;obtain⟨z,D,o⟩:=h.sd _ m1 X;exact⟨b::z,pL C D,by rw[iT m2,yG I h hi C e1 z D];exact λ e=>o e.symm⟩
  | false=>rw[e1,e2]at F;cases F
structure Ag(n:Nat)(mk:Nat->Nat)(To:Nat->Nat->Int)(al:Nat->Bool)(d:Nat->Nat->Bool):Prop where
 sd:∀i j,i<n->j<n->d i j=true->qU mk To i j
 mo:∀i j,i<n->j<n->d i j=false->mk i=mk j
 st:∀i j,i<n->j<n->d i j=false->∀b,b<256->oK al d To i j b=false
theorem Ag.iff(J:oT n 256 To)(V:As n mk To al)(h:Ag n mk To al d){i j:Nat}(hi:i<n)(o:j<n):d i j=true↔qU mk To i j:=by
 refine⟨h.sd i j hi o,?_⟩;rintro⟨z,I,U⟩;have X:∀(z:List Nat)(i j:Nat),i<n->j<n->lF 256 z->d i j=false->jM mk To i z=jM mk To j z:=by
  intro z
  induction z with
  | nil=>intro i j hi o _ Q;exact h.mo i j hi o Q
  | cons b z ih=>
   intro i j hi o I Q;have F:=I b MU;have D:lF 256 z:=λ c hc=>I c (MW _ hc)
   have C:=h.st i j hi o Q b F;unfold oK at C
   cases e1:mM al (To i b)with
   | true=>
    cases e2:mM al (To j b)with
    | true=>
     obtain⟨Y,Z,_,_⟩:=oR J hi F e1;obtain⟨m1,m2,_,_⟩:=oR J o F e2;rw[e1,e2]at C;rw[iT Z,iT m2];exact ih _ _ Y m1 D (by simpa using C)
    | false=>rw[e1,e2]at C;cases C
   | false=>
    cases e2:mM al (To j b)with
    | true=>rw[e1,e2]at C;cases C
    | false=>rw[yG J V hi F e1 z D,yG J V o F e2 z D]
 cases e:d i j with
 | true=>rfl
 | false=>exact absurd (X z i j hi o I e) U
structure TI(al:Nat->Bool)(d:Nat->Nat->Bool)(m:Nat)(bI:Nat->Int)(first:List Nat):Prop where
 fi:∀(s f:Nat),first[s]?=some f->f<m/\(f=0\/al f=true)/\bI f=(s:Int)
 mono:∀(s s' f f':Nat),s<s'->first[s]?=some f->first[s']?=some f'->f<f'/\d f f'=true
 dead:∀p,p<m->0<p->al p=false->bI p= -1
 live:∀p,p<m->(p=0\/al p=true)->∃s f:Nat,bI p=(s:Int)/\first[s]?=some f/\d f p=false/\f<=p
 z:0<m->first[0]?=some 0
theorem TI.start(al:Nat->Bool)(d:Nat->Nat->Bool)(bI:Nat->Int):TI al d 0 bI []:=⟨λ s f h=>by simp at h,λ s o f f' _ h=>by simp at h,λ p h=>by omega,λ p h=>by omega,λ h=>by omega⟩
def Bj(bI:Nat->Int)(m:Nat)(t:Int):Nat->Int:=λ p=>if p=m then t else bI p
section
variable {m:Nat}{bI:Nat->Int}{first:List Nat}
theorem tG(bI:Nat->Int)(m:Nat)(t:Int):Bj bI m t m=t:=aB rfl
theorem oO(h:p≠m):Bj bI m t p=bI p:=aA h
theorem TI.skip(h:TI al d m bI first)(J:0<m)(C:al m=false):TI al d (m+1) (Bj bI m (-1)) first:=by
 refine⟨λ s f I=>?_,h.mono,λ p D o F=>?_,λ p D o=>?_,λ _=>h.z J⟩
 ·obtain⟨a,b,c⟩:=h.fi s f I;exact⟨by omega,b,by rw[oO (by omega)];exact c⟩
 ·by_cases e:p=m
  ·rw[e,tG]
  ·rw[oO e];exact h.dead p (by omega) o F
 ·by_cases e:p=m
  ·rw[e]at o;rcases o with o|o
   ·omega
   ·rw[C]at o;cases o
  ·obtain⟨s,f,a,b,c,Q⟩:=h.live p (by omega) o;exact⟨s,f,by rw[oO e];exact a,b,c,Q⟩
theorem TI.old(h:TI al d m bI first)(J:0<m)(U:al m=true){s f:Nat}(o:first[s]?=some f)(F:d f m=false):TI al d (m+1) (Bj bI m (s:Int)) first:=by
 have Q:=(h.fi s f o).1;refine⟨λ s f o=>?_,h.mono,λ p I C D=>?_,λ p I C=>?_,λ _=>h.z J⟩
 ·obtain⟨a,b,c⟩:=h.fi s f o;exact⟨by omega,b,by rw[oO (by omega)];exact c⟩
 ·by_cases e:p=m
  ·rw[e,U]at D;cases D
  ·rw[oO e];exact h.dead p (by omega) C D
 ·by_cases e:p=m
  ·rw[e];exact⟨s,f,tG _ _ _,o,F,by omega⟩
  ·obtain⟨s,f,a,b,c,V⟩:=h.live p (by omega) C;exact⟨s,f,by rw[oO e];exact a,b,c,V⟩
theorem TI.new(h:TI al d m bI first)(F:m=0\/al m=true)(hr:d m m=false)(U:∀(s f:Nat),first[s]?=some f->d f m=true):TI al d (m+1) (Bj bI m (first.length:Int)) (first++[m]):=by
 have o:∀(s f:Nat),(first++[m])[s]?=some f->first[s]?=some f\/(s=first.length/\f=m):=λ s f hi=>by
  by_cases V:s<first.length
  ·rw[LI V]at hi;exact .inl hi
  ·have:=(LD.1 hi).1;rw[LH,LK]at this;have e:s=first.length:=by omega
   subst e;rw[LP lR,NB]at hi;exact .inr ⟨rfl,by simpa using hi.symm⟩
 have C:(first++[m])[first.length]?=some m:=by rw[LP lR,NB];rfl
 refine⟨λ s f Y=>?_,λ s s' f f' X Y D=>?_,λ p hp I J=>?_,λ p hp I=>?_,λ _=>?_⟩
 ·rcases o s f Y with k|⟨k1,Z⟩
  ·obtain⟨a,b,c⟩:=h.fi s f k;exact⟨by omega,b,by rw[oO (by omega)];exact c⟩
  ·rw[k1,Z];exact⟨by omega,F,tG _ _ _⟩
 ·have aL:=(LD.1 D).1;rw[LH,LK]at aL;have k:=(o s f Y).resolve_right (λ e=>by omega);rcases o s' f' D with k'|⟨k1,Z⟩
  ·exact h.mono s s' f f' X k k'
  ·rw[Z];exact⟨(h.fi s f k).1,U s f k⟩
 ·by_cases e:p=m
  ·rw[e]at I J;rcases F with F|F
   ·omega
   ·rw[F]at J;cases J
  ·rw[oO e];exact h.dead p (by omega) I J
 ·by_cases e:p=m
  ·rw[e];exact⟨first.length,m,tG _ _ _,C,hr,lR⟩
  ·obtain⟨s,f,a,b,c,Q⟩:=h.live p (by omega) I;exact⟨s,f,by rw[oO e];exact a,by rw[LI (LD.1 b).1];exact b,c,Q⟩
 ·by_cases e:0<m
  ·have hz:=h.z e;rw[LI (LD.1 hz).1];exact hz
  ·have em:m=0:=by omega
   have Q:first=[]:=by
    cases hfi:first with
    | nil=>rfl
    | cons a l=>
     have:=(h.fi 0 a (by rw[hfi];rfl)).1;omega
   rw[Q,em];rfl
end
def JK(mk:Nat->Nat)(first:List Nat)(s:Nat):Nat:=mk (first.getD s 0)
def qY(To:Nat->Nat->Int)(al:Nat->Bool)(bI:Nat->Int)(first:List Nat)(s b:Nat):Int:=if mM al (To (first.getD s 0) b)=true then bI (To (first.getD s 0) b).toNat else -1
section
variable {bI:Nat->Int}{first:List Nat}
theorem vG{f:Nat}(h:first[s]?=some f):first.getD s 0=f:=by rw[LN,h];rfl
theorem TI.obs(ha:oT n 256 To)(hl:As n mk To al)(hp:Ag n mk To al d)(h:TI al d n bI first):∀(z:List Nat)(p s:Nat),p<n->(p=0\/al p=true)->bI p=(s:Int)->lF 256 z->jM (JK mk first) (qY To al bI first) s z=jM mk To p z:=by
 intro z
 induction z with
 | nil=>
  intro p s o Q hs J;obtain⟨C,f,h1,I,X,_⟩:=h.live p o Q;have e:C=s:=by omega
  subst e;show mk (first.getD C 0)=mk p;rw[vG I];exact hp.mo f p (h.fi C f I).1 o X
 | cons b z ih=>
  intro p s o Q hs J;have hb:=J b MU;have F:lF 256 z:=λ c hc=>J c (MW _ hc)
  obtain⟨C,f,h1,I,X,_⟩:=h.live p o Q;have e:C=s:=by omega
  subst e;have Y:=(h.fi C f I).1;have U:jM mk To f (b::z)=jM mk To p (b::z):=yR (λ V=>by have:=(hp.iff ha hl Y o).2 V;rw[X]at this;cases this) _ J;rw[<-U];have D:qY To al bI first C b=if mM al (To f b)=true then bI (To f b).toNat else -1:=by unfold qY;rw[vG I]
  cases e1:mM al (To f b)with
  | false=>
   rw[e1,aA (by decide)]at D;rw[lS D,yG ha hl Y hb e1 z F]
  | true=>
   rw[e1,aB rfl]at D;obtain⟨k1,k2,_,k3⟩:=oR ha Y hb e1;obtain⟨s2,f2,m1,m2,_,_⟩:=h.live _ k1 (.inr k3);have Z:qY To al bI first C b≠ -1:=by rw[D,m1];omega
   rw[iT Z,iT k2,D,m1,MF];exact ih _ s2 k1 (.inr k3) m1 F
theorem TI.alike(V:oT n 256 To)(Q:As n mk To al)(J:Ag n mk To al d)(h:TI al d n bI first){p q:Nat}(I:p<n)(F:q<n)(h1:p=0\/al p=true)(h2:q=0\/al q=true)(Z:¬qU mk To p q):bI p=bI q:=by
 obtain⟨s,f,a1,Y,a3,_⟩:=h.live p I h1;obtain⟨U,f',b1,b2,b3,_⟩:=h.live q F h2;have hf:=(h.fi s f Y).1;have o:=(h.fi U f' b2).1;have aL:¬qU mk To f p:=λ C=>by have:=(J.iff V Q hf I).2 C;rw[a3]at this;cases this
 have aO:¬qU mk To f' q:=λ C=>by have:=(J.iff V Q o F).2 C;rw[b3]at this;cases this
 have D:¬qU mk To f f':=by
  rintro⟨z,X,aR⟩;exact aR (((yR aL z X).trans (yR Z z X)).trans (yR aO z X).symm)
 rcases NQ s U with e|e|e
 ·exact absurd ((J.iff V Q hf o).1 (h.mono s U f f' e Y b2).2) D
 ·omega
 ·exact absurd ((J.iff V Q o hf).1 (h.mono U s f' f e b2 Y).2).symm D
theorem TI.canon(Y:oT n 256 To)(ho:Gg n 256 To)(hl:As n mk To al)(hp:Ag n mk To al d)(h:TI al d n bI first):uF first.length 256 (JK mk first) (qY To al bI first):=by
 have hz:=h.z Y.pos;have eR:=(LD.1 hz).1;have aL:∀p,p<n->(p=0\/al p=true)->∃s f:Nat,bI p=(s:Int)/\s<first.length/\first[s]?=some f/\f<=p/\f<n/\¬qU mk To f p:=λ p aW hq=>by
  obtain⟨s,f,a1,a2,a3,a4⟩:=h.live p aW hq;have hf:=(h.fi s f a2).1;exact⟨s,f,a1,(LD.1 a2).1,a2,a4,hf,λ hB=>by have:=(hp.iff Y hl hf aW).2 hB;rw[a3]at this;cases this⟩
 have U:∀s,s<first.length->∃f,first[s]?=some f/\f<n/\(f=0\/al f=true)/\bI f=(s:Int):=λ s hs=>by
  have e:=LC hs;obtain⟨a,b,c⟩:=h.fi s _ e;exact⟨_,e,a,b,c⟩
 have X:∀s C f f',first[s]?=some f->first[C]?=some f'->(f<f'->s<C)/\(f<=f'->s<=C)/\(s<=C->f<=f'):=λ s C f f' F e2=>by
  rcases NQ s C with k|k|k
  ·have:=(h.mono s C f f' k F e2).1;omega
  ·subst k;rw[F]at e2;injection e2 with e2;omega
  ·have:=(h.mono C s f' f k e2 F).1;omega
 have aR:∀p b q:Nat,p<n->b<256->(p=0\/al p=true)->To p b=(q:Int)->al q=true->∀s:Nat,bI p=(s:Int)->qY To al bI first s b=bI q:=λ p b q aW hb hq Q eL s hs=>by
  obtain⟨C,f,a1,a2,a3,a4,a5,a6⟩:=aL p aW hq;have e:C=s:=by omega
  subst e;have cF:q<n:=by have:=Y.rng p b aW hb;omega
  have aT:To p b≠ -1:=by omega
  have bC:∀z,lF 256 z->jM mk To f (b::z)=jM mk To q z:=λ z o=>by
   rw[yR a6 _ (pL hb o),iT aT,Q,MF]
  obtain⟨z,o,aO⟩:=hl.sd q cF eL;have F:mM al (To f b)=true:=by
   cases F:mM al (To f b)with
   | true=>rfl
   | false=>
    have:=yG Y hl a5 hb F z o;rw[bC z o]at this;exact absurd this aO
  obtain⟨k1,k2,_,k3⟩:=oR Y a5 hb F;unfold qY;rw[vG a3,aB F];refine h.alike Y hl hp k1 cF (.inr k3) (.inr eL) ?_;rintro⟨z,o,cN⟩;apply cN;rw[<-bC z o,iT k2]
 have eT:oT first.length 256 (qY To al bI first):=⟨eR,λ s b hs hb=>by
  obtain⟨f,e,hf,_,_⟩:=U s hs;unfold qY;rw[vG e]
  cases F:mM al (To f b)with
  | false=>exact .inl (aA (by decide))
  | true=>
   obtain⟨k1,_,_,k3⟩:=oR Y hf hb F;obtain⟨C,_,a1,a2,_⟩:=aL _ k1 (.inr k3);rw[aB rfl,a1];exact .inr ⟨by omega,by omega⟩⟩
 refine⟨eT,⟨λ s b q hs hb bN hE=>?_,λ q bN hq=>?_⟩,λ s b hs hb aT=>?_,λ s C hs gL aT=>?_⟩
 ·obtain⟨f,e,hf,_,_⟩:=U s hs;have ht:qY To al bI first s b=if mM al (To f b)=true then bI (To f b).toNat else -1:=by unfold qY;rw[vG e]
  cases F:mM al (To f b)with
  | false=>
   rw[F,aA (by decide)]at ht;omega
  | true=>
   rw[F,aB rfl]at ht;obtain⟨k1,k2,k4,k3⟩:=oR Y hf hb F;obtain⟨s2,f2,a1,a2,a3,a4,a5,_⟩:=aL _ k1 (.inr k3);have eN:q<first.length:=by omega
   obtain⟨fq,eq,bS,bO,bK⟩:=U q eN;have bT:=(h.mono 0 q 0 fq bN hz eq).1;have hD:=(X q s2 fq f2 eq a3).2.2 (by omega);obtain⟨Z,b',V,eM,Q⟩:=ho.d1 f b fq hf hb (by omega) (by omega);have D:Z<n:=by omega
   have I:al fq=true:=bO.resolve_left (by omega);have J:Z=0\/al Z=true:= .inr (hl.st Z b' D V (by omega) (by rw[Q,MF];exact I));obtain⟨C,f',c1,c2,c3,c4,c5,_⟩:=aL Z D J;have eX:=aR Z b' fq D V J Q I C c1;refine⟨C,b',V,?_,by rw[eX];exact bK⟩;rcases eM with k|⟨k,kb⟩
   ·exact .inl ((X C s f' f c3 e).1 (by omega))
   ·rw[k]at c1;have:=(h.fi s f e).2.2;exact .inr ⟨by omega,kb⟩
 ·obtain⟨fq,eq,bS,bO,bK⟩:=U q hq;have bT:=(h.mono 0 q 0 fq bN hz eq).1;have I:al fq=true:=bO.resolve_left (by omega);obtain⟨Z,b',hC,V,Q⟩:=ho.d2 fq bT bS;have D:Z<n:=by omega
  have J:Z=0\/al Z=true:= .inr (hl.st Z b' D V (by omega) (by rw[Q,MF];exact I));obtain⟨C,f',c1,c2,c3,c4,c5,_⟩:=aL Z D J;exact⟨C,b',(X C q f' fq c3 eq).1 (by omega),V,by rw[aR Z b' fq D V J Q I C c1];exact bK⟩
 ·obtain⟨f,e,hf,_,_⟩:=U s hs;have ht:qY To al bI first s b=if mM al (To f b)=true then bI (To f b).toNat else -1:=by unfold qY;rw[vG e]
  cases F:mM al (To f b)with
  | false=>
   rw[F,aA (by decide)]at ht;exact absurd ht aT
  | true=>
   rw[F,aB rfl]at ht;obtain⟨k1,k2,k4,k3⟩:=oR Y hf hb F;obtain⟨s2,f2,a1,_⟩:=aL _ k1 (.inr k3);obtain⟨z,o,aO⟩:=hl.sd _ k1 k3;refine⟨z,o,?_⟩;rw[ht,a1,MF,h.obs Y hl hp z _ s2 k1 (.inr k3) a1 o];exact aO
 ·obtain⟨f,e,hf,hq,eO⟩:=U s hs;obtain⟨f',e',bM,eS,cP⟩:=U C gL;have hA:qU mk To f f':=by
   rcases Nat.lt_or_gt_of_ne aT with k|k
   ·exact(hp.iff Y hl hf bM).1 (h.mono s C f f' k e e').2
   ·exact((hp.iff Y hl bM hf).1 (h.mono C s f' f k e' e).2).symm
  obtain⟨z,o,aO⟩:=hA;exact⟨z,o,by rw[h.obs Y hl hp z f s hf hq eO o,h.obs Y hl hp z f' C bM eS cP o];exact aO⟩
theorem TI.obs0(o:oT n 256 To)(F:As n mk To al)(C:Ag n mk To al d)(h:TI al d n bI first)(z:List Nat)(D:lF 256 z):jM (JK mk first) (qY To al bI first) 0 z=jM mk To 0 z:=
 h.obs o F C z 0 0 o.pos (.inl rfl) ((h.fi 0 0 (h.z o.pos)).2.2) D
end
end
end
structure GV(gb:Nat)(w:tW)(n gO qO gT qT:Nat)(rw:Nat->Nat)(of:Nat->Int)(To:Nat->Nat->Int):Prop where
 c1:w.cell? ⟨gb,1,none⟩=some (.slice (some ⟨gO,0,none⟩) n qO)
 c2:w.cell? ⟨gb,2,none⟩=some (.slice (some ⟨gT,0,none⟩) n qT)
 o:∀i,i<n->w.cell? ⟨gO,i,none⟩=some (.int .i64 (of i))
 t:∀i,i<n->w.cell? ⟨gT,i,none⟩=some (.slice (some ⟨rw i,0,none⟩) 256 256)
 r:∀i b,i<n->b<256->w.cell? ⟨rw i,b,none⟩=some (.int .i64 (To i b))
 b0:gb<w.heap.size
 b1:gO<w.heap.size
 b2:gT<w.heap.size
 b3:∀i,i<n->rw i<w.heap.size
theorem GV.below{w w':tW}{rw:Nat->Nat}{F:Nat->Int}{To:Nat->Nat->Int}(h:GV gb w n gO qO gT qT rw F To)(C:Below B w w')(U:w.heap.size<=B):GV gb w' n gO qO gT qT rw F To:=by
 have V:=C.size;have I:=h.b0;have Q:=h.b1;have J:=h.b2;exact⟨(C.cell (p:=⟨gb,1,none⟩) (by show gb<B;omega)).trans h.c1,(C.cell (p:=⟨gb,2,none⟩) (by show gb<B;omega)).trans h.c2,λ i hi=>(C.cell (p:=⟨gO,i,none⟩) (by show gO<B;omega)).trans (h.o i hi),λ i hi=>(C.cell (p:=⟨gT,i,none⟩) (by show gT<B;omega)).trans (h.t i hi),
  λ i b hi D=>(C.cell (p:=⟨rw i,b,none⟩) (by have:=h.b3 i hi;show rw i<B;omega)).trans (h.r i b hi D),by omega,by omega,by omega,λ i hi=>by have:=h.b3 i hi;omega⟩
theorem Sw{Q:Nat->Nat->Prop}(h:∀i,i<n->∃g,Q i g):∃rw:Nat->Nat,∀i,i<n->Q i (rw i):=
 ⟨λ i=>if hi:i<n then Classical.choose (h i hi)else 0,λ i hi=>by
  simp only[dif_pos hi];exact Classical.choose_spec (h i hi)⟩
theorem If.view{N:List RN}{l0:List jL}{w:tW}{Ls:List (List jL)}{To:Nat->Nat->Int}(h:If N aQ l0 B gb w Ls Of To):∃gO qO gT qT rw,GV gb w Ls.length gO qO gT qT rw (λ i=>Of.getD i 0) To:=by
 obtain⟨J,O,vL,vO,vT,bF,cL,cO,cT,o,U⟩:=h;have hz:0<Ls.length:=(LD.1 J.z).1;have hl:=J.len;have Y:=U.1;obtain⟨gO,qO,_,eO,_,bO,_⟩:=o.rO.at (LC (i:=0) (by omega));obtain⟨gT,qT,_,eT,_,bT,_⟩:=o.rT.at (LC (i:=0) (by omega));have hT:∀i,i<Ls.length->∃g,w.cell? ⟨gT,i,none⟩=some (.slice (some ⟨g,0,none⟩) 256 256)/\g<w.heap.size/\∀b,b<256->w.cell? ⟨g,b,none⟩=some (.int .i64 (To i b)):=λ i hi=>by
  have hg:=LC (l:=bF) (i:=i) (by omega);obtain⟨g2,q2,c,I,_,_,⟨g,Q,_,X,Z⟩,_,C⟩:=o.rT.at hg;rw[eT]at I;injection I with F _ _;injection F with F;injection F with F _;subst F;refine⟨g,?_,X,λ b V=>?_⟩
  ·have:=C 0 _ (by rw[Q];rfl);rw[NR,MQ]at this;exact this
  ·rw[Z b V,U.2 i _ hg b V]
 obtain⟨rw,D⟩:=Sw hT;refine⟨gO,qO,gT,qT,rw,?_,?_,λ i hi=>?_,λ i hi=>(D i hi).1,λ i b hi V=>(D i hi).2.2 b V,o.wt.2.1,bO,bT,λ i hi=>(D i hi).2.1⟩
 ·rw[<-hl,<-eO];exact o.c1
 ·rw[<-Y,<-eT];exact o.c2
 ·have hg:=LC (l:=Of) (i:=i) (by omega);obtain⟨g2,q2,c,I,_,_,Q,_,C⟩:=o.rO.at hg;rw[eO]at I;injection I with F _ _;injection F with F;injection F with F _;subst F;have Q:c=[.int .i64 _]:=Q;have:=C 0 _ (by rw[Q];rfl);rw[NR,MQ]at this;rw[this,LN,hg]
  rfl
def zP(al:Nat->Bool):Nat->Nat
 | 0=>0
 | n+1=>zP al n+(if al n=true then 0 else 1)
theorem tA{al al':Nat->Bool}:∀n,(∀p,p<n->al p=al' p)->zP al n=zP al' n
 | 0,_=>rfl
 | n+1,h=>by unfold zP;rw[tA n (λ p o=>h p (by omega)),h n (by omega)]
theorem Je(al:Nat->Bool):∀n,zP al n<=n
 | 0=>lR
 | n+1=>by have:=Je al n;unfold zP;split<;>omega
theorem Cc{al:Nat->Bool}:∀n,s<n->al s=false->zP (λ i=>if i=s then true else al i) n+1=zP al n
 | 0,h,_=>by omega
 | n+1,h,hs=>by
  unfold zP;by_cases e:s=n
  ·subst e;have:=tA (al:=λ i=>if i=s then true else al i) (al':=al) s (λ p C=>aA (by omega));rw[this,hs];simp
  ·have:=Cc n (by omega) hs;have o:(if n=s then true else al n)=al n:=aA (λ h=>e h.symm);simp only[o];omega
def IU(To:Nat->Nat->Int)(al:Nat->Bool)(p:Nat):Prop:=∀b,b<256->To p b≠ -1->al (To p b).toNat=true->al p=true
structure AI(n:Nat)(mk:Nat->Nat)(To:Nat->Nat->Int)(al:Nat->Bool):Prop where
 sd:∀p,p<n->al p=true->K7 mk To p
 mo:∀p,p<n->mk p≠0->al p=true
theorem AI.put{mk:Nat->Nat}{To:Nat->Nat->Int}{al:Nat->Bool}(h:AI n mk To al){s:Nat}(D:K7 mk To s):AI n mk To (λ i=>if i=s then true else al i):=
 ⟨λ p C o=>by
  by_cases e:p=s
  ·rw[e];exact D
  ·rw[aA e]at o;exact h.sd p C o,λ p C o=>by
  by_cases e:p=s
  ·exact aB e
  ·rw[aA e];exact h.mo p C o⟩
structure A4(n:Nat)(mk:Nat->Nat)(To:Nat->Nat->Int)(al0 al:Nat->Bool)(mb:Bool)(s b:Nat):Prop where
 ai:AI n mk To al
 yes:mb=true->zP al n<zP al0 n
 no:mb=false->(∀p,p<n->al p=al0 p)/\(∀p,p<s->IU To al p)/\∀b',b'<b->To s b'≠ -1->al (To s b').toNat=true->al s=true
def zR(o:Nat->Int)(p:Nat):Nat:=(o p+1).toNat
theorem Sd{rw:Nat->Nat}{Y:Nat->Int}{To:Nat->Nat->Int}{w:tW}(h:GV gb w n gO qO gT qT rw Y To)(hn:n<=2000)(eO:∀i,i<n-> -1<=Y i)(eR:oT n 256 To):
  QW MD 47 #[.pointer (some ⟨gb,0,none⟩)] w λ e w'=>∃al,e=.returned (.slice (some ⟨w.heap.size,0,none⟩) n n)/\LV w w' n al/\As n (zR Y) To al:=by
 obtain⟨i0,hC,eX,eM,eT⟩:=QS cV;have HI:QO (Tryz.prog.info? 4=some i0/\i0.zero=some (.bool false)/\i0.size=1/\i0.bytes=1):=⟨hC,eX,eM,eT⟩
 have HG:=fV h;have k1:=h.c1;have hM:=h.b0;have hI:=fV eO;have hH:=fV eR;clear hC eX eM eT h eO eR;go_enter func47,ntmps47;go_upto_region 2 with(first|(at_make;refine QT w rfl _ _ 80 rfl w.heap.size 4 i0 (.bool false) 1 underlying80 HI.o.1 HI.o.2.1 HI.o.2.2.1 .i64 .i64 _ n n rfl rfl rfl rfl (by rw[HI.o.2.2.2];omega) (by unfold QV;omega) lR ?_;intro w1 bS hg;have gL:QO (LV w w1 n (λ _=>false)):=⟨⟨hg.os,hg.tape,hg.output,hg.size,λ k hk=>hg.block k hk (by simp)⟩,BA.new bS⟩;clear bS hg))
 clear k1;go_wp2_with fail
 go_loopw [4] (λ z wr=>∃(i:Nat)(al:Nat->Bool),i<=n/\z=.int .i64 (i:Int)/\LV w wr n al/\QO (∀p,p<i->al p=(Y p != -1))) (λ z _=>n-(QN z).toNat)
 case atStart=>exact⟨0,_,by omega,rfl,gL.o,fV (λ p hp=>by omega)⟩
 case round=>
  clear gL;obtain⟨i,al,hi,rfl,Z,HA⟩:=hrel;have HL:=fV Z;have I:=HG.o.below Z.bl lR;have hJ:=fV I;by_cases bC:i<n
  ·have c1:=I.c1;have y0:=I.o i bC;have x0:=Z.ba.c i bC;have xf:=Z.ba.f i;have hP:=iI i n (by omega)
   have HS:=fV (Z.set bC (Y i != -1));have hL:QO (∀p,p<i+1->(if p=i then(Y i != -1)else al p)=(Y p != -1)):=λ p hp=>by
    by_cases e:p=i
    ·rw[aB e,e]
    ·rw[aA e];exact HA.o p (by omega)
   generalize al i=ai at*;generalize Y i=oi at*;clear Z I;go_wp2;go_roundw
   case rel=>exact⟨i+1,_,bC,by go_num,HS.o,hL⟩
   case measure=>simp[QN];omega
  ·have ei:i=n:=by omega
   have dl:=dF i n (by omega)
   have bO:QO (AI n (zR Y) To al):=⟨λ p hp he=>CV (by
    rw[HA.o p (by omega),aD]at he;have:=hI.o p hp;unfold zR;omega),λ p hp he=>by
    rw[HA.o p (by omega),aD];intro e;unfold zR at he;rw[e]at he;exact he rfl⟩
   clear Z I HA ei hJ;go_wp2_with fail
   go_loopg [5] (n+1) (λ gj x hG=>∃(mb:Bool)(al:Nat->Bool),x=.bool mb/\LV w hG n al/\AI n (zR Y) To al/\QO (mb=false->∀p,p<n->IU To al p)/\QO (mb=true->zP al n<gj))
   case atStart=>exact⟨true,al,rfl,HL.o,bO.o,fV (λ e=>by cases e),fV (λ _=>by have:=Je al n;omega)⟩
   case round=>
    clear HL bO;obtain⟨mb,Q,rfl,aW,V,cF,cP⟩:=hrel
    cases mb with
    | false=>
     have aT:=fV aW;have hF:QO (As n (zR Y) To Q):=⟨V.sd,V.mo,λ p b hp hb h1 h2=>cF.o rfl p hp b hb h1 h2⟩
     clear aW V cF cP;go_wp2;go_ret;exact⟨Q,rfl,aT.o,hF.o⟩
    | true=>
     have hm:=cP.o rfl;obtain⟨d,rfl⟩:∃d,gk=d+1:=⟨gk-1,by omega⟩
     have aT:=fV aW;have hA:=fV V;clear aW V cF cP;go_wp2_with fail
     go_loopw [5,6] (λ x z hE=>∃(s:Nat)(al:Nat->Bool)(mb:Bool),s<=n/\x=.bool mb/\z=.int .i64 (s:Int)/\LV w hE n al/\A4 n (zR Y) To Q al mb s 0) (λ _ z _=>n-(QN z).toNat)
     case atStart=>exact⟨0,Q,false,by omega,rfl,rfl,aT.o,hA.o,λ e=>(by cases e),λ _=>⟨λ _ _=>rfl,λ p hp=>by omega,λ b' bM=>by omega⟩⟩
     case round=>
      obtain⟨s,bK,bN,hs,rfl,rfl,hB,eN⟩:=hrel;have eL:=fV hB;have aR:=fV eN;clear hB eN aT hA;by_cases aL:s<n
      ·have hN:=iI s n (by omega)
       go_wp2_with fail
       go_loopw [5,7] (λ x z hK=>∃(b:Nat)(al:Nat->Bool)(mb:Bool),b<=256/\x=.bool mb/\z=.int .i64 (b:Int)/\LV w hK n al/\A4 n (zR Y) To Q al mb s b) (λ _ z _=>256-(QN z).toNat)
       case atStart=>exact⟨0,bK,bN,by omega,rfl,rfl,eL.o,aR.o⟩
       case round=>
        obtain⟨b,D,X,hb,rfl,rfl,J,C⟩:=hrel;have aO:=fV J;have hQ:=fV C;have x0:=J.ba.c s aL;have xf:=J.ba.f s;have I:=HG.o.below J.bl lR;clear eL aR;by_cases cN:b<256
        ·have hR:(0:Int)<=(b:Int)/\(b:Int)<(256:Int):=by omega
         have db:decide ((b:Int)<(256:Int))=true:=by simp;omega
         cases hals:D s with
         | true=>
          rw[hals]at x0;have HN:QO (A4 n (zR Y) To Q D X (s+1) 0):=⟨C.ai,C.yes,λ e=>⟨(C.no e).1,λ p hp=>by
           by_cases e2:p=s
           ·subst e2;exact λ _ _ _ _=>hals
           ·exact(C.no e).2.1 p (by omega),λ b' bM=>by omega⟩⟩
          clear J C I hals;go_wp2;go_roundw
          case rel=>exact⟨s+1,D,X,by omega,rfl,by go_num,aO.o,HN.o⟩
          case measure=>simp[QN];omega
         | false=>
          rw[hals]at x0;have c2:=I.c2;have t0:=I.t s aL;have r0:=I.r s b aL cN;have eS:=hH.o.rng s b aL cN;have U:QO (∀tb:Nat,To s b=(tb:Int)->D tb=true->A4 n (zR Y) To Q (λ i=>if i=s then true else D i) true s (b+1)):=λ tb e1 e2=>by
           have bT:tb<n:=by omega
           refine⟨C.ai.put (Rr cN (by omega) (by rw[e1,MF];exact C.ai.sd tb bT e2)),λ _=>?_,λ e=>by cases e⟩;have h1:=Cc (al:=D) n aL hals
           cases X with
           | true=>have:=C.yes rfl;omega
           | false=>rw[tA n (C.no rfl).1]at h1;omega
          have F:QO ((To s b≠ -1->D (To s b).toNat=false)->A4 n (zR Y) To Q D X s (b+1)):=λ hh=>⟨C.ai,C.yes,λ e=>⟨(C.no e).1,(C.no e).2.1,λ b' bM h1 h2=>by
           by_cases e2:b'=b
           ·subst e2;rw[hh h1]at h2;cases h2
           ·exact(C.no e).2.2 b' (by omega) h1 h2⟩⟩
          obtain⟨t,et⟩:=xE (To s b)
          rw[et]at r0 eS U F;clear C I hals et;rcases eS with ht|ht
          ·subst ht;have HN:=fV (F.o (λ e=>absurd rfl e));clear U F J;go_wp2;go_roundw
           case rel=>exact⟨b+1,D,X,by omega,rfl,by go_num,aO.o,HN.o⟩
           case measure=>simp[QN];omega
          ·obtain⟨tb,hD⟩:∃tb:Nat,t=(tb:Int):=⟨t.toNat,by omega⟩
           subst hD;have bT:tb<n:=by omega
           have y0:=J.ba.c tb bT;have hS:=iI tb n (by omega)
           have dt:decide ((0:Int)<=(tb:Int))=true:=by simp
           clear ht J
           cases hav:D tb with
           | true=>
            rw[hav]at y0;have HN:=fV (U.o tb rfl hav);have HS:=fV (aO.o.set aL true);clear U F hav;go_wp2;go_roundw
            case rel=>exact⟨b+1,_,true,by omega,rfl,by go_num,HS.o,HN.o⟩
            case measure=>simp[QN];omega
           | false=>
            rw[hav]at y0;have HN:=fV (F.o (λ _=>by rw[MF];exact hav));clear U F hav;go_wp2;go_roundw
            case rel=>exact⟨b+1,D,X,by omega,rfl,by go_num,aO.o,HN.o⟩
            case measure=>simp[QN];omega
        ·have eb:b=256:=by omega
         have db:decide ((b:Int)<(256:Int))=false:=by simp;omega
         have HN:QO (A4 n (zR Y) To Q D X (s+1) 0):=⟨C.ai,C.yes,λ e=>⟨(C.no e).1,λ p hp=>by
          by_cases e2:p=s
          ·subst e2;exact λ b' bM=>(C.no e).2.2 b' (by omega)
          ·exact(C.no e).2.1 p (by omega),λ b' bM=>by omega⟩⟩
         generalize D s=asv at*;clear J C I eb;go_wp2;go_roundw
         case rel=>exact⟨s+1,D,X,by omega,rfl,by go_num,aO.o,HN.o⟩
         case measure=>simp[QN];omega
      ·have es:s=n:=by omega
       have ds:=dF s n (by omega)
       have HC:QO (bN=false->∀p,p<n->IU To bK p):=λ e p hp=>(aR.o.no e).2.1 p (by omega)
       have HM:QO (bN=true->zP bK n<d):=λ e=>by have:=aR.o.yes e;omega
       have bO:=fV aR.o.ai;clear es;go_wp2;go_roundg d
       case measure=>omega
       case rel=>exact⟨bN,bK,rfl,eL.o,bO.o,HC,HM⟩
structure KC(w:tW)(dg n:Nat)(db:Nat->Nat)(d:Nat->Nat->Bool):Prop where
 r:∀i,i<n->w.cell? ⟨dg,i,none⟩=some (.slice (some ⟨db i,0,none⟩) n n)
 c:∀i j,i<n->j<n->w.cell? ⟨db i,j,none⟩=some (.bool (d i j))
 b0:dg<w.heap.size
 b1:∀i,i<n->db i<w.heap.size
theorem KC.below{w w':tW}{o:Nat->Nat}{d:Nat->Nat->Bool}(h:KC w dg n o d)(C:Below B w w')(I:w.heap.size<=B):KC w' dg n o d:=by
 have F:=h.b0;have J:=C.size;exact⟨λ i hi=>(C.cell (p:=⟨dg,i,none⟩) (by show dg<B;omega)).trans (h.r i hi),λ i j hi D=>(C.cell (p:=⟨o i,j,none⟩) (by show o i<B;have:=h.b1 i hi;omega)).trans (h.c i j hi D),by omega,λ i hi=>by have:=h.b1 i hi;omega⟩
section
theorem BA.block{w w':tW}{al:Nat->Bool}(h:BA w ab n al)(o:w'.heap[ab]?=w.heap[ab]?):BA w' ab n al:=
 ⟨λ i hi=>(LF (w:=w) (a:=⟨ab,i,none⟩) o).trans (h.c i hi),λ i=>(LS (w:=w) (a:=⟨ab,i,none⟩) o).trans (h.f i)⟩
structure DB(W w:tW)(dg n:Nat)(db:Nat->Nat)(d:Nat->Nat->Bool):Prop where
 bl:Bl W w
 da:KC w dg n db d
 fz:∀i j,i<n->w.frozen? ⟨db i,j,none⟩=false
 lo:∀i,i<n->W.heap.size<=db i
 ap:∀i,i<n->db i≠dg
 ij:∀i j,i<n->j<n->i≠j->db i≠db j
theorem DB.below{W w w':tW}{C:Nat->Nat}{d:Nat->Nat->Bool}(h:DB W w dg n C d)(o:Bl w w'):DB W w' dg n C d:=
 ⟨h.bl.trans (o.mono h.bl.size),h.da.below o lR,λ i j hi=>(o.frozen (p:=⟨C i,j,none⟩) (h.da.b1 i hi)).trans (h.fz i j hi),h.lo,h.ap,h.ij⟩
theorem DB.set{W w:tW}{C:Nat->Nat}{d:Nat->Nat->Bool}(h:DB W w dg n C d){i j:Nat}(hi:i<n)(U:j<n)(v:Bool):DB W (w.setCell ⟨C i,j,none⟩ (.bool v)) dg n C (λ p q=>if p=i/\q=j then v else d p q):=by
 refine⟨h.bl.setCell (p:=⟨C i,j,none⟩) (h.lo i hi) _,⟨λ p o=>?_,λ p q o I=>?_,by simpa[MB]using h.da.b0,λ p o=>by simpa[MB]using h.da.b1 p o⟩,λ p q o=>by rw[ME];exact h.fz p q o,h.lo,h.ap,h.ij⟩
 ·rw[LQ (h:=by intro F;injection F with D;exact h.ap i hi D)];exact h.da.r p o
 ·by_cases e:p=i/\q=j
  ·obtain⟨rfl,rfl⟩:=e;rw[aB ⟨rfl,rfl⟩];exact LU _ _ _ (h.da.c p q o I)
  ·rw[aA e,LQ (h:=by
    intro F;injection F with D Q;by_cases J:p=i
    ·subst J;exact e ⟨rfl,Q.symm⟩
    ·exact h.ij p i o hi J D.symm)]
   exact h.da.c p q o I
attribute [local go_sem ↓] Go.wp_at_zero Go.wp_at_succ
end
def FJ(al:Nat->Bool)(d:Nat->Nat->Bool)(To:Nat->Nat->Int)(lw:List Nat)(i j:Nat)(r:Bool):Prop:=
 (r=true/\∃b,b<256/\oK al d To i j b=true)\/(r=false/\∀b,b<256->lw[b]?=some b->oK al d To i j b=false)
theorem Rf{db0:Nat}{rw db:Nat->Nat}{of:Nat->Int}{To:Nat->Nat->Int}{al:Nat->Bool}{d:Nat->Nat->Bool}{w:tW}(h:GV gb w n gO qO gT qT rw of To)(bK:oT n 256 To)(bT:BA w ab n al)(gL:ab<w.heap.size)(hd:KC w dg n db d){i j:Nat}(hi:i<n)(hj:j<n){gl ol vc:Nat}{lw:List Nat}(bM:lw.length=256)(hB:gl<w.heap.size)(bC:∀(i m:Nat),lw[i]?=some m->w.cell? ⟨gl,ol+i,none⟩=some (.int .i64 (m:Int)))(bO:∀(b k:Nat),lw[b]?=some k->k<=b):
  QW MD 78 #[.pointer (some ⟨gb,0,none⟩),.slice (some ⟨ab,0,none⟩) n n,.slice (some ⟨dg,0,none⟩) n db0,.int .i64 (i:Int),.int .i64 (j:Int),.slice (some ⟨gl,ol,none⟩) 256 vc] w λ e w'=>∃r,e=.returned (.bool r)/\Bl w w'/\FJ al d To lw i j r:=by
 have HG:=fV h;have c2:=h.c2;have ti:=h.t i hi;have tj:=h.t j hj;have bS:=fV bK;have aW:=fV bT;have HD:=fV hd;have eL:=fV bC;have eM:=fV bO;have cN:=fV bM;have hA:=iI i n (by omega)
 have eT:=iI j n (by omega)
 clear h bK bT hd bC bO bM;go_enter func78,ntmps78;go_wp2_with fail
 go_loopw [13] (λ z wr=>∃(b:Nat),b<=256/\z=.int .i64 (b:Int)/\QO (∀I,I<b->lw[I]?=some I->oK al d To i j I=false)/\wr=w) (λ z _=>256-(QN z).toNat)
 case atStart=>exact⟨0,by omega,rfl,fV (λ I aT=>by omega),rfl⟩
 case round=>
  obtain⟨b,hb,rfl,HA,rfl⟩:=hrel;by_cases U:b<256
  ·obtain⟨x,hx⟩:∃x,lw[b]?=some x:=⟨lw[b]'(by rw[cN.o];exact U),LC _⟩
   have y0:=eL.o b x hx;have eX:=eM.o b x hx;have hC:(0:Int)<=(b:Int)/\(b:Int)<(256:Int):=by omega
   have hI:=bS.o.rng i b hi U;have hJ:=bS.o.rng j b hj U;have ri:=HG.o.r i b hi U;have rj:=HG.o.r j b hj U;by_cases eS:x<b
   ·have eO:QO (∀I,I<b+1->lw[I]?=some I->oK al d To i j I=false):=λ I aT h2=>by
     by_cases e:I=b
     ·subst e;rw[hx]at h2;injection h2 with h2;omega
     ·exact HA.o I (by omega) h2
    clear hx;go_wp2;go_roundw
    case rel=>exact⟨b+1,by omega,by go_num,eO,trivial⟩
    case measure=>simp[QN];omega
   ·have D:QO (oK al d To i j b=false->∀I,I<b+1->lw[I]?=some I->oK al d To i j I=false):=λ h1 I aT h2=>by
     by_cases e:I=b
     ·subst e;exact h1
     ·exact HA.o I (by omega) h2
    obtain⟨TB,aO⟩:=xE (oK al d To i j b)
    have Y:=aO;unfold oK mM at Y;obtain⟨si,cF⟩:=xE (To i b)
    obtain⟨sj,bN⟩:=xE (To j b)
    rw[cF]at hI ri Y;rw[bN]at hJ rj Y;have Q:=fV aO;have V:=fV Y;clear hx cF bN aO Y;rcases hI with e1|e1
    ·subst e1;rcases hJ with e2|e2
     ·subst e2;have HF:QO (oK al d To i j b=false):=Q.o.trans (V.o.symm.trans (by simp));have Z:=fV (D.o HF.o);clear V Q D HF;go_wp2;go_roundw
      case rel=>exact⟨b+1,by omega,by go_num,Z,trivial⟩
      case measure=>simp[QN];omega
     ·obtain⟨C,aR⟩:∃t:Nat,sj=(t:Int):=⟨sj.toNat,by omega⟩
      subst aR;have X:C<n:=by omega
      have eN:=iI C n (by omega)
      have yj:=aW.o.c C X;have J:QO (oK al d To i j b=al C):=Q.o.trans (V.o.symm.trans (by simp))
      cases hav:al C with
      | true=>
       rw[hav]at yj J;clear V Q D hav;go_wp2;go_ret;exact⟨true,rfl,bR,.inl ⟨rfl,b,U,J.o⟩⟩
      | false=>
       rw[hav]at yj J;have Z:=fV (D.o J.o);clear V Q D hav J;go_wp2;go_roundw
       case rel=>exact⟨b+1,by omega,by go_num,Z,trivial⟩
       case measure=>simp[QN];omega
    ·obtain⟨F,cP⟩:∃t:Nat,si=(t:Int):=⟨si.toNat,by omega⟩
     subst cP;have X:F<n:=by omega
     have eN:=iI F n (by omega)
     have yi:=aW.o.c F X;rcases hJ with e2|e2
     ·subst e2;have J:QO (oK al d To i j b=al F):=Q.o.trans (V.o.symm.trans (by simp))
      cases hav:al F with
      | true=>
       rw[hav]at yi J;clear V Q D hav;go_wp2;go_ret;exact⟨true,rfl,bR,.inl ⟨rfl,b,U,J.o⟩⟩
      | false=>
       rw[hav]at yi J;have Z:=fV (D.o J.o);clear V Q D hav J;go_wp2;go_roundw
       case rel=>exact⟨b+1,by omega,by go_num,Z,trivial⟩
       case measure=>simp[QN];omega
     ·obtain⟨C,aR⟩:∃t:Nat,sj=(t:Int):=⟨sj.toNat,by omega⟩
      subst aR;have aL:C<n:=by omega
      have eR:=iI C n (by omega)
      have yj:=aW.o.c C aL;have dr:=HD.o.r F X;have dc:=HD.o.c F C X aL;have J:QO (oK al d To i j b=((al F !=al C)||(al F&&al C&&d F C))):=Q.o.trans (V.o.symm.trans (by simp));clear V Q
      cases ha1:al F<;>cases ha2:al C<;>rw[ha1]at yi J<;>rw[ha2]at yj J
      ·have Z:=fV (D.o (J.o.trans rfl));clear D J ha1 ha2 dr dc;go_wp2;go_roundw
       case rel=>exact⟨b+1,by omega,by go_num,Z,trivial⟩
       case measure=>simp[QN];omega
      ·clear D ha1 ha2 dr dc;go_wp2;go_ret;exact⟨true,rfl,bR,.inl ⟨rfl,b,U,J.o.trans rfl⟩⟩
      ·clear D ha1 ha2 dr dc;go_wp2;go_ret;exact⟨true,rfl,bR,.inl ⟨rfl,b,U,J.o.trans rfl⟩⟩
      ·cases hdv:d F C with
       | true=>
        rw[hdv]at dc J;clear D ha1 ha2 hdv;go_wp2;go_ret;exact⟨true,rfl,bR,.inl ⟨rfl,b,U,J.o.trans rfl⟩⟩
       | false=>
        rw[hdv]at dc J;have Z:=fV (D.o (J.o.trans rfl));clear D J ha1 ha2 hdv;go_wp2;go_roundw
        case rel=>exact⟨b+1,by omega,by go_num,Z,trivial⟩
        case measure=>simp[QN];omega
  ·have eb:b=256:=by omega
   have db:decide ((b:Int)<(256:Int))=false:=by simp;omega
   clear eb;go_wp2;go_ret;exact⟨false,rfl,bR,.inr ⟨rfl,λ I aT h2=>HA.o I (by omega) h2⟩⟩
structure PD(W w:tW)(dg m n:Nat)(db:Nat->Nat)(d:Nat->Nat->Bool):Prop where
 bl:Bl W w
 lo0:W.heap.size<=dg/\dg<w.heap.size
 r:∀i,i<m->w.cell? ⟨dg,i,none⟩=some (.slice (some ⟨db i,0,none⟩) n n)
 a:∀i,i<n->∃v,w.cell? ⟨dg,i,none⟩=some v
 fz0:∀i,w.frozen? ⟨dg,i,none⟩=false
 c:∀i,i<m->BA w (db i) n (d i)
 lo:∀i,i<m->W.heap.size<=db i/\db i<w.heap.size
 ap:∀i,i<m->db i≠dg
 ij:∀i j,i<m->j<m->i≠j->db i≠db j
theorem PD.start{W w:tW}(C:Bl W w)(F:W.heap.size<w.heap.size)(I:∀i,i<n->∃v,w.cell? ⟨W.heap.size,i,none⟩=some v)(D:∀i,w.frozen? ⟨W.heap.size,i,none⟩=false)(o:Nat->Nat)(d:Nat->Nat->Bool):PD W w W.heap.size 0 n o d:=
 ⟨C,⟨lR,F⟩,λ i h=>by omega,I,D,λ i h=>by omega,λ i h=>by omega,λ i h=>by omega,λ i j h=>by omega⟩
theorem PD.row{W w w1:tW}{V:Nat->Nat}{d:Nat->Nat->Bool}(h:PD W w dg m n V d)(hm:m<n)(hg:w.grownBy w1 none)(J:BA w1 w.heap.size n (λ _=>false))(hz:w.heap.size<w1.heap.size):
  PD W (w1.setCell ⟨dg,m,none⟩ (.slice (some ⟨w.heap.size,0,none⟩) n n)) dg (m+1) n (λ i=>if i=m then w.heap.size else V i) (λ i=>if i=m then(λ _=>false)else d i):=by
 have o:Bl w w1:=⟨hg.os,hg.tape,hg.output,hg.size,λ k F=>hg.block k F (by simp)⟩
 have hW:=h.bl.size;obtain⟨X,I⟩:=h.lo0;have Y:(w1.setCell ⟨dg,m,none⟩ (.slice (some ⟨w.heap.size,0,none⟩) n n)).heap.size=w1.heap.size:=by simp[MB]
 have F:∀k,k≠dg->(w1.setCell ⟨dg,m,none⟩ (.slice (some ⟨w.heap.size,0,none⟩) n n)).heap[k]?=w1.heap[k]? :=λ k C=>iC w1 dg m _ C
 obtain⟨v,hv⟩:=h.a m hm;have D:=(o.cell (p:=⟨dg,m,none⟩) I).trans hv;refine⟨(lZ h.bl o).setCell (p:=⟨dg,m,none⟩) X _,⟨X,by omega⟩,λ i hi=>?_,λ i hi=>?_,λ i=>by rw[ME];exact(o.frozen (p:=⟨dg,i,none⟩) I).trans (h.fz0 i),λ i hi=>?_,λ i hi=>?_,λ i hi=>?_,λ i j hi hj C=>?_⟩
 ·by_cases e:i=m
  ·subst e;simp only[if_true];exact LU _ _ _ D
  ·simp only[aA e];rw[LQ (h:=by intro U;injection U;omega)];exact(o.cell (p:=⟨dg,i,none⟩) I).trans (h.r i (by omega))
 ·by_cases e:i=m
  ·subst e;exact⟨_,LU _ _ _ D⟩
  ·obtain⟨x,hx⟩:=h.a i hi;exact⟨x,by rw[LQ (h:=by intro U;injection U;omega)];exact(o.cell (p:=⟨dg,i,none⟩) I).trans hx⟩
 ·by_cases e:i=m
  ·subst e;simp only[if_true];exact J.block (F _ (by omega))
  ·simp only[aA e];have Z:=h.lo i (by omega);exact(h.c i (by omega)).block ((F _ (h.ap i (by omega))).trans (o.block _ Z.2))
 ·by_cases e:i=m
  ·simp only[e,if_true];omega
  ·simp only[aA e];have:=h.lo i (by omega);omega
 ·by_cases e:i=m
  ·simp only[e,if_true];omega
  ·simp only[aA e];exact h.ap i (by omega)
 ·by_cases e:i=m<;>by_cases Q:j=m
  ·omega
  ·simp only[e,if_true,aA Q];have:=h.lo j (by omega);omega
  ·simp only[Q,if_true,aA e];have:=h.lo i (by omega);omega
  ·simp only[aA e,aA Q];exact h.ij i j (by omega) (by omega) C
theorem PD.set{W w:tW}{C:Nat->Nat}{d:Nat->Nat->Bool}(h:PD W w dg m n C d){i j:Nat}(hi:i<m)(U:j<n)(v:Bool):PD W (w.setCell ⟨C i,j,none⟩ (.bool v)) dg m n C (λ p q=>if p=i/\q=j then v else d p q):=by
 have Y:(w.setCell ⟨C i,j,none⟩ (.bool v)).heap.size=w.heap.size:=by simp[MB]
 have J:∀k,k≠C i->(w.setCell ⟨C i,j,none⟩ (.bool v)).heap[k]?=w.heap[k]? :=λ k F=>iC w (C i) j _ F
 have D:=J dg (Ne.symm (h.ap i hi));refine⟨h.bl.setCell (p:=⟨C i,j,none⟩) (h.lo i hi).1 _,⟨h.lo0.1,by have:=h.lo0.2;omega⟩,λ p o=>(LF (w:=w) (a:=⟨dg,p,none⟩) D).trans (h.r p o),λ p o=>?_,λ p=>(LS (w:=w) (a:=⟨dg,p,none⟩) D).trans (h.fz0 p),λ p o=>?_,λ p o=>by have:=h.lo p o;omega,h.ap,h.ij⟩
 ·obtain⟨x,V⟩:=h.a p o;exact⟨x,(LF (w:=w) (a:=⟨dg,p,none⟩) D).trans V⟩
 ·by_cases e:p=i
  ·subst e;have:=(h.c p o).set U v;refine⟨λ q Q=>?_,this.f⟩;rw[this.c q Q];by_cases I:q=j
   ·simp[I]
   ·simp[I]
  ·have X:(λ q=>if p=i/\q=j then v else d p q)=d p:=by funext q;rw[aA (λ h=>e h.1)]
   rw[X];exact(h.c p o).block (J _ (h.ij p i o hi e))
theorem PD.done{W w:tW}{o:Nat->Nat}{d:Nat->Nat->Bool}(h:PD W w dg n n o d):DB W w dg n o d:=
 ⟨h.bl,⟨h.r,λ i j hi C=>(h.c i hi).c j C,h.lo0.2,λ i hi=>(h.lo i hi).2⟩,λ i j hi=>(h.c i hi).f j,λ i hi=>(h.lo i hi).1,h.ap,h.ij⟩
def xY(d:Nat->Nat->Bool):Nat->Nat
 | 0=>0
 | n+1=>xY d n+zP (d n) n
theorem Eb{d o:Nat->Nat->Bool}:∀n,(∀i j,i<n->j<i->d i j=o i j)->xY d n=xY o n
 | 0,_=>rfl
 | n+1,h=>by unfold xY;rw[Eb n (λ i j hi D=>h i j (by omega) D),tA n (λ p C=>h n p (by omega) C)]
theorem Ts(d:Nat->Nat->Bool):∀n,xY d n<=n*n
 | 0=>lR
 | n+1=>by
  have C:=Ts d n;have o:=Je (d n) n;unfold xY;rw[Nat.add_mul,Nat.mul_add];omega
def rI(d:Nat->Nat->Bool)(i j:Nat):Nat->Nat->Bool:=λ p q=>if p=j/\q=i then true else if p=i/\q=j then true else d p q
theorem Ms{d:Nat->Nat->Bool}(J:j<i)(D:d i j=false):∀n,i<n->xY (rI d i j) n+1=xY d n
 | 0,h=>by omega
 | n+1,h=>by
  unfold xY;by_cases e:i=n
  ·subst e;have I:xY (rI d i j) i=xY d i:=Eb i (λ p q Q F=>by
    unfold rI;rw[aA (λ e=>by omega),aA (λ e=>by omega)])
   have C:zP (rI d i j i) i=zP (λ q=>if q=j then true else d i q) i:=tA i (λ q F=>by
    unfold rI;by_cases e:q=j
    ·simp[e]
    ·rw[aA (λ o=>by omega),aA (λ o=>e o.2),aA e])
   have U:=Cc (al:=d i) i J D;rw[I,C];omega
  ·have I:=Ms J D n (by omega);have C:zP (rI d i j n) n=zP (d n) n:=tA n (λ q F=>by
    unfold rI;rw[aA (λ o=>by omega),aA (λ o=>by omega)])
   rw[C];omega
structure Yz(n:Nat)(of:Nat->Int)(To:Nat->Nat->Int)(d:Nat->Nat->Bool):Prop where
 sd:∀i j,i<n->j<n->d i j=true->qU (zR of) To i j
 mo:∀i j,i<n->j<n->d i j=false->of i=of j
 sy:∀i j,i<n->j<n->d i j=d j i
 di:∀i,i<n->d i i=false
theorem Yz.start{C:Nat->Int}{To:Nat->Nat->Int}{d:Nat->Nat->Bool}(D:∀i,i<n-> -1<=C i)(h:∀i j,i<n->j<n->d i j=(C i !=C j)):Yz n C To d:=by
 refine⟨λ i j hi o F=>⟨[],wK _,λ e=>?_⟩,λ i j hi o F=>?_,λ i j hi o=>?_,λ i hi=>?_⟩
 ·rw[h i j hi o,aD]at F;have e:(C i+1).toNat=(C j+1).toNat:=e;have:=D i hi;have:=D j o;exact F (by omega)
 ·rw[h i j hi o]at F;simpa using F
 ·rw[h i j hi o,h j i o hi];simp only[bne,Bool.not_eq_eq_eq_not,Bool.not_not];rw[Bool.eq_iff_iff];simp only[beq_iff_eq];exact⟨λ e=>e.symm,λ e=>e.symm⟩
 ·rw[h i i hi hi];simp
theorem Yz.put{J:Nat->Int}{To:Nat->Nat->Int}{d:Nat->Nat->Bool}(h:Yz n J To d){i j:Nat}(U:i≠j)(Q:qU (zR J) To i j):Yz n J To (rI d i j):=by
 refine⟨λ p q C I o=>?_,λ p q C I o=>?_,λ p q C I=>?_,λ p C=>?_⟩
 ·unfold rI at o;split at o
  ·rename_i e;rw[e.1,e.2];exact Q.symm
  ·split at o
   ·rename_i e;rw[e.1,e.2];exact Q
   ·exact h.sd p q C I o
 ·unfold rI at o;split at o
  ·cases o
  ·split at o
   ·cases o
   ·exact h.mo p q C I o
 ·unfold rI;by_cases F:p=j/\q=i
  ·rw[aB F,aA (λ e=>by omega),aB ⟨F.2,F.1⟩]
  ·rw[aA F];by_cases D:p=i/\q=j
   ·rw[aB D,aB ⟨D.2,D.1⟩]
   ·rw[aA D,aA (λ e=>D ⟨e.2,e.1⟩),aA (λ e=>F ⟨e.2,e.1⟩)];exact h.sy p q C I
 ·unfold rI;rw[aA (λ e=>by omega),aA (λ e=>by omega)];exact h.di p C
theorem Yc{al:Nat->Bool}{d:Nat->Nat->Bool}{To:Nat->Nat->Int}(C:oT n 256 To)(F:∀i j,i<n->j<n->d i j=d j i){i j b:Nat}(hi:i<n)(I:j<n)(o:b<256):oK al d To i j b=oK al d To j i b:=by
 unfold oK
 cases e1:mM al (To i b)with
 | true=>
  cases e2:mM al (To j b)with
  | true=>
   obtain⟨D,_⟩:=oR C hi o e1;obtain⟨m1,_⟩:=oR C I o e2;rw[F _ _ D m1]
  | false=>rfl
 | false=>cases e2:mM al (To j b)<;>rfl
theorem Sq{al:Nat->Bool}{d:Nat->Nat->Bool}{To:Nat->Nat->Int}(F:oT n 256 To)(o:∀i,i<n->d i i=false){i b:Nat}(hi:i<n)(D:b<256):oK al d To i i b=false:=by
 unfold oK
 cases e1:mM al (To i b)with
 | true=>
  obtain⟨C,_⟩:=oR F hi D e1;rw[o _ C];rfl
 | false=>rfl
def zM(al:Nat->Bool)(d:Nat->Nat->Bool)(To:Nat->Nat->Int)(lw:List Nat)(s t:Nat):Prop:=∀i j,j<i->(i<s\/(i=s/\j<t))->d i j=false->∀b,b<256->lw[b]?=some b->oK al d To i j b=false
theorem Yz.partC{U:Nat->Int}{To:Nat->Nat->Int}{al:Nat->Bool}{d:Nat->Nat->Bool}(h:Yz n U To d)(X:oT n 256 To)(V:zM al d To lw n 0)(D:∀b,b<256->∃k,k<256/\lw[k]?=some k/\∀p,p<n->To p b=To p k):Ag n (zR U) To al d:=by
 refine⟨h.sd,λ i j hi o F=>by unfold zR;rw[h.mo i j hi o F],λ i j hi o F b Y=>?_⟩;obtain⟨k,I,Q,J⟩:=D b Y;have e:oK al d To i j b=oK al d To i j k:=by unfold oK;rw[J i hi,J j o]
 rw[e];rcases NQ i j with C|C|C
 ·rw[Yc X h.sy hi o I];exact V j i C (.inl o) (by rw[<-h.sy i j hi o];exact F) k I Q
 ·subst C;exact Sq X h.di hi I
 ·exact V i j C (.inl hi) F k I Q
theorem eB:(Tryz.prog.info? 80).map (λ i=>(i.zero,i.size,i.bytes))=some (some (.slice none 0 0),1,24):=by kernel_rfl
theorem PD.draw{W w:tW}{o:Nat->Nat}{d:Nat->Nat->Bool}(h:PD W w dg m n o d):PD W w.drew dg m n o d:=
 ⟨⟨h.bl.os,h.bl.tape,h.bl.output,h.bl.size,h.bl.block⟩,h.lo0,h.r,h.a,h.fz0,λ i hi=>⟨(h.c i hi).c,(h.c i hi).f⟩,h.lo,h.ap,h.ij⟩
theorem Lm{rw:Nat->Nat}{D:Nat->Int}{To:Nat->Nat->Int}{al:Nat->Bool}{w:tW}(h:GV gb w n gO qO gT qT rw D To)(hn:n<=2000)(hT:∀i,i<n-> -1<=D i)(eX:oT n 256 To)(rO:As n (zR D) To al)(sW:BA w ab n al)(hS:ab<w.heap.size)
  {gl ol vc:Nat}{lw:List Nat} (hV:lw.length=256) (qL:gl<w.heap.size) (hQ:∀(i m:Nat),lw[i]?=some m->w.cell? ⟨gl,ol+i,none⟩=some (.int .i64 (m:Int))) (hG:∀(b k:Nat),lw[b]?=some k->k<=b) (eM:∀b,b<256->∃k,k<256/\lw[k]?=some k/\∀p,p<n->To p b=To p k):
  QW MD 48 #[.pointer (some ⟨gb,0,none⟩),.slice (some ⟨ab,0,none⟩) n n,.slice (some ⟨gl,ol,none⟩) 256 vc] w λ e w'=>∃X d,e=.returned (.slice (some ⟨w.heap.size,0,none⟩) n n)/\DB w w' w.heap.size n X d/\Ag n (zR D) To al d/\∀i,i<n->d i i=false:=by
 obtain⟨i0,bN,bK,aR,aW⟩:=QS cV;have HI:QO (Tryz.prog.info? 4=some i0/\i0.zero=some (.bool false)/\i0.size=1/\i0.bytes=1):=⟨bN,bK,aR,aW⟩
 clear bN bK aR aW;obtain⟨i1,bN,bK,aR,aW⟩:=QS eB;have eL:QO (Tryz.prog.info? 80=some i1/\i1.zero=some (.slice none 0 0)/\i1.size=1/\i1.bytes=24):=⟨bN,bK,aR,aW⟩
 have HG:=fV h;have k1:=h.c1;have P0:=h.b0;have M2:=fV hT;have qR:=fV eX;have hU:=fV eM;have W6:=fV hG;have O3:=fV rO;have H5:=fV (λ(W:tW)(hB:Bl w W)(X:Nat->Nat)(d:Nat->Nat->Bool)(hd:KC W w.heap.size n X d)(i j:Nat)(hi:i<n) (hj:j<n)=>Rf (db0:=n) (vc:=vc) (h.below hB lR) eX (sW.below hB hS) (LO hS hB.size) hd hi hj hV (LO qL hB.size) (λ i m hm=>(hB.cell (p:=⟨gl,ol+i,none⟩) qL).trans (hQ i m hm)) hG);clear bN bK aR aW h hT eX rO sW hQ hG eM hV;go_enter func48,ntmps48;go_upto_region 3 with(first|(at_make;refine QT w rfl _ _ 129 rfl w.heap.size 80 i1 (.slice none 0 0) 1 underlying129 eL.o.1 eL.o.2.1 eL.o.2.2.1 .i64 .i64 _ n n rfl rfl rfl rfl (by rw[eL.o.2.2.2];omega) (by unfold QV;omega) lR ?_;intro w1 F hg))
 have rL:QO (PD w w1 w.heap.size 0 n (λ _=>0) (λ _ _=>false)):=PD.start ⟨hg.os,hg.tape,hg.output,hg.size,λ k hk=>hg.block k hk (by simp)⟩ (F.lt w.heap.size rfl).2 (λ i hi=>by
  have hx:=LC (l:=(madeCells (MJ none 0 0).cells (n*1)).toList) (i:=i) (by have:=F.1;omega);have:=F.cells rfl i _ hx;rw[oM,MA]at this;exact⟨_,this⟩) (λ i=>rX F i) _ _
 clear F hg k1;go_wp2_with fail
 go_loopw [9] (λ z wr=>∃(m:Nat)(X:Nat->Nat)(d:Nat->Nat->Bool),m<=n/\z=.int .i64 (m:Int)/\PD w wr w.heap.size m n X d/\QO (∀p q,p<m->q<n->d p q=(D p !=D q))) (λ z _=>n-(QN z).toNat)
 case atStart=>exact⟨0,_,_,by omega,rfl,rL.o,fV (λ p q hp=>by omega)⟩
 case round=>
  clear rL;obtain⟨m,X,d,hm,rfl,C,HA⟩:=hrel;have HP:=fV C;have hz:=C.bl.size;by_cases hE:m<n
  ·obtain⟨v0,tO⟩:=C.a m hE;have tT:=C.fz0 m;have hY:=C.lo0.2;have W3:=iI m n (by omega)
   clear C;go_upto_region 7 with(first|(at_make;refine QT wr rfl _ _ 80 rfl wr.heap.size 4 i0 (.bool false) 1 underlying80 HI.o.1 HI.o.2.1 HI.o.2.2.1 .i64 .i64 _ n n rfl rfl rfl rfl (by rw[HI.o.2.2.2];omega) (by unfold QV;omega) lR ?_;intro w2 F hg;have y0:w2.cell? ⟨w.heap.size,m,none⟩=some v0:=(LF (w:=wr) (a:=⟨w.heap.size,m,none⟩) (hg.block _ hY (by simp))).trans tO;have yf:w2.frozen? ⟨w.heap.size,m,none⟩=false:=(LS (w:=wr) (a:=⟨w.heap.size,m,none⟩) (hg.block _ hY (by simp))).trans tT;have hL:=fV (HP.o.row hE hg (BA.new F) (F.lt _ rfl).2);clear F hg))
   obtain⟨d2,hP⟩:∃d2,d2=(λ i=>if i=m then(λ _:Nat=>false)else d i):=⟨_,rfl⟩
   obtain⟨cF,tL⟩:∃cF,cF=(λ i=>if i=m then wr.heap.size else X i):=⟨_,rfl⟩
   rw[<-hP,<-tL]at hL;have A2:QO (∀p q,p<m->q<n->d2 p q=(D p !=D q)):=λ p q hp hq=>by rw[hP];simp only[aA (show p≠m by omega)];exact HA.o p q hp hq
   clear HP HA y0 yf tO tT hP tL;generalize w2.setCell ⟨w.heap.size,m,none⟩ (.slice (some ⟨wr.heap.size,0,none⟩) n n)=W2 at*;generalize wr.heap.size=sR at*;go_wp2_with fail
   go_loopw [10] (λ z hF=>∃(j:Nat)(d:Nat->Nat->Bool),j<=n/\z=.int .i64 (j:Int)/\PD w hF w.heap.size (m+1) n cF d/\QO (∀p q,p<m->q<n->d p q=(D p !=D q))/\QO (∀q,q<j->d m q=(D m !=D q))) (λ z _=>n-(QN z).toNat)
   case atStart=>exact⟨0,d2,by omega,rfl,hL.o,A2,fV (λ q hq=>by omega)⟩
   case round=>
    clear hL A2;obtain⟨j,d3,hj,rfl,C,A1,nL⟩:=hrel;have HP:=fV C;have O8:=C.bl.size;have aL:=HG.o.below C.bl lR;by_cases hJ:j<n
    ·have O9:=iI j n (by omega)
     have dr:=C.r m (by omega);have c1:=aL.c1;have om:=aL.o m hE;have oj:=aL.o j hJ;have dc:=(C.c m (by omega)).c j hJ;have df:=(C.c m (by omega)).f j;have HS:=fV (C.draw.set (i:=m) (by omega) hJ (D m !=D j));have eS:QO (∀p q,p<m->q<n->(if p=m/\q=j then(D m !=D j)else d3 p q)=(D p !=D q)):=λ p q hp hq=>by rw[aA (λ e=>by omega)];exact A1.o p q hp hq
     have hN:QO (∀q,q<j+1->(if m=m/\q=j then(D m !=D j)else d3 m q)=(D m !=D q)):=λ q hq=>by
      by_cases e:q=j
      ·rw[aB ⟨rfl,e⟩,e]
      ·rw[aA (λ h=>e h.2)];exact nL.o q (by omega)
     generalize d3 m j=dv at dc;generalize hom:D m=ovm at om HS eS hN;generalize hoj:D j=ovj at oj HS eS hN;have W8:=fV hom;have T3:=fV hoj;clear C aL hom hoj;go_upto_region 10 with fail
     go_region
     all_goals
      go_wp2;go_roundw
      case rel=>exact⟨j+1,_,by omega,by go_num,HS.o,eS,hN⟩
      case measure=>simp[QN];omega
    ·have ej:j=n:=by omega
     have dl:=dF j n (by omega)
     have H0:QO (∀p q,p<m+1->q<n->d3 p q=(D p !=D q)):=λ p q hp hq=>by
      by_cases e:p=m
      ·subst e;exact nL.o q (by omega)
      ·exact A1.o p q (by omega) hq
     clear ej C aL;go_wp2;go_roundw
     case rel=>exact⟨m+1,cF,d3,by omega,by go_num,HP.o,H0⟩
     case measure=>simp[QN];omega
  ·have em:m=n:=by omega
   have dl:=dF m n (by omega)
   have hA:=C;rw[em]at hA;have Q:=fV hA.done;have bS:QO (Yz n D To d):=Yz.start M2.o (λ i j hi hj=>HA.o i j (by omega) hj);clear em hA C HP HA;go_wp2_with fail
   go_loopg [11] (n*n+1) (λ gj x hF=>∃(U:Bool)(d:Nat->Nat->Bool),x=.bool U/\DB w hF w.heap.size n X d/\Yz n D To d/\QO (U=false->zM al d To lw n 0)/\QO (U=true->xY d n<gj))
   case atStart=>exact⟨true,d,rfl,Q.o,bS.o,fV (λ e=>by cases e),fV (λ _=>by have:=Ts d n;omega)⟩
   case round=>
    clear Q bS;obtain⟨U,d0,rfl,hM,bM,hI,hK⟩:=hrel;have Q:=fV hM
    cases U with
    | false=>
     have B1:=fV (bM.partC qR.o (hI.o rfl) hU.o);have H6:=fV bM.di;clear hM bM hI hK;go_wp2;go_ret;exact⟨X,d0,rfl,Q.o,B1.o,H6.o⟩
    | true=>
     have W0:=hK.o rfl;obtain⟨dd,rfl⟩:∃dd,gk=dd+1:=⟨gk-1,by omega⟩
     have bS:=fV bM;clear hM bM hI hK;go_wp2_with fail
     go_loopw [11,12] (λ x z A3=>∃(s:Nat)(d:Nat->Nat->Bool)(U:Bool),s<=n/\x=.bool U/\z=.int .i64 (s:Int)/\DB w A3 w.heap.size n X d/\Yz n D To d/\xY d n<=xY d0 n/\QO (U=true->xY d n<xY d0 n)/\QO (U=false->zM al d To lw s 0)) (λ _ z _=>n-(QN z).toNat)
     case atStart=>exact⟨0,d0,false,by omega,rfl,rfl,Q.o,bS.o,lR,fV (λ e=>by cases e),fV (λ _ i j hj hi=>by omega)⟩
     case round=>
      clear Q bS;obtain⟨s,d4,cP,hs,rfl,rfl,rT,lH,H2,hC,eO⟩:=hrel;have hH:=fV rT;have gL:=fV lH;clear rT lH;by_cases I:s<n
      ·have S5:=iI s n (by omega)
       go_wp2_with fail
       go_loopw [11,13] (λ x z O0=>∃(t:Nat)(d:Nat->Nat->Bool)(U:Bool),t<=s/\x=.bool U/\z=.int .i64 (t:Int)/\DB w O0 w.heap.size n X d/\Yz n D To d/\xY d n<=xY d0 n/\QO (U=true->xY d n<xY d0 n)/\QO (U=false->zM al d To lw s t)) (λ _ z _=>s-(QN z).toNat)
       case atStart=>exact⟨0,d4,cP,by omega,rfl,rfl,hH.o,gL.o,H2,hC,eO⟩
       case round=>
        clear hH gL hC eO;obtain⟨t,Z,J,ht,rfl,rfl,aT,hD,eR,eN,hW⟩:=hrel;have Y:=fV aT;have bO:=fV hD;by_cases H1:t<s
        ·have X1:=iI t n (by omega)
         have O7:=iI t s (by omega)
         have H3:=dT t s (by omega)
         have dr:=aT.da.r s I;have dc:=aT.da.c s t I (by omega);have bT:QO ((∀b,b<256->lw[b]?=some b->Z s t=false->oK al Z To s t b=false)->J=false->zM al Z To lw s (t+1)):=λ hh e i j eT E6 hd b hb hl=>by
          by_cases e2:i=s/\j=t
          ·rw[e2.1,e2.2]at hd ⊢;exact hh b hb hl hd
          ·exact hW.o e i j eT (by omega) hd b hb hl
         clear aT hD
         cases hdv:Z s t with
         | true=>
          rw[hdv]at dc;have bC:QO (J=false->zM al Z To lw s (t+1)):=bT.o (λ b hb hl e=>by rw[hdv]at e;cases e);clear hdv bT;go_wp2;go_roundw
          case rel=>exact⟨t+1,Z,J,by omega,rfl,by go_num,Y.o,bO.o,eR,eN,bC⟩
          case measure=>simp[QN];omega
         | false=>
          rw[hdv]at dc;have nN:=fV hdv;clear hdv;go_upto_region 21 with fail;refine(H5.o _ (Y.o.bl) X Z Y.o.da s t I (by omega)).mono ?_;rintro e w6 ⟨r6,rfl,aO,N1⟩;have V:=fV (Y.o.below aO);have S2:=fV aO;have T2:=aO.size;rcases N1 with⟨rfl,b,hb,hX⟩|⟨rfl,iN⟩
          ·have A0:=Rm qR.o O3.o I (show t<n by omega) hb bO.o.sd hX;have N0:=fV (bO.o.put (i:=s) (j:=t) (by omega) A0);have W9:=Ms H1 nN.o n I;have L1:=V.o.da.r s I;have O5:=V.o.da.c s t I (by omega);have B2:=V.o.fz s t I;have cN:=fV (V.o.set I (show t<n by omega) true);have O6:=fV (cN.o.set (show t<n by omega) I true);clear A0 hX hb bT dr dc aO nN;go_upto_region 22 with fail;have X0:=cN.o.da.r t (by omega);have W1:=cN.o.da.c t s (by omega) I;have W5:=cN.o.fz t s (by omega);clear L1 O5 B2 V Y;generalize w6.setCell ⟨X s,t,none⟩ (.bool true)=W7 at*;go_wp2;go_roundw
           case rel=>exact⟨t+1,rI Z s t,true,by omega,rfl,by go_num,O6.o,N0.o,by omega,fV (λ _=>by omega),fV (λ e=>by cases e)⟩
           case measure=>simp[QN];omega
          ·have bC:QO (J=false->zM al Z To lw s (t+1)):=bT.o (λ b hb hl _=>iN b hb hl);clear bT dr dc iN aO;go_wp2;go_roundw
           case rel=>exact⟨t+1,Z,J,by omega,rfl,by go_num,V.o,bO.o,eR,eN,bC⟩
           case measure=>simp[QN];omega
        ·have H4:t=s:=by omega
         have H3:=dF t s (by omega)
         have bC:QO (J=false->zM al Z To lw (s+1) 0):=λ e i j eT E6 hd b hb hl=>hW.o e i j eT (by omega) hd b hb hl
         clear H4 aT hD;go_wp2;go_roundw
         case rel=>exact⟨s+1,Z,J,by omega,rfl,by go_num,Y.o,bO.o,eR,eN,bC⟩
         case measure=>simp[QN];omega
      ·have W4:=dF s n (by omega)
       have hR:s=n:=by omega
       have HC:QO (cP=false->zM al d4 To lw n 0):=by rw[<-hR];exact eO
       have HM:QO (cP=true->xY d4 n<dd):=λ e=>by have:=hC.o e;omega
       clear hR;go_wp2;go_roundg dd
       case measure=>omega
       case rel=>exact⟨cP,d4,rfl,hH.o,gL.o,HC,HM⟩
def Uf(w:tW)(v1 v2:tV)(n:Nat)(I:Nat->Int)(tr:Nat->Nat->Int):Prop:=
 ∃(o F C D:Nat)(rw:Nat->Nat),v1=.slice (some ⟨o,0,none⟩) n F/\v2=.slice (some ⟨C,0,none⟩) n D/\(o<w.heap.size/\C<w.heap.size/\∀s,s<n->rw s<w.heap.size)/\(∀s,s<n->w.cell? ⟨o,s,none⟩=some (.int .i64 (I s)))/\(∀s,s<n->w.cell? ⟨C,s,none⟩=some (.slice (some ⟨rw s,0,none⟩) 256 256))/\∀s b,s<n->b<256->w.cell? ⟨rw s,b,none⟩=some (.int .i64 (tr s b))
theorem Uf.below{w w':tW}{v1 v2:tV}{Q:Nat->Int}{tr:Nat->Nat->Int}(h:Uf w v1 v2 n Q tr)(C:Below B w w')(hb:w.heap.size<=B):Uf w' v1 v2 n Q tr:=by
 obtain⟨F,X,I,Z,rw,U,V,⟨h1,h2,J⟩,Y,h5,h6⟩:=h;have hz:=C.size;exact⟨F,X,I,Z,rw,U,V,⟨by omega,by omega,λ s o=>by have:=J s o;omega⟩,λ s o=>(C.cell (p:=⟨F,s,none⟩) (by show F<B;omega)).trans (Y s o),λ s o=>(C.cell (p:=⟨I,s,none⟩) (by show I<B;omega)).trans (h5 s o),λ s b o D=>(C.cell (p:=⟨rw s,b,none⟩) (by have:=J s o;show rw s<B;omega)).trans (h6 s b o D)⟩
structure JC(w:tW)(g m:Nat)(ns:Nat->Nat)(of:Nat->Nat->Int)(tr:Nat->Nat->Nat->Int):Prop where
 t:∀c,c<m->∃v1 v2,w.cell? ⟨g,c*2,none⟩=some v1/\w.cell? ⟨g,c*2+1,none⟩=some v2/\Uf w v1 v2 (ns c) (of c) (tr c)
 b:g<w.heap.size
theorem JC.below{w w':tW}{ns:Nat->Nat}{C:Nat->Nat->Int}{tr:Nat->Nat->Nat->Int}(h:JC w g m ns C tr)(o:Below B w w')(J:w.heap.size<=B):JC w' g m ns C tr:=by
 have U:=o.size;have V:=h.b;refine⟨λ c Q=>?_,by omega⟩;obtain⟨v1,v2,F,I,D⟩:=h.t c Q;exact⟨v1,v2,(o.cell (p:=⟨g,c*2,none⟩) (by show g<B;omega)).trans F,(o.cell (p:=⟨g,c*2+1,none⟩) (by show g<B;omega)).trans I,D.below o J⟩
theorem CU{w:tW}{ns:Nat->Nat}{of:Nat->Nat->Int}{tr:Nat->Nat->Nat->Int}(h:JC w g m ns of tr)(hm:m<=100)(aL:∀c,c<m->ns c<=2000){a b:Nat}(ha:a<256)(hb:b<256):
  QW MD 79 #[.slice (some ⟨g,0,none⟩) m aJ,.int .i64 (a:Int),.int .i64 (b:Int)] w λ e w'=>e=.returned (.bool (mJ ns tr m a b))/\Bl w w':=by
 have HT:=fV h;have aO:=fV aL;have bM:(0:Int)<=(a:Int)/\(a:Int)<(256:Int):=by omega
 have bK:(0:Int)<=(b:Int)/\(b:Int)<(256:Int):=by omega
 clear h aL;go_enter func79,ntmps79;go_wp2_with fail
 go_loopw [7] (λ z wr=>∃(c q:Nat),c<=m/\z=.int .i64 (c:Int)/\wr=w.drewN q/\QO (∀C,C<c->∀s,s<ns C->tr C s a=tr C s b)) (λ z _=>m-(QN z).toNat)
 case atStart=>exact⟨0,0,by omega,rfl,rfl,fV (λ C hc=>by omega)⟩
 case round=>
  obtain⟨c,q,hc,rfl,rfl,HA⟩:=hrel;by_cases Q:c<m
  ·have aW:=iI c m (by omega)
   obtain⟨v1,v2,k1,k2,g1,c1,g2,c2,rw,e1,e2,_,_,k5,k6⟩:=HT.o.t c Q;subst e1 e2;have hn:=aO.o c Q;have aT:=fV k5;have Y:=fV k6;obtain⟨nc,V⟩:=xE (ns c)
   rw[V]at k2 hn;have F:=fV V;clear k1 k5 k6 V;go_wp2_with fail
   go_loopw [8] (λ z wr=>∃(s q:Nat),s<=nc/\z=.int .i64 (s:Int)/\wr=w.drewN q/\QO (∀D,D<s->tr c D a=tr c D b)) (λ z _=>nc-(QN z).toNat)
   case atStart=>exact⟨0,q,by omega,rfl,rfl,fV (λ C hc=>by omega)⟩
   case round=>
    obtain⟨s,q2,hs,rfl,rfl,Z⟩:=hrel;by_cases I:s<nc
    ·have bC:=iI s nc (by omega)
     have y0:=aT.o s (by rw[F.o];exact I);have ya:=Y.o s a (by rw[F.o];exact I) ha;have yb:=Y.o s b (by rw[F.o];exact I) hb;by_cases X:tr c s a=tr c s b
     ·have U:QO (∀D,D<s+1->tr c D a=tr c D b):=λ D J=>by
       by_cases e:D=s
       ·rw[e];exact X
       ·exact Z.o D (by omega)
      rw[X]at ya;generalize tr c s b=tv at*;have dv:(tv !=tv)=false:=by simp
      clear X;go_upto_region 7 with fail;go_big_region
      all_goals
       go_wp2;go_roundw
       case rel=>exact⟨s+1,q2+1,by omega,by go_num,rfl,U⟩
       case measure=>simp[QN];omega
     ·have HR:QO (mJ ns tr m a b=false):=by
       unfold QO
       cases hv:mJ ns tr m a b with
       | false=>rfl
       | true=>exact absurd (rF.1 hv c Q s (by rw[F.o];exact I)) X
      have dv:(tr c s a !=tr c s b)=true:=by rw[aD];exact X
      clear X;generalize tr c s a=tva at*;generalize tr c s b=tvb at*;go_upto_region 7 with fail;go_big_region
      all_goals
       go_wp2;go_ret;exact⟨by rw[HR.o];rfl,rfl,rfl,rfl,lR,λ _ _=>rfl⟩
    ·have ds:=dF s nc (by omega)
     have U:QO (∀C,C<c+1->∀s,s<ns C->tr C s a=tr C s b):=λ C aR D J=>by
      by_cases e:C=c
      ·subst e;rw[F.o]at J;exact Z.o D (by omega)
      ·exact HA.o C (by omega) D J
     go_wp2;go_roundw
     case rel=>exact⟨c+1,q2,by omega,by go_num,rfl,U⟩
     case measure=>simp[QN];omega
  ·have dc:=dF c m (by omega)
   have HR:QO (mJ ns tr m a b=true):=Ed (λ C aR s hs=>HA.o C (by omega) s hs);go_wp2;go_ret;exact⟨by rw[HR.o];rfl,rfl,rfl,rfl,lR,λ _ _=>rfl⟩
def V8(ns:List Nat):List tV:=ns.map (λ(m:Nat)=>NM .u8 (m:Int))
structure C2(w wr:tW)(x y:tV)(aK aN:List Nat):Prop where
 o1:wr.ownsRow w.heap.size 5 1 x aK.length (V8 aK)
 o2:wr.ownsRow w.heap.size 3 1 y aN.length (kK aN)
 di:∀k,x.ownBlock=some k->y.ownBlock≠some k
 bl:Bl w wr
theorem C2.start(w:tW):C2 w w (.slice none 0 0) (.slice none 0 0) [] []:=⟨NG _ _ _ 1,NG _ _ _ 1,λ k e=>(by cases e),bR⟩
theorem C2.below{w wr w':tW}{x y:tV}(h:C2 w wr x y aK aN)(C:Bl wr w'):C2 w w' x y aK aN:=
 ⟨iH h.o1 (λ k o=>C.block k (h.o1.lt k o).2),iH h.o2 (λ k o=>C.block k (h.o2.lt k o).2),h.di,lZ h.bl C⟩
theorem C2.app1{w wr w4:tW}{x y:tV}(h:C2 w wr x y aK aN){o:Obj}{g aJ n v:Nat}(hn:aK.length=n)(F:w4.ownsRow w.heap.size 5 1 (.slice (some ⟨g,0,none⟩) (n+1) aJ) (n+1) (V8 aK++[.int .u8 (v:Int)]))(C:(wr.alloc o).grownBy w4 x.ownBlock)(I:x.ownBlock=some g\/g=wr.heap.size+1):C2 w w4 (.slice (some ⟨g,0,none⟩) (n+1) aJ) y (aK++[v]) aN:=by
 subst hn;have Y:=h.bl.size;have X:=C.size;have Z:(wr.alloc o).heap.size=wr.heap.size+1:=by simp
 have J:∀k,k<wr.heap.size->x.ownBlock≠some k->w4.heap[k]?=wr.heap[k]? :=λ k J Q=>(C.block k (by omega) (λ e=>Q e.symm)).trans (LM wr o k J)
 refine⟨by unfold V8 at*;rw[LH,LK,ND];exact F,iH h.o2 (λ k D=>J k (h.o2.lt k D).2 (λ e=>h.di k e D)),λ k e=>?_,lU h.bl h.o1 C⟩;have e:g=k:=by simpa[LY]using e
 subst e;rcases I with U|U
 ·exact h.di g U
 ·intro V;have:=(h.o2.lt g V).2;omega
theorem C2.app2{w wr w4:tW}{x y:tV}(h:C2 w wr x y aK aN){o:Obj}{g aJ n v:Nat}(hn:aN.length=n)(F:w4.ownsRow w.heap.size 3 1 (.slice (some ⟨g,0,none⟩) (n+1) aJ) (n+1) (kK aN++[.int .i64 (v:Int)]))(C:(wr.alloc o).grownBy w4 y.ownBlock)(J:y.ownBlock=some g\/g=wr.heap.size+1):C2 w w4 x (.slice (some ⟨g,0,none⟩) (n+1) aJ) aK (aN++[v]):=by
 subst hn;have Y:=h.bl.size;have X:=C.size;have Z:(wr.alloc o).heap.size=wr.heap.size+1:=by simp
 have Q:∀k,k<wr.heap.size->y.ownBlock≠some k->w4.heap[k]?=wr.heap[k]? :=λ k Q U=>(C.block k (by omega) (λ e=>U e.symm)).trans (LM wr o k Q)
 refine⟨iH h.o1 (λ k D=>Q k (h.o1.lt k D).2 (λ e=>h.di k D e)),by unfold kK at*;rw[LH,LK,ND];exact F,λ k e I=>?_,lU h.bl h.o2 C⟩;have I:g=k:=by simpa[LY]using I
 subst I;rcases J with V|V
 ·exact h.di g e V
 ·have:=(h.o1.lt g e).2;omega
theorem Hw{w:tW}{ns:Nat->Nat}{of:Nat->Nat->Int}{tr:Nat->Nat->Nat->Int}(h:JC w g m ns of tr)(hm:m<=100)(hC:∀c,c<m->ns c<=2000):
  QW MD 50 #[.slice (some ⟨g,0,none⟩) m aJ] w λ e w'=>∃x y,e=.returned (.tuple #[x,y])/\C2 w w' x y (mR 256 (mJ ns tr m)).1 (mR 256 (mJ ns tr m)).2:=by
 have hF:=fV (λ(W:tW)(hB:Bl w W)(a b:Nat)(ha:a<256)(hb:b<256)=>CU (aJ:=aJ) (h.below hB lR) hm hC ha hb);clear h hC;generalize mJ ns tr m=Q at*;obtain⟨FC,cN⟩:=xE (mR 256 Q)
 rw[cN];have hJ:=fV cN;clear cN;go_enter func50,ntmps50;go_wp2_with fail
 go_loopg [4,5,6] 256 (λ gj x y z wr=>∃(b:Nat)(aK aN:List Nat),b+gj=256/\z=.int .i64 (b:Int)/\aK.length=b/\aN.length<=b/\(∀f,f∈aN->f<256)/\FC=uX Q gj b aK aN/\C2 w wr x y aK aN)
 case atStart=>exact⟨0,[],[],by omega,rfl,rfl,by simp,λ f hf=>absurd hf NC,hJ.o.symm,C2.start w⟩
 case round=>
  obtain⟨b,aK,aN,hR,rfl,aL,hK,hE,hQ,bC⟩:=hrel;have HC:=fV bC;have HQ:=fV hQ;have bM:=fV hE;have J:=fV aL;have hW:=bC.bl.size;obtain⟨ax,cx,ex⟩:=gA bC.o1;obtain⟨ay,cy,ey⟩:=gA bC.o2;subst ex ey;rw[aL]at HC ⊢;obtain⟨nf,bS⟩:=xE (aN.length)
  rw[bS]at HC hK ⊢;have D:=fV bS;clear bC hQ hE aL bS;by_cases eT:b<256
  ·obtain⟨d,rfl⟩:∃d,gk=d+1:=⟨gk-1,by omega⟩
   have hH:decide ((b:Int)<(256:Int))=true:=by simp;omega
   go_upto_block 2 with fail
   go_cut [7] from 9 to 39 (λ fv wc=>fv=.int .i64 ((gW Q aN b aN.length:Nat):Int)/\Bl wr wc)
   case first=>
    go_wp2_with fail
    go_loopg [7] nf (λ gj fv wj=>∃(f:Nat),fv=.int .i64 (f:Int)/\f+gj=nf/\Bl wr wj/\QO (gW Q aN b aN.length=gW Q aN b gj))
    case atStart=>exact⟨0,rfl,by omega,bR,by unfold QO;rw[D.o]⟩
    case round=>
     obtain⟨f,rfl,hL,V,cF⟩:=hrel;have eS:=fV V;have hP:=V.size;by_cases eO:f<nf
     ·obtain⟨j,rfl⟩:∃j,gk=j+1:=⟨gk-1,by omega⟩
      have hx:=LC (l:=aN) (i:=f) (by rw[D.o];exact eO);obtain⟨x,ex⟩:∃x,aN[f]'(by rw[D.o];exact eO)=x:=⟨_,rfl⟩
      rw[ex]at hx;have cP:=bM.o x (LJ hx);obtain⟨g2,Z,eg⟩:∃g2 Z,MJ ay nf cy=.slice (some ⟨g2,0,none⟩) nf Z:=by
       rcases iL HC.o.o2 with e|⟨g2,Z,e⟩
       ·injection e with _ e3 _;omega
       ·rw[D.o]at e;exact⟨g2,Z,e⟩
      injection eg with ea _ ec;subst ea ec;have hI:=(HC.o.o2.lt g2 rfl).2;have y0:wr.cell? ⟨g2,f,none⟩=some (.int .i64 (x:Int)):=by
       have:=HC.o.o2.cells (g:=g2) rfl f _ (qH hx);rw[oM,MA]at this;exact(V.cell (p:=⟨g2,f,none⟩) hI).trans this
      have F:= @D0 Q aN b f j (by rw[D.o];exact hL);have hD:aN.getD f 0=x:=by rw[LN,hx];rfl
      rw[hD]at F;have eR:=fV F;have hT:=iI f nf (by omega)
      have bO:=dT f nf (by omega)
      have hM:=fV (lZ HC.o.bl V);clear F hD hx ex V;go_wp2_with fail;refine(hF.o _ hM.o x b cP eT).mono ?_;rintro e w3 ⟨rfl,aO⟩;have eL:=fV (lZ eS.o aO);clear aO
      cases hq:Q x b with
      | true=>
       have HE:QO (gW Q aN b aN.length=f):=cF.o.trans (by rw[eR.o,aB hq]);clear hq;go_wp2;go_meet
       case rel=>exact⟨by rw[HE.o],eL.o⟩
      | false=>
       have HE:QO (gW Q aN b aN.length=gW Q aN b j):=cF.o.trans (by rw[eR.o,aA (by rw[hq];decide)]);clear hq;go_wp2;go_roundg j
       case measure=>omega
       case rel=>exact⟨f+1,by go_num,by omega,eL.o,HE⟩
     ·have e:gk=0:=by omega
      subst e;have bO:=dF f nf (by omega)
      have HE:QO (gW Q aN b aN.length=f):=cF.o.trans (by rw[gW,D.o];omega);go_wp2;go_meet
      case rel=>exact⟨by rw[HE.o],eS.o⟩
   case rest=>
    obtain⟨rfl,aO⟩:=hcut;have aW:=fV (HC.o.below aO);have hU:w.heap.size<=wc.heap.size:=aW.o.bl.size;have F:uX Q (d+1) b aK aN=if gW Q aN b aN.length=aN.length then uX Q d (b+1) (aK++[aN.length]) (aN++[b])else uX Q d (b+1) (aK++[gW Q aN b aN.length]) aN:=rfl;have hA:=tF Q aN b aN.length;rw[D.o]at F hA;have eX:=fV aW.o.o1;have hG:=fV aW.o.o2;rw[J.o]at eX;rw[D.o]at hG ⊢;clear HC aO;generalize gW Q aN b nf=fp at*;have hN:fp<=255:=by omega
    by_cases X:fp=nf
    ·rw[aB X]at F;have bO:((fp:Int)==(nf:Int))=true:=by rw[X];simp
     have HE:QO (FC=uX Q d (b+1) (aK++[fp]) (aN++[b])):=by unfold QO;rw[X];exact HQ.o.trans F
     have hV:=fV X;clear F X HQ;go_upto_region 13 with(first|(at_builtin;refine gB wc rfl (.tmp 31) (.tmp 33) 59 rfl w.heap.size 3 (.int .i64 0) 1 8 MO bX rfl (by decide) (by decide) (.slice ay nf cy) nf (kK aN) [.int .i64 (b:Int)] _ rfl hG.o _ rfl rfl rfl (by simp[LR]) (by omega) (by omega) ?_;intro g4 cap4 w4 aT Y bK gL;have bT:=fV (aW.o.app2 D.o aT Y bK);clear aT Y bK gL))
     have eM:=fV bT.o.o1;rw[J.o]at eM;have hS:=bT.o.bl.size;go_wp2_with (first|(at_builtin;refine gB w4 rfl (.tmp 35) (.tmp 38) 116 rfl w.heap.size 5 (.int .u8 0) 1 1 MH bV rfl (by decide) (by decide) (.slice ax b cx) b (V8 aK) [.int .u8 (fp:Int)] _ rfl eM.o _ rfl rfl rfl (by simp[LR]) (by omega) (by omega) ?_;intro g6 eN w6 I C U aR;have bN:=fV (bT.o.app1 J.o I C U);clear I C U aR));go_roundg d
     case measure=>omega
     case rel=>exact⟨b+1,aK++[fp],aN++[b],by omega,by go_num,by rw[LH,J.o];rfl,by rw[LH,D.o,LK];omega,λ f hf=>by
      rcases OI.1 hf with e|e
      ·exact bM.o f e
      ·rw[ML.1 e];exact eT,HE.o,bN.o⟩
    ·rw[aA X]at F;have bO:((fp:Int)==(nf:Int))=false:=by rw[aC];omega
     have HE:QO (FC=uX Q d (b+1) (aK++[fp]) aN):=HQ.o.trans F;clear F X HQ;go_wp2_with (first|(at_builtin;refine gB wc rfl (.tmp 35) (.tmp 38) 116 rfl w.heap.size 5 (.int .u8 0) 1 1 MH bV rfl (by decide) (by decide) (.slice ax b cx) b (V8 aK) [.int .u8 (fp:Int)] _ rfl eX.o _ rfl rfl rfl (by simp[LR]) (by omega) (by omega) ?_;intro g6 eN w6 I C U aR;have bN:=fV (aW.o.app1 J.o I C U);clear I C U aR));go_roundg d
     case measure=>omega
     case rel=>exact⟨b+1,aK++[fp],aN,by omega,by go_num,by rw[LH,J.o];rfl,by rw[D.o];omega,bM.o,HE.o,bN.o⟩
  ·have eb:b=256:=by omega
   have e:gk=0:=by omega
   subst e;have hH:decide ((b:Int)<(256:Int))=false:=by simp;omega
   have HE:QO (FC=(aK,aN)):=HQ.o;go_wp2;go_ret2;exact⟨_,_,rfl,by rw[HE.o];exact HC.o⟩
structure WJ(w2 w:tW)(g aJ:Nat)(aS:List UInt8)(g2:Nat)(fi:List Nat):Prop where
 wi:WI w2 w g aJ aS
 c:∀(i v:Nat),fi[i]?=some v->w.cell? ⟨g2,i,none⟩=some (.int .i64 (v:Int))
 ne:g≠g2
 lt:g2<w.heap.size
theorem WJ.app{w2 w w4:tW}{g4 cap4 D:Nat}{fi:List Nat}(h:WJ w2 w g aJ aS D fi){o:Obj}{n:Nat}(hn:n<256)(F:w4.ownsRow w2.heap.size 5 1 (.slice (some ⟨g4,0,none⟩) (aS.length+1) cap4) (aS.length+1) (oE aS++[.int .u8 (n:Int)]))(C:(w.alloc o).grownBy w4 (some g))(I:(MJ (some ⟨g,0,none⟩) aS.length aJ).ownBlock=some g4\/g4=w.heap.size+1):
  WJ w2 w4 g4 cap4 (aS++[LG n]) D fi:=by
 have J:=h.lt;have Q:=h.ne;have U:=C.size;have Y:(w.alloc o).heap.size=w.heap.size+1:=by simp
 have X:w4.heap[D]?=w.heap[D]? :=(C.block D (by omega) (λ e=>Q (by injection e with e;omega))).trans (LM w o D J);refine⟨h.wi.app hn F C,λ i v V=>(LF (w:=w) (a:=⟨D,i,none⟩) X).trans (h.c i v V),?_,by omega⟩;rcases I with e|e
 ·have:g=g4:=by simpa[LY]using e
  omega
 ·omega
theorem Us:∀(aK:List Nat),aK.map LG=oS aK.length (λ b=>[LG (aK.getD b 0)]):=by
 intro aK;have:∀k,k<=aK.length->(aK.take k).map LG=oS k (λ b=>[LG (aK.getD b 0)]):=by
  intro k
  induction k with
  | zero=>intro _;rfl
  | succ k ih=>
   intro o;rw[nZ,<-ih (by omega),MY,LC (by omega),ND,LN,LC (by omega)]
   rfl
 have:=this aK.length lR;rw[MM]at this;exact this
theorem WI.appL{w2 w:tW}(h:WI w2 w g aJ aS){ops:Array Oper}{rest:List Oper}{o:Oper}{a:Act}{Q:Exit->Act->tW->Prop}(U:o.guard=none)(s x:Operand)
  (ho:o.op=.call {callee:= .builtin .append,args:= #[s,x],argTypes:= #[116,116]})
  (n cn:Nat) (F:aS.length=n) (hs:a.eval s=.slice (some ⟨g,0,none⟩) n aJ) (I V m:Nat) (aK:List Nat) (hm:aK.length=m) (hx:a.eval x=.slice (some ⟨I,0,none⟩) m V) (J:∀v∈aK,v<256) (hc:∀(i v:Nat),aK[i]?=some v->w.cell? ⟨I,i,none⟩=some (.int .u8 (v:Int))) (hn:n<=cn) (aL:cn+m<=1000000) (h0:0<m)
  (Z:∀g4 cap4 w4 Y,Y=n+m->WI w2 w4 g4 cap4 (aS++aK.map LG)->w.grownBy w4 (some g)->(some g=some g4\/g4=w.heap.size)->wpList MD ops Q rest (a.put o.dst (.slice (some ⟨g4,0,none⟩) Y cap4)) w4):wpList MD ops Q (o::rest) a w:=by
 obtain⟨i,hi,hz,D,hb⟩:=QS bV;subst F hm;refine QU w U s x 116 ho w2.heap.size 5 i (.int .u8 0) 1 1 MH hi hz D hb rfl (by decide) (.slice (some ⟨g,0,none⟩) aS.length aJ) aS.length (oE aS) hs h.rw ⟨I,0,none⟩ aK.length V (aK.map (λ(v:Nat)=>NM .u8 (v:Int))) hx (by simp) (λ j y C=>?_) (λ y C=>?_) (by omega) (by unfold QV;omega) (by omega) h.bl.size w.heap.size rfl (λ g4 cap4 w4 h1 X h3 _=>?_)
 ·rw[oM,MA];rw[MR]at C
  cases e:aK[j]? with
  | none=>rw[e]at C;cases C
  | some v=>
   rw[e]at C;injection C with C;rw[<-C];exact hc j v e
 ·obtain⟨m,_,rfl⟩:=OK.1 C
  rfl
 ·refine Z g4 cap4 w4 _ rfl ⟨h.bl.grown X h.bl.size (λ k hk=>(show g=k by simpa[LY]using hk)▸(h.rw.lt g rfl).1),?_⟩ X h3;have e:oE (aS++aK.map LG)=oE aS++aK.map (λ(v:Nat)=>NM .u8 (v:Int)):=by
   unfold oE;rw[ND,List.map_map];congr 1;exact List.map_congr_left (λ v hv=>by show NM .u8 _=_;rw[R4 (J v hv)])
  rw[e,LH,MT];exact h1
theorem Ih{R:List RV}{ns:Nat->Nat}{of:Nat->Nat->Int}{tr:Nat->Nat->Nat->Int}{ru:List ((Nat->Bool)×Int×Int)}{w:tW}(hr:II fb w R gR cR)(c3:w.cell? ⟨fb,3,none⟩=some (.int .i64 (m:Int)))(hT:JC w g m ns of tr)(hm:m<=4)(rT:∀c,c<m->ns c<=100)(hR:R.length<=8)
  (B1:∀x∈R,x.c=46\/x.c=45\/(65<=x.c/\x.c<69)) (hG:ru.length=R.length) (T2:∀(k:Nat)(x:RV),R[k]?=some x->tM ru k=N3 x.c) (H4:∀c s,c<m->s<ns c-> -1<=of c s/\of c s<8) (Hb:∀c s b,c<m->s<ns c->b<256->tr c s b= -1\/(0<=tr c s b/\tr c s b<(ns c:Int))):
  QW MD 23 #[.pointer (some ⟨fb,0,none⟩),.slice (some ⟨g,0,none⟩) m aJ] w λ e w'=>e=.returned (.string ⟨(Jv ru m 256 (λ b=>b) ns (λ c=>zR (of c)) tr).toArray⟩)/\Bl w w':=by
 have W8:=fV (λ(W:tW)(hB:Bl w W)=>Hw (aJ:=aJ) (hT.below hB lR) (by omega) (λ c hc=>by have:=rT c hc;omega));obtain⟨f1,f2,f3,f4,f5⟩:=K8 (mJ ns tr m) 256;have c4:=f5 (by omega);have HL:QO (Jv ru m 256 (λ b=>b) ns (λ c=>zR (of c)) tr=sX ru++oS ru.length (λ k=>[LG (tM ru k)])
  ++[LG m,LG ((mR 256 (mJ ns tr m)).2.length-1)]++oS 256 (λ b=>[LG ((mR 256 (mJ ns tr m)).1.getD b 0)])
  ++oS m (λ c=>[LG (ns c)]++oS (ns c) (S7 (λ c=>zR (of c)) tr (mR 256 (mJ ns tr m)).2 c))):=rfl
 have a4:QO (oS 256 (λ b=>[LG ((mR 256 (mJ ns tr m)).1.getD b 0)])=(mR 256 (mJ ns tr m)).1.map LG):=by
  unfold QO;rw[Us,f1]
 rw[a4.o]at HL;clear a4;generalize Jv ru m 256 (λ b=>b) ns (λ c=>zR (of c)) tr=RES at*;generalize (mR 256 (mJ ns tr m)).1=co at*;generalize (mR 256 (mJ ns tr m)).2=fi at*;obtain⟨nR,rL⟩:=xE (R.length)
 have k1:=hr.c1;have b0:=hr.b0;rw[rL]at k1 hR hG;rw[hG]at HL;have W1:QO (sX ru=[LG 83,LG 84,LG 1,LG nR]):=by unfold QO sX;rw[hG]
 have d3:=fV hr;have HT:=fV hT;have f9:=fV rT;have b3:=fV B1;have b6:=fV T2;have e5:=fV H4;have b4:=fV Hb;have tL:=fV f1;have f8:=fV f3;have f0:=fV f4;have a0:=fV rL;have nL:=fV (WI.new w (m:=nR) (by omega));rw[<-W1.o]at nL;have cF:(sX ru).length=4:=rfl;clear hr hT rT B1 hG T2 H4 Hb f1 f3 f4 f5 rL W1;go_enter func23,ntmps23;go_upto_region 2 with fail;generalize w.alloc (.cells #[.int .u8 83,.int .u8 84,.int .u8 1,.int .u8 (nR:Int)] 5)=W0 at*;generalize sX ru=A0 at*;replace cF:=fV cF;go_wp2_with fail
 go_loopg [5,6] nR (λ gk iv kv wr=>∃(k g aJ:Nat)(aS:List UInt8),iv=.slice (some ⟨g,0,none⟩) aS.length aJ/\kv=.int .i64 (k:Int)/\k+gk=nR/\aS.length=4+k/\aS=A0++oS k (λ k=>[LG (tM ru k)])/\WI w wr g aJ aS)
 case atStart=>exact⟨0,w.heap.size,4,A0,by rw[cF.o],rfl,by omega,cF.o,(MS _).symm,nL.o⟩
 case round=>
  obtain⟨k,g1,D,aS,rfl,rfl,i1,sR,V,cP⟩:=hrel;have hD:=fV sR;have I:=fV V;have aT:=fV cP;have eT:=cP.bl.size;have e4:=(cP.bl.cell (p:=⟨fb,1,none⟩) b0).trans k1;have sW:=(cP.bl.cell (p:=⟨fb,3,none⟩) b0).trans c3;clear sR V cP nL;by_cases O7:k<nR
  ·obtain⟨d,rfl⟩:∃d,gk=d+1:=⟨gk-1,by omega⟩
   have hx:=LC (l:=R) (i:=k) (by rw[a0.o];exact O7);obtain⟨x,ex⟩:∃x,R[k]'(by rw[a0.o];exact O7)=x:=⟨_,rfl⟩
   rw[ex]at hx;have O3:=b3.o x (LJ hx);have y0:wr.cell? ⟨gR,k*3+1,none⟩=some (.int .u8 (x.c:Int)):=((d3.o.below aT.o.bl lR).rl k x hx).1 1 _ rfl;have a9:=fV (b6.o k x hx);have a5:=fV (λ W=>Wf x.c W O3);have d4:N3 x.c<256:=by unfold N3;split;omega;split<;>omega
   generalize x.c=xc at*;generalize N3 xc=bn at*;have b1:=dT k nR (by omega)
   have j0:=iI k nR (by omega)
   clear hx ex O3;go_wp2_with fail;refine(a5.o _).mono ?_;rintro e w3 ⟨rfl,q,N0⟩;have aW:QO (WI w w3 g1 D aS):=by unfold QO;rw[N0];exact aT.o.below ⟨rfl,rfl,rfl,lR,λ _ _=>rfl⟩
   have a6:=aW.o.bl.size;clear N0 aT a5 y0 e4 sW;go_wp2_with (first|(at_builtin;refine gB w3 rfl (.tmp 39) (.tmp 41) 116 rfl w.heap.size 5 (.int .u8 0) 1 1 MH bV rfl (by decide) (by decide) (.slice (some ⟨g1,0,none⟩) aS.length D) aS.length (oE aS) [.int .u8 (bn:Int)] _ rfl aW.o.rw _ rfl rfl rfl (by simp[LR]) (by have:=hD.o;omega) (by omega) ?_;intro g4 cap4 w4 Y F bS Q;have d0:=fV (aW.o.app d4 Y F);clear Y F bS));go_roundg d
   case measure=>omega
   case rel=>exact⟨k+1,g4,cap4,aS++[LG bn],by simp,by go_num,by omega,by rw[LH,hD.o];rfl,by rw[nZ,<-MI,<-I.o,a9.o],d0.o⟩
  ·have e:gk=0:=by omega
   subst e;have e:k=nR:=by omega
   subst e;have b1:=dF k k (by omega)
   have hE:QO (RES=aS++[LG m,LG (fi.length-1)]++co.map LG++oS m (λ c=>[LG (ns c)]++oS (ns c) (S7 (λ c=>zR (of c)) tr fi c))):=by
    unfold QO;rw[HL.o,I.o]
   obtain⟨FL,hI⟩:=xE (fi.length)
   rw[hI]at hE f2 c4;obtain⟨L,rfl⟩:∃L,FL=L+1:=⟨FL-1,by omega⟩
   rw[Nat.add_sub_cancel]at hE;have j5:((L+1:Nat):Int)-1=(L:Int):=by omega
   have i4:=(aT.o.rw.lt g1 rfl).2;have W9:=fV aT.o.bl;clear I HL;go_wp2_with fail;refine(W8.o _ W9.o).mono ?_;rintro e w3 ⟨vx,vy,rfl,cN⟩;have o1:=cN.o1;have o2:=cN.o2;rw[tL.o]at o1;rw[hI]at o2;have a6:=cN.bl.size;obtain⟨gx,cx,ex⟩:∃gx cx,vx=.slice (some ⟨gx,0,none⟩) 256 cx:=by
    rcases iL o1 with e|⟨g2,eS,e⟩
    ·obtain⟨a,c,e2⟩:=gA o1;rw[e]at e2;injection e2 with _ e3 _;omega
    ·exact⟨g2,eS,e⟩
   obtain⟨gy,cy,ey⟩:∃gy cy,vy=.slice (some ⟨gy,0,none⟩) (L+1) cy:=by
    rcases iL o2 with e|⟨g2,eS,e⟩
    ·obtain⟨a,c,e2⟩:=gA o2;rw[e]at e2;injection e2 with _ e3 _;omega
    ·exact⟨g2,eS,e⟩
   subst ex ey;have a8:=o1.lt gx rfl;have g0:=o2.lt gy rfl;have X0:QO (∀(i v:Nat),co[i]?=some v->w3.cell? ⟨gx,i,none⟩=some (.int .u8 (v:Int))):=λ i v hv=>by
    have:=o1.cells (g:=gx) rfl i (.int .u8 (v:Int)) (by unfold V8;rw[MR,hv];rfl);rw[oM,MA]at this;exact this
   have H0:QO (∀(i v:Nat),fi[i]?=some v->w3.cell? ⟨gy,i,none⟩=some (.int .i64 (v:Int))):=λ i v hv=>by
    have:=o2.cells (g:=gy) rfl i _ (qH hv);rw[oM,MA]at this;exact this
   have aW:=fV (aT.o.below cN.bl);have k4:=(cN.bl.cell (p:=⟨fb,3,none⟩) (by show fb<wr.heap.size;omega)).trans sW;have h9:fb<w3.heap.size:=by omega
   have hF:=fV hI;clear cN o1 o2 aT W9 W8 sW hI;go_upto_region 9 with(first|(at_builtin;refine Y3 w3 rfl (.tmp 48) (.tmp 58) 116 rfl w.heap.size 5 (.int .u8 0) 1 1 MH bV rfl (by decide) (by decide) (.slice (some ⟨g1,0,none⟩) aS.length D) aS.length (oE aS) [.int .u8 (m:Int),.int .u8 (L:Int)] _ rfl aW.o.rw _ rfl rfl rfl (by simp[LR]) (by have:=hD.o;omega) (by omega) ?_;intro g4 cap4 w4 Y F bS Q;have W4:=fV (aW.o.app2 (show m<256 by omega) (show L<256 by omega) Y F);have rO:=fV F;have W7:=fV bS;clear Y F bS))
   have bT:QO (∀k,k<w3.heap.size->k≠g1->w4.heap[k]?=w3.heap[k]?):=λ k hk c5=>(rO.o.block k (LO hk (by simp)) (λ e=>c5 (Option.some.inj e))).trans (LM w3 _ k hk)
   have j1:w3.heap.size+1<=w4.heap.size:=by have:=rO.o.size;simp at this;omega
   have O5:QO (g4=g1\/g4=w3.heap.size+1):=W7.o.imp (λ h=>(Option.some.inj h).symm) id;have hQ:QO (∀(i v:Nat),co[i]?=some v->w4.cell? ⟨gx,i,none⟩=some (.int .u8 (v:Int))):=λ i v hv=>(LF (w:=w3) (a:=⟨gx,i,none⟩) (bT.o gx a8.2 (by omega))).trans (X0.o i v hv)
   have hS:QO (∀(i v:Nat),fi[i]?=some v->w4.cell? ⟨gy,i,none⟩=some (.int .i64 (v:Int))):=λ i v hv=>(LF (w:=w3) (a:=⟨gy,i,none⟩) (bT.o gy g0.2 (by omega))).trans (H0.o i v hv)
   have O9:g4≠gy:=by rcases O5.o with e|e<;>omega
   have qR:QO ((aS++[LG m,LG L]).length=aS.length+2):=by unfold QO;simp
   have L1:(aS++[LG m,LG L]).length<=300:=by rw[qR.o,hD.o];omega
   rw[<-qR.o];generalize aS++[LG m,LG L]=A1 at*;obtain⟨N1,iN⟩:=xE (A1.length)
   rw[iN]at L1 ⊢;have T3:=fV iN;have d2:QO (∀v∈co,v<256):=λ v hv=>by have:=f0.o v hv;rw[hF.o]at this;omega
   clear hD qR X0 H0 bT rO W7 O5 aW iN;go_upto_region 10 with(first|(at_builtin;refine W4.o.appL rfl (.tmp 60) (.tmp 61) rfl N1 300 T3.o rfl gx cx 256 co tL.o rfl d2.o hQ.o L1 (by omega) (by omega) ?_;intro g5 bO w5 n5 tT hU hV aR;have H6:=fV hU;have nN:=fV tT;have eM:=fV hV;have hP:=fV aR;clear tT hU hV aR))
   have B2:QO (WJ w w5 g5 bO (A1++co.map LG) gy fi):=⟨H6.o,λ i v hv=>(LF (w:=w4) (a:=⟨gy,i,none⟩) (eM.o.block gy (by omega) (λ e=>O9 (Option.some.inj e).symm))).trans (hS.o i v hv),by
    rcases hP.o with e|e
    ·have:=Option.some.inj e;omega
    ·omega,by have:=eM.o.size;omega⟩
   have lH:QO ((A1++co.map LG).length=n5):=by unfold QO;rw[LH,MT,tL.o,T3.o,nN.o]
   have d1:n5<=600:=by have:=nN.o;omega
   have a2:QO (RES=(A1++co.map LG)++oS m (λ c=>[LG (ns c)]++oS (ns c) (S7 (λ c=>zR (of c)) tr fi c))):=hE.o;rw[<-lH.o];rw[<-lH.o]at d1;generalize A1++co.map LG=A2 at*;clear W4 H6 lH hE nN eM hP hQ hS;obtain⟨CB,tO⟩:∃f:Nat->List UInt8,(λ c=>[LG (ns c)]++oS (ns c) (S7 (λ c=>zR (of c)) tr fi c))=f:=⟨_,rfl⟩
   have g3:QO (∀c,CB c=[LG (ns c)]++oS (ns c) (S7 (λ c=>zR (of c)) tr fi c)):=λ c=>by rw[<-tO]
   rw[tO]at a2;clear tO;go_wp2_with fail
   go_loopg [5,10] m (λ gk iv kv wr=>∃(c g aJ:Nat)(aS:List UInt8),iv=.slice (some ⟨g,0,none⟩) aS.length aJ/\kv=.int .i64 (c:Int)/\c+gk=m/\aS.length<=1000+c*100000/\aS=A2++oS c CB/\WJ w wr g aJ aS gy fi)
   case atStart=>exact⟨0,g5,bO,A2,rfl,rfl,by omega,by omega,(MS _).symm,B2.o⟩
   case round=>
    obtain⟨c,g1,D,aS,rfl,rfl,h1,sR,V,U⟩:=hrel;have I:=fV V;have C:=fV U;have eT:=U.wi.bl.size;clear V U B2;by_cases bM:c<m
    ·obtain⟨d,rfl⟩:∃d,gk=d+1:=⟨gk-1,by omega⟩
     obtain⟨v1,v2,qL,a3,d5,j4,f6,i5,O8,e1,e2,⟨e6,h0,H1⟩,S2,P0,W6⟩:=HT.o.t c bM;subst e1 e2;have hW:=HT.o.b;have X1:=(C.o.wi.bl.cell (p:=⟨g,c*2,none⟩) hW).trans qL;have a7:=f9.o c bM;have eL:=g3.o c;have bT:=fV S2;have Pl:=fV P0;have O0:=fV W6;have E6:=fV H1;have hM:QO (∀s,s<ns c-> -1<=of c s/\of c s<8):=λ s hs=>e5.o c s bM hs
     have hK:QO (∀s b,s<ns c->b<256->tr c s b= -1\/(0<=tr c s b/\tr c s b<(ns c:Int))):=λ s b hs hb=>b4.o c s b bM hs hb
     obtain⟨N,hN⟩:=xE (ns c)
     rw[hN]at X1 qL a3 a7 eL bT Pl O0 E6 hM hK;have c9:QO (∀X,aS++[LG N]++oS N (S7 (λ c=>zR (of c)) tr fi c)=X->X=A2++oS (c+1) CB):=λ X hX=>by
      rw[<-hX,nZ,<-MI,<-I.o,eL,MI]
     have g9:=dT c m (by omega)
     have k0:=iI c m (by omega)
     clear eL I S2 P0 W6 H1 hN;go_upto_region 14 with(first|(at_builtin;refine gB wr rfl (.tmp 69) (.tmp 77) 116 rfl w.heap.size 5 (.int .u8 0) 1 1 MH bV rfl (by decide) (by decide) (.slice (some ⟨g1,0,none⟩) aS.length D) aS.length (oE aS) [.int .u8 (N:Int)] _ rfl C.o.wi.rw _ rfl rfl rfl (by simp[LR]) (by omega) (by omega) ?_;intro g5 bO w5 hC bN aR gL;have H2:=fV (C.o.app (show N<256 by omega) hC bN aR);clear hC bN aR))
     have eO:QO ((aS++[LG N]).length=aS.length+1):=by unfold QO;simp
     have j2:(aS++[LG N]).length<=1001+c*100000:=by rw[eO.o];omega
     rw[<-eO.o];generalize aS++[LG N]=A3 at*;clear C eO X1;go_wp2_with fail
     go_loopg [5,11] N (λ gk iv kv wr=>∃(s g aJ:Nat)(aS:List UInt8),iv=.slice (some ⟨g,0,none⟩) aS.length aJ/\kv=.int .i64 (s:Int)/\s+gk=N/\aS.length<=1001+c*100000+s*300/\aS=A3++oS s (S7 (λ c=>zR (of c)) tr fi c)/\WJ w wr g aJ aS gy fi)
     case atStart=>exact⟨0,g5,bO,A3,rfl,rfl,by omega,by omega,(MS _).symm,H2.o⟩
     case round=>
      obtain⟨s,g1,D,aS,rfl,rfl,h2,h4,V,U⟩:=hrel;have I:=fV V;have C:=fV U;have eT:=U.wi.bl.size;have e7:=(U.wi.bl.cell (p:=⟨g,c*2,none⟩) hW).trans qL;clear V U H2;by_cases Q:s<N
      ·obtain⟨ds,rfl⟩:∃d,gk=d+1:=⟨gk-1,by omega⟩
       have c2:=hM.o s Q;have d6:=(C.o.wi.bl.cell (p:=⟨d5,s,none⟩) e6).trans (bT.o s Q);have g7:=Pl.o s Q;have O6:QO (∀b,b<256->w.cell? ⟨O8 s,b,none⟩=some (.int .i64 (tr c s b))):=λ b hb=>O0.o s b Q hb
       have e0:=E6.o s Q;have Go:QO (∀b,b<256->tr c s b= -1\/(0<=tr c s b/\tr c s b<(N:Int))):=λ b hb=>hK.o s b Q hb
       have hH:QO (S7 (λ c=>zR (of c)) tr fi c s=[LG (of c s+1).toNat]++oS fi.length (λ i=>[LG (G7 (tr c s (fi.getD i 0)))])):=rfl;rw[hF.o]at hH;generalize of c s=ov at*;obtain⟨tk,Ha⟩:∃tk:Nat,(ov+1).toNat=tk:=⟨_,rfl⟩
       rw[Ha]at hH;have W3:ov+1=(tk:Int):=by omega
       have c6:tk<256:=by omega
       have W2:QO (∀X,aS++[LG tk]++oS (L+1) (λ i=>[LG (G7 (tr c s (fi.getD i 0)))])=X->X=A3++oS (s+1) (S7 (λ c=>zR (of c)) tr fi c)):=λ X hX=>by
        rw[<-hX,nZ s,<-MI,<-I.o,hH.o,MI]
       have e9:=dT s N (by omega)
       have i2:=iI s N (by omega)
       generalize tr c s=trs at*;generalize O8 s=rws at*;clear hH I Ha;go_upto_region 18 with(first|(at_builtin;refine gB wr rfl (.tmp 89) (.tmp 100) 116 rfl w.heap.size 5 (.int .u8 0) 1 1 MH bV rfl (by decide) (by decide) (.slice (some ⟨g1,0,none⟩) aS.length D) aS.length (oE aS) [.int .u8 (tk:Int)] _ rfl C.o.wi.rw _ rfl rfl rfl (by simp[LR]) (by omega) (by omega) ?_;intro g6 H3 w6 hA bC hL h3;have W5:=fV (C.o.app c6 hA bC hL);clear hA bC hL))
       have eX:QO ((aS++[LG tk]).length=aS.length+1):=by unfold QO;simp
       have cF:(aS++[LG tk]).length<=1002+c*100000+s*300:=by rw[eX.o];omega
       rw[<-eX.o];generalize aS++[LG tk]=A4 at*;clear C eX e7 d6 W3 c2;go_wp2_with fail
       go_loopg [5,12] (L+1) (λ gk iv kv wr=>∃(i g aJ:Nat)(aS:List UInt8),iv=.slice (some ⟨g,0,none⟩) aS.length aJ/\kv=.int .i64 (i:Int)/\i+gk=L+1/\aS.length<=1002+c*100000+s*300+i/\aS=A4++oS i (λ i=>[LG (G7 (trs (fi.getD i 0)))])/\WJ w wr g aJ aS gy fi)
       case atStart=>exact⟨0,g6,H3,A4,rfl,rfl,by omega,cF,(MS _).symm,W5.o⟩
       case round=>
        obtain⟨i,g1,D,aS,rfl,rfl,h6,h5,V,U⟩:=hrel;have I:=fV V;have C:=fV U;have eT:=U.wi.bl.size;clear V U W5;by_cases gL:i<L+1
        ·obtain⟨di,rfl⟩:∃d,gk=d+1:=⟨gk-1,by omega⟩
         have eN:=LC (l:=fi) (i:=i) (by rw[hF.o];exact gL);obtain⟨v,ev⟩:∃v,fi[i]'(by rw[hF.o];exact gL)=v:=⟨_,rfl⟩
         rw[ev]at eN;have hv:=f8.o v (LJ eN);have c8:=C.o.c i v eN;have X2:fi.getD i 0=v:=by rw[LN,eN];rfl
         have hJ:QO (A4++oS (i+1) (λ i=>[LG (G7 (trs (fi.getD i 0)))])=aS++[LG (G7 (trs v))]):=by
          unfold QO;rw[nZ i,<-MI,<-I.o,X2]
         have c7:=(C.o.wi.bl.cell (p:=⟨rws,v,none⟩) e0).trans (O6.o v hv);have j3:=(C.o.wi.bl.cell (p:=⟨g,c*2+1,none⟩) hW).trans a3;have k2:=(C.o.wi.bl.cell (p:=⟨f6,s,none⟩) h0).trans g7;have hx:=Go.o v hv;have H5:G7 (trs v)<256:=by unfold G7;split<;>omega
         have h7:(0:Int)<=(v:Int)/\(v:Int)<(256:Int):=by omega
         have b5:decide ((i:Int)<((L+1:Nat):Int))=true:=by simp;omega
         have i3:(0:Int)<=(i:Int)/\(i:Int)<((L+1:Nat):Int):=by omega
         have eR:QO (G7 (trs v)=if trs v= -1 then 255 else(trs v).toNat%256):=rfl;generalize trs v=xv at*;obtain⟨lb,X4⟩:=xE (G7 xv)
         rw[X4]at H5 hJ eR;have S5:QO (∀g8 aL w8,WJ w w8 g8 aL (aS++[LG lb]) gy fi->∃(i' g aJ:Nat)(bK:List UInt8),MJ (some ⟨g8,0,none⟩) (aS.length+1) aL=.slice (some ⟨g,0,none⟩) bK.length aJ/\NM .i64 ((i+1:Nat):Int)=.int .i64 (i':Int)/\i'+di=L+1/\bK.length<=1002+c*100000+s*300+i'/\bK=A4++oS i' (λ i=>[LG (G7 (trs (fi.getD i 0)))])/\WJ w w8 g aJ bK gy fi):=λ g8 aL w8 h8=>⟨i+1,g8,aL,aS++[LG lb],by simp,rfl,by omega,by simp;omega,hJ.o.symm,h8⟩
         clear eN ev X2 X4;rcases hx with hx|hx
         ·have e:lb=255:=by rw[eR.o,aB hx]
          subst e;subst hx;clear eR;go_upto_region 21 with fail;go_big_region
          all_goals
           go_wp2_with (first|(at_builtin;refine gB wr.drew rfl (.tmp 124) (.tmp 127) 116 rfl w.heap.size 5 (.int .u8 0) 1 1 MH bV rfl (by decide) (by decide) (.slice (some ⟨g1,0,none⟩) aS.length D) aS.length (oE aS) [.int .u8 255] _ rfl (C.o.wi.below (w':=wr.drew) ⟨rfl,rfl,rfl,lR,λ _ _=>rfl⟩).rw _ rfl rfl rfl (by simp[LR]) (by omega) (by exact eT) ?_;intro g8 aL w8 Z J aO M2;have hY:=fV (WJ.app (w:=wr.drew) ⟨C.o.wi.below ⟨rfl,rfl,rfl,lR,λ _ _=>rfl⟩,C.o.c,C.o.ne,C.o.lt⟩ (show 255<256 by omega) Z J aO);clear Z J aO));go_roundg di
           case measure=>omega
           case rel=>exact S5.o _ _ _ hY.o
         ·have e:lb=xv.toNat:=by rw[eR.o,aA (by omega),Nat.mod_eq_of_lt (by omega)]
          obtain⟨xn,rfl⟩:∃xn:Nat,xv=(xn:Int):=⟨xv.toNat,by omega⟩
          rw[MF]at e;subst e;have k3:decide ((lb:Int)<(0:Int))=false:=by simp
          clear eR hx;go_upto_region 21 with fail;go_big_region
          all_goals
           go_wp2_with (first|(at_builtin;refine gB wr.drew rfl (.tmp 124) (.tmp 127) 116 rfl w.heap.size 5 (.int .u8 0) 1 1 MH bV rfl (by decide) (by decide) (.slice (some ⟨g1,0,none⟩) aS.length D) aS.length (oE aS) [.int .u8 (lb:Int)] _ rfl (C.o.wi.below (w':=wr.drew) ⟨rfl,rfl,rfl,lR,λ _ _=>rfl⟩).rw _ rfl rfl rfl (by simp[LR]) (by omega) (by exact eT) ?_;intro g8 aL w8 Z J aO M2;have hY:=fV (WJ.app (w:=wr.drew) ⟨C.o.wi.below ⟨rfl,rfl,rfl,lR,λ _ _=>rfl⟩,C.o.c,C.o.ne,C.o.lt⟩ H5 Z J aO);clear Z J aO));go_roundg di
           case measure=>omega
           case rel=>exact S5.o _ _ _ hY.o
        ·have e:gk=0:=by omega
         subst e;have e:i=L+1:=by omega
         subst e;have b5:decide (((L+1:Nat):Int)<((L+1:Nat):Int))=false:=by simp
         have HE:=fV (W2.o aS I.o.symm);go_wp2_with fail;go_roundg ds
         case measure=>omega
         case rel=>exact⟨s+1,g1,D,aS,rfl,by go_num,by omega,by omega,HE.o,C.o⟩
      ·have e:gk=0:=by omega
       subst e;have e:s=N:=by omega
       subst e;have e9:=dF s s (by omega)
       have HE:=fV (c9.o aS I.o.symm);go_wp2_with fail;go_roundg d
       case measure=>omega
       case rel=>exact⟨c+1,g1,D,aS,rfl,by go_num,by omega,by omega,HE.o,C.o⟩
    ·have e:gk=0:=by omega
     subst e;have e:c=m:=by omega
     subst e;have g9:=dF c c (by omega)
     have HE:QO (RES=aS):=by unfold QO;rw[a2.o,I.o]
     go_wp2_with (first|(refine dS rfl (.tmp 129) rfl C.o.wi rfl ?_));go_ret;exact⟨by rw[HE.o];rfl,C.o.wi.bl⟩
section
structure TM(gb B:Nat)(w:tW)(O:Nat->Nat)(vO vT:tV)(Of:List Int)(bF:List (Nat->Int))(cO cT:List (List tV)):Prop where
 c0:w.cell? ⟨gb,0,none⟩=some vO
 c1:w.cell? ⟨gb,1,none⟩=some vT
 fz:∀i,w.frozen? ⟨gb,i,none⟩=false
 wt:O gb=1/\gb<w.heap.size/\B<=gb
 rO:sV zC 3 1 w B (λ g=>O g=0) vO Of cO
 rT:sV wX 59 1 w B (λ g=>O g=0) vT bF cT
 tO:∀k,vO.ownBlock=some k->O k=2
 tT:∀k,vT.ownBlock=some k->O k=3
 fr:∀k,w.heap.size<=k->O k=0
section
variable {gb B:Nat}{w w':tW}{O O':Nat->Nat}{vO vT:tV}{Of:List Int}{bF:List (Nat->Int)}{cO cT:List (List tV)}
theorem TM.keep(h:TM gb B w O vO vT Of bF cO cT)(F:w.heap.size<=w'.heap.size)(C:∀k,k<w.heap.size->O k≠5->w'.heap[k]?=w.heap[k]? /\O' k=O k)(J:∀k,w'.heap.size<=k->O' k=0):TM gb B w' O' vO vT Of bF cO cT:=by
 obtain⟨U,Q,b2⟩:=h.wt;obtain⟨D,X⟩:=C gb Q (by omega);have I:∀k,O k=0->k<w.heap.size->w'.heap[k]?=w.heap[k]? /\O' k=0:=λ k V o=>by
  obtain⟨a,b⟩:=C k o (by omega);exact⟨a,by omega⟩
 exact⟨(LF (w:=w) (a:=⟨gb,0,none⟩) D).trans h.c0,(LF (w:=w) (a:=⟨gb,1,none⟩) D).trans h.c1,λ i=>(LS (w:=w) (a:=⟨gb,i,none⟩) D).trans (h.fz i),⟨by omega,by omega,b2⟩,
  h.rO.keep zC.keeps F (λ k o=>(C k (h.rO.1.lt k o).2 (by have:=h.tO k o;omega)).1) I,h.rT.keep wX.keeps F (λ k o=>(C k (h.rT.1.lt k o).2 (by have:=h.tT k o;omega)).1) I,
  λ k o=>by have:=h.tO k o;have:=(C k (h.rO.1.lt k o).2 (by omega)).2;omega,λ k o=>by have:=h.tT k o;have:=(C k (h.rT.1.lt k o).2 (by omega)).2;omega,J⟩
theorem TM.below(h:TM gb B w O vO vT Of bF cO cT)(C:Bl w w'):TM gb B w' O vO vT Of bF cO cT:=h.keep C.size (λ k o _=>⟨C.block k o,rfl⟩) (λ k o=>h.fr k (LZ C.size o))
theorem TM.pushO(h:TM gb B w O vO vT Of bF cO cT){w4:tW}{o:Obj}{g aJ n:Nat}{u:List tV}{x:Int}(hn:Of.length=n)(hu:zC w (λ g=>O g=0) u x)(aO:u.length=1)
  (J:w4.ownsRow B 3 1 (.slice (some ⟨g,0,none⟩) (n+1) aJ) (n+1) (cO.flatten++u)) (D:(w.alloc o).grownBy w4 vO.ownBlock) (aT:vO.ownBlock=some g\/g=w.heap.size+1):
  TM gb B (w4.setCell ⟨gb,0,none⟩ (.slice (some ⟨g,0,none⟩) (n+1) aJ)) (λ k=>if k=g then 2 else O k) (.slice (some ⟨g,0,none⟩) (n+1) aJ) vT (Of++[x]) bF (cO++[u]) cT/\
  (∀k,k<w.heap.size->O k≠1->O k≠2->(w4.setCell ⟨gb,0,none⟩ (.slice (some ⟨g,0,none⟩) (n+1) aJ)).heap[k]?=w.heap[k]? /\(if k=g then 2 else O k)=O k)/\w.heap.size<=w4.heap.size/\∀w0,Below B w0 w->Below B w0 (w4.setCell ⟨gb,0,none⟩ (.slice (some ⟨g,0,none⟩) (n+1) aJ)):=by
 obtain⟨o1,b1,b2⟩:=h.wt;have bM:=D.size;have ez:(w.alloc o).heap.size=w.heap.size+1:=by simp
 have bC:=(J.lt g rfl)
 have bK:(w4.setCell ⟨gb,0,none⟩ (.slice (some ⟨g,0,none⟩) (n+1) aJ)).heap.size=w4.heap.size:=by simp[MB]
 have Y:g<w.heap.size->O g=2:=λ hg=>by
  rcases aT with e|e
  ·exact h.tO g e
  ·omega
 have Q:g≠gb:=λ e=>by
  have:=Y (by omega);rw[e]at this;omega
 have I:∀k,k<w.heap.size->O k≠1->O k≠2->(w4.setCell ⟨gb,0,none⟩ (.slice (some ⟨g,0,none⟩) (n+1) aJ)).heap[k]?=w.heap[k]? /\(if k=g then 2 else O k)=O k:=λ k C h1 h2=>by
  have aR:k≠gb:=λ e=>h1 (by rw[e];exact o1)
  have aL:k≠g:=λ e=>h2 (by rw[e];exact Y (by omega))
  exact⟨(iC w4 gb 0 _ aR).trans ((D.block k (by omega) (λ e=>h2 (h.tO k e.symm))).trans (LM w o k C)),aA aL⟩
 have V:w4.heap[gb]?=w.heap[gb]? :=(D.block gb (by omega) (λ e=>by have:=h.tO gb e.symm;omega)).trans (LM w o gb b1);have hc:∀i,i≠0->(w4.setCell ⟨gb,0,none⟩ (.slice (some ⟨g,0,none⟩) (n+1) aJ)).cell? ⟨gb,i,none⟩=w.cell? ⟨gb,i,none⟩:=λ i hi=>by
  rw[LQ (h:=by intro e';injection e';omega)];exact LF (w:=w) (a:=⟨gb,i,none⟩) V
 have hP:∀k,O k=0->k<w.heap.size->(w4.setCell ⟨gb,0,none⟩ (.slice (some ⟨g,0,none⟩) (n+1) aJ)).heap[k]?=w.heap[k]? /\(if k=g then 2 else O k)=0:=λ k X C=>by
  obtain⟨a,b⟩:=I k C (by omega) (by omega);exact⟨a,by rw[b];exact X⟩
 have Z:=h.rO.app zC.keeps (P':=λ k=>(if k=g then 2 else O k)=0) hn hu aO J D (λ k X C=>⟨λ e=>by have:=h.tO k e;omega,(hP k X C).2⟩);have U:sV zC 3 1 (w4.setCell ⟨gb,0,none⟩ (.slice (some ⟨g,0,none⟩) (n+1) aJ)) B (λ k=>(if k=g then 2 else O k)=0) (.slice (some ⟨g,0,none⟩) (n+1) aJ) (Of++[x]) (cO++[u]):=
  Z.keep zC.keeps (by omega) (λ k C=>iC w4 gb 0 _ (λ e=>by
   have e2:g=k:=by simpa[LY]using C
   exact Q (by rw[e2];exact e))) (λ k X _=>⟨iC w4 gb 0 _ (λ e=>by
   rw[e,aA (Ne.symm Q)]at X;omega),X⟩)
 refine⟨⟨LU _ _ _ ((LF (w:=w) (a:=⟨gb,0,none⟩) V).trans h.c0),(hc 1 (by omega)).trans h.c1,λ i=>by rw[ME];exact(LS (w:=w) (a:=⟨gb,i,none⟩) V).trans (h.fz i),⟨(aA (Ne.symm Q)).trans o1,by omega,b2⟩,U,h.rT.keep wX.keeps (by omega) (λ k C=>(I k (h.rT.1.lt k C).2 (by have:=h.tT k C;omega) (by have:=h.tT k C;omega)).1) hP,λ k C=>by
  have e2:g=k:=by simpa[LY]using C
  exact aB e2.symm,λ k C=>by
  have h3:=h.tT k C;have h4:=(I k (h.rT.1.lt k C).2 (by omega) (by omega)).2;exact h4.trans h3,λ k C=>?_⟩,I,by omega,λ w0 F=>?_⟩
 ·have:k≠g:=by omega
  simp only[aA this];exact h.fr k (by omega)
 ·have hs:=(NJ B w4).setCell (p:=⟨gb,0,none⟩) b2 (.slice (some ⟨g,0,none⟩) (n+1) aJ);refine⟨hs.os.trans (D.os.trans F.os),hs.tape.trans (D.tape.trans F.tape),hs.output.trans (D.output.trans F.output),by have:=F.size;omega,λ k C=>?_⟩;have h1:=hs.block k C;have aW:k<w.heap.size:=by omega
  exact h1.trans (((D.block k (by omega) (λ e=>by have:=(h.rO.1.lt k e.symm).1;omega)).trans (LM w o k aW)).trans (F.block k C))
theorem TM.pushT(h:TM gb B w O vO vT Of bF cO cT){w4:tW}{o:Obj}{g aJ n:Nat}{u:List tV}{x:Nat->Int}(hn:bF.length=n)(hu:wX w (λ g=>O g=0) u x)(aO:u.length=1)
  (J:w4.ownsRow B 59 1 (.slice (some ⟨g,0,none⟩) (n+1) aJ) (n+1) (cT.flatten++u)) (D:(w.alloc o).grownBy w4 vT.ownBlock) (aT:vT.ownBlock=some g\/g=w.heap.size+1):
  TM gb B (w4.setCell ⟨gb,1,none⟩ (.slice (some ⟨g,0,none⟩) (n+1) aJ)) (λ k=>if k=g then 3 else O k) vO (.slice (some ⟨g,0,none⟩) (n+1) aJ) Of (bF++[x]) cO (cT++[u])/\
  (∀k,k<w.heap.size->O k≠1->O k≠3->(w4.setCell ⟨gb,1,none⟩ (.slice (some ⟨g,0,none⟩) (n+1) aJ)).heap[k]?=w.heap[k]? /\(if k=g then 3 else O k)=O k)/\w.heap.size<=w4.heap.size/\∀w0,Below B w0 w->Below B w0 (w4.setCell ⟨gb,1,none⟩ (.slice (some ⟨g,0,none⟩) (n+1) aJ)):=by
 obtain⟨o1,b1,b2⟩:=h.wt;have bM:=D.size;have ez:(w.alloc o).heap.size=w.heap.size+1:=by simp
 have bC:=(J.lt g rfl)
 have bK:(w4.setCell ⟨gb,1,none⟩ (.slice (some ⟨g,0,none⟩) (n+1) aJ)).heap.size=w4.heap.size:=by simp[MB]
 have Y:g<w.heap.size->O g=3:=λ hg=>by
  rcases aT with e|e
  ·exact h.tT g e
  ·omega
 have Q:g≠gb:=λ e=>by
  have:=Y (by omega);rw[e]at this;omega
 have I:∀k,k<w.heap.size->O k≠1->O k≠3->(w4.setCell ⟨gb,1,none⟩ (.slice (some ⟨g,0,none⟩) (n+1) aJ)).heap[k]?=w.heap[k]? /\(if k=g then 3 else O k)=O k:=λ k C h1 h2=>by
  have aR:k≠gb:=λ e=>h1 (by rw[e];exact o1)
  have aL:k≠g:=λ e=>h2 (by rw[e];exact Y (by omega))
  exact⟨(iC w4 gb 1 _ aR).trans ((D.block k (by omega) (λ e=>h2 (h.tT k e.symm))).trans (LM w o k C)),aA aL⟩
 have V:w4.heap[gb]?=w.heap[gb]? :=(D.block gb (by omega) (λ e=>by have:=h.tT gb e.symm;omega)).trans (LM w o gb b1);have hc:∀i,i≠1->(w4.setCell ⟨gb,1,none⟩ (.slice (some ⟨g,0,none⟩) (n+1) aJ)).cell? ⟨gb,i,none⟩=w.cell? ⟨gb,i,none⟩:=λ i hi=>by
  rw[LQ (h:=by intro e';injection e';omega)];exact LF (w:=w) (a:=⟨gb,i,none⟩) V
 have hP:∀k,O k=0->k<w.heap.size->(w4.setCell ⟨gb,1,none⟩ (.slice (some ⟨g,0,none⟩) (n+1) aJ)).heap[k]?=w.heap[k]? /\(if k=g then 3 else O k)=0:=λ k X C=>by
  obtain⟨a,b⟩:=I k C (by omega) (by omega);exact⟨a,by rw[b];exact X⟩
 have Z:=h.rT.app wX.keeps (P':=λ k=>(if k=g then 3 else O k)=0) hn hu aO J D (λ k X C=>⟨λ e=>by have:=h.tT k e;omega,(hP k X C).2⟩);have U:sV wX 59 1 (w4.setCell ⟨gb,1,none⟩ (.slice (some ⟨g,0,none⟩) (n+1) aJ)) B (λ k=>(if k=g then 3 else O k)=0) (.slice (some ⟨g,0,none⟩) (n+1) aJ) (bF++[x]) (cT++[u]):=
  Z.keep wX.keeps (by omega) (λ k C=>iC w4 gb 1 _ (λ e=>by
   have e2:g=k:=by simpa[LY]using C
   exact Q (by rw[e2];exact e))) (λ k X _=>⟨iC w4 gb 1 _ (λ e=>by
   rw[e,aA (Ne.symm Q)]at X;omega),X⟩)
 refine⟨⟨(hc 0 (by omega)).trans h.c0,LU _ _ _ ((LF (w:=w) (a:=⟨gb,1,none⟩) V).trans h.c1),λ i=>by rw[ME];exact(LS (w:=w) (a:=⟨gb,i,none⟩) V).trans (h.fz i),⟨(aA (Ne.symm Q)).trans o1,by omega,b2⟩,h.rO.keep zC.keeps (by omega) (λ k C=>(I k (h.rO.1.lt k C).2 (by have:=h.tO k C;omega) (by have:=h.tO k C;omega)).1) hP,U,λ k C=>by
  have h3:=h.tO k C;have h4:=(I k (h.rO.1.lt k C).2 (by omega) (by omega)).2;exact h4.trans h3,λ k C=>by
  have e2:g=k:=by simpa[LY]using C
  exact aB e2.symm,λ k C=>?_⟩,I,by omega,λ w0 F=>?_⟩
 ·have:k≠g:=by omega
  simp only[aA this];exact h.fr k (by omega)
 ·have hs:=(NJ B w4).setCell (p:=⟨gb,1,none⟩) b2 (.slice (some ⟨g,0,none⟩) (n+1) aJ);refine⟨hs.os.trans (D.os.trans F.os),hs.tape.trans (D.tape.trans F.tape),hs.output.trans (D.output.trans F.output),by have:=F.size;omega,λ k C=>?_⟩;have h1:=hs.block k C;have aW:k<w.heap.size:=by omega
  exact h1.trans (((D.block k (by omega) (λ e=>by have:=(h.rT.1.lt k e.symm).1;omega)).trans (LM w o k aW)).trans (F.block k C))
theorem TM.set(h:TM gb B w O vO vT Of bF cO cT){rb:Nat}(C:O rb=5)(j:Nat)(x:tV):TM gb B (w.setCell ⟨rb,j,none⟩ x) O vO vT Of bF cO cT:=
 h.keep (by simp[MB]) (λ k _ D=>⟨iC w rb j _ (λ e=>D (by rw[e];exact C)),rfl⟩) (λ k o=>h.fr k (by simpa[MB]using o))
theorem TM.done(h:TM gb B w O vO vT Of bF cO cT){rb:Nat}{f:Nat->Int}(o:CR w O B rb f 256):TM gb B w (λ k=>if k=rb then 0 else O k) vO vT Of bF cO cT/\wX w (λ g=>(if g=rb then 0 else O g)=0) [.slice (some ⟨rb,0,none⟩) 256 256] f:=by
 obtain⟨D,I,b2⟩:=o.wt;exact⟨h.keep lR (λ k _ F=>⟨rfl,aA (λ e=>F (by rw[e];exact D))⟩) (λ k C=>by
  have:k≠rb:=by omega
  simp only[aA this];exact h.fr k C),rb,rfl,aB rfl,I,o.c⟩
theorem TM.start(w:tW):TM w.heap.size w.heap.size (w.alloc (.cells #[.slice none 0 0,.slice none 0 0] 68)) (λ k=>if k=w.heap.size then 1 else if k<w.heap.size then 5 else 0) (.slice none 0 0) (.slice none 0 0) [] [] [] []:=by
 have C:(w.alloc (.cells #[.slice none 0 0,.slice none 0 0] 68)).heap.size=w.heap.size+1:=by simp
 exact⟨(MG _ _ _ 0 rfl).trans rfl,(MG _ _ _ 1 rfl).trans rfl,λ i=>NO _ _ _ i rfl,⟨aB rfl,by omega,lR⟩,sV.start _ _ _,sV.start _ _ _,λ k e=>(by cases e),λ k e=>(by cases e),λ k o=>by rw[aA (by omega),aA (by omega)]⟩
theorem TM.view(h:TM gb B w O vO vT Of bF cO cT){n:Nat}(hn:0<n)(h1:Of.length=n)(h2:bF.length=n):Uf w vO vT n (λ i=>Of.getD i 0) (λ i=>bF.getD i (λ _=>0)):=by
 obtain⟨gO,qO,_,V,_,Y,_⟩:=h.rO.at (LC (i:=0) (by omega));obtain⟨gT,qT,_,X,_,Z,_⟩:=h.rT.at (LC (i:=0) (by omega));have hT:∀i,i<n->∃g,w.cell? ⟨gT,i,none⟩=some (.slice (some ⟨g,0,none⟩) 256 256)/\g<w.heap.size/\∀b,b<256->w.cell? ⟨g,b,none⟩=some (.int .i64 (bF.getD i (λ _=>0) b)):=λ i hi=>by
  have hg:=LC (l:=bF) (i:=i) (by omega);obtain⟨g2,q2,c,F,_,_,⟨g,I,_,J,Q⟩,_,o⟩:=h.rT.at hg;rw[X]at F;injection F with D _ _;injection D with D;injection D with D _;subst D;refine⟨g,?_,J,λ b U=>?_⟩
  ·have:=o 0 _ (by rw[I];rfl);rw[NR,MQ]at this;exact this
  ·rw[Q b U,LN,hg];rfl
 obtain⟨rw,C⟩:=Sw hT;refine⟨gO,qO,gT,qT,rw,by rw[V,h1],by rw[X,h2],⟨Y,Z,λ s hs=>(C s hs).2.1⟩,λ i hi=>?_,λ i hi=>(C i hi).1,λ i b hi U=>(C i hi).2.2 b U⟩;have hg:=LC (l:=Of) (i:=i) (by omega);obtain⟨g2,q2,c,F,_,_,I,_,o⟩:=h.rO.at hg;rw[V]at F;injection F with D _ _;injection D with D;injection D with D _;subst D;have I:c=[.int .i64 _]:=I;have:=o 0 _ (by rw[I];rfl);rw[NR,MQ]at this;rw[this];show _=some (NM IntKind.i64 (Of.getD i 0));rw[LN,hg]
 rfl
end
end
section
structure KS(W wr:tW)(sb n:Nat)(bI:Nat->Int)(m:Nat)(y:tV)(first:List Nat):Prop where
 os:wr.os=W.os
 tape:wr.tape=W.tape
 output:wr.output=W.output
 sz:W.heap.size<=wr.heap.size
 bk:∀k,k<W.heap.size->k≠sb->wr.heap[k]?=W.heap[k]?
 c:∀p,p<m->wr.cell? ⟨sb,p,none⟩=some (.int .i64 (bI p))
 a:∀p,p<n->∃x:Int,wr.cell? ⟨sb,p,none⟩=some (.int .i64 x)
 fz:∀i,wr.frozen? ⟨sb,i,none⟩=false
 ro:wr.ownsRow W.heap.size 3 1 y first.length (kK first)
 b:sb<W.heap.size
section
variable {W wr:tW}{sb n m:Nat}{bI:Nat->Int}{y:tV}{first:List Nat}
theorem KS.start(o:sb<W.heap.size)(D:∀p,p<n->∃x:Int,W.cell? ⟨sb,p,none⟩=some (.int .i64 x))(C:∀i,W.frozen? ⟨sb,i,none⟩=false)(bI:Nat->Int):KS W W sb n bI 0 (.slice none 0 0) []:=
 ⟨rfl,rfl,rfl,lR,λ _ _ _=>rfl,λ p F=>by omega,D,C,NG _ _ _ 1,o⟩
theorem KS.put(h:KS W wr sb n bI m y first)(V:m<n)(t:Int):KS W (wr.setCell ⟨sb,m,none⟩ (.int .i64 t)) sb n (Bj bI m t) (m+1) y first:=by
 have I:=(NJ 0 wr).setCell (p:=⟨sb,m,none⟩) zL (.int .i64 t);have hz:(wr.setCell ⟨sb,m,none⟩ (.int .i64 t)).heap.size=wr.heap.size:=by simp[MB]
 have Z:=h.b;have X:=h.sz;have J:∀k,k≠sb->(wr.setCell ⟨sb,m,none⟩ (.int .i64 t)).heap[k]?=wr.heap[k]? :=λ k o=>iC wr sb m _ o
 obtain⟨x,Y⟩:=h.a m V;have Q:∀j,j≠m->(wr.setCell ⟨sb,m,none⟩ (.int .i64 t)).cell? ⟨sb,j,none⟩=wr.cell? ⟨sb,j,none⟩:=λ j hj=>LQ _ _ _ _ (by intro U;injection U;omega)
 have F:(wr.setCell ⟨sb,m,none⟩ (.int .i64 t)).cell? ⟨sb,m,none⟩=some (.int .i64 t):=LU _ _ _ Y;refine⟨I.os.trans h.os,I.tape.trans h.tape,I.output.trans h.output,by omega,λ k C o=>(J k o).trans (h.bk k C o),λ p D=>?_,λ p D=>?_,λ i=>by rw[ME];exact h.fz i,iH h.ro (λ k C=>J k (by have:=(h.ro.lt k C).1;omega)),Z⟩
 ·by_cases e:p=m
  ·rw[e,F,tG]
  ·rw[Q p e,oO e];exact h.c p (by omega)
 ·by_cases e:p=m
  ·rw[e];exact⟨t,F⟩
  ·rw[Q p e];exact h.a p D
theorem KS.again{o:Int}(h:KS W wr sb n (Bj bI m o) (m+1) y first)(C:m<n)(t:Int):KS W (wr.setCell ⟨sb,m,none⟩ (.int .i64 t)) sb n (Bj bI m t) (m+1) y first:=by
 have F:KS W wr sb n bI m y first:=⟨h.os,h.tape,h.output,h.sz,h.bk,λ p D=>by rw[h.c p (by omega),oO (by omega)],h.a,h.fz,h.ro,h.b⟩
 exact F.put C t
theorem KS.app(h:KS W wr sb n bI m y first){w4:tW}{o:Obj}{g aJ k v:Nat}(I:first.length=k)(F:w4.ownsRow W.heap.size 3 1 (.slice (some ⟨g,0,none⟩) (k+1) aJ) (k+1) (kK first++[.int .i64 (v:Int)]))(C:(wr.alloc o).grownBy w4 y.ownBlock):KS W w4 sb n bI m (.slice (some ⟨g,0,none⟩) (k+1) aJ) (first++[v]):=by
 subst I;have X:=h.b;have Y:=h.sz;have V:=C.size;have ez:(wr.alloc o).heap.size=wr.heap.size+1:=by simp
 have J:∀k,k<W.heap.size->w4.heap[k]?=wr.heap[k]? :=λ k I=>(C.block k (by omega) (λ e=>by have:=(h.ro.lt k e.symm).1;omega)).trans (LM wr o k (by omega))
 have D:=J sb X;refine⟨C.os.trans h.os,C.tape.trans h.tape,C.output.trans h.output,by omega,λ k I U=>(J k I).trans (h.bk k I U),λ p Q=>(LF (w:=wr) (a:=⟨sb,p,none⟩) D).trans (h.c p Q),λ p Q=>?_,λ i=>(LS (w:=wr) (a:=⟨sb,i,none⟩) D).trans (h.fz i),by unfold kK at*;rw[LH,LK,ND];exact F,X⟩;obtain⟨x,Z⟩:=h.a p Q;exact⟨x,(LF (w:=wr) (a:=⟨sb,p,none⟩) D).trans Z⟩
end
def JE(d:Nat->Nat->Bool)(first:List Nat)(m s:Nat)(t:Int):Prop:=(t= -1/\∀(o f:Nat),o<s->first[o]?=some f->d f m=true)\/∃C f:Nat,t=(C:Int)/\first[C]?=some f/\d f m=false
theorem GI.rep{N:List RN}{l0:List jL}{Ls:List (List jL)}{To:Nat->Nat->Int}(hf:mO N aQ ks){lw:List Nat}(aL:lw.length=256)(Q:G6 N lw)(h:GI N aQ l0 Ls Of To Ls.length 0):∀b,b<256->∃k,k<256/\lw[k]?=some k/\∀p,p<Ls.length->To p b=To p k:=λ b hb=>by
 have hx:=LC (l:=lw) (i:=b) (by omega);obtain⟨h1,h2,h3⟩:=Q b _ hx;refine⟨_,by omega,h2,λ p D=>?_⟩;have Y:=LC D;have ha:=h.lead p b _ ⟨hb,.inl D⟩ Y;have o:=h.lead p (lw[b]'(by omega)) _ ⟨by omega,.inl D⟩ Y;have he:=Fw hf.cl h3 (Ls[p]'D);unfold Ap at ha o;rw[he]at o;rcases ha with⟨a1,J⟩|⟨k,l',a1,J,a3,a4,V⟩<;>rcases o with⟨U,b2⟩|⟨F,C,U,b2,Z,b4,X⟩
 ·rw[J,b2]
 ·exact absurd a1 b4
 ·exact absurd U a4
 ·have I:k=F:=by
   rcases NQ k F with e|e|e
   ·exact absurd (λ x=>(V x).trans (X x).symm) (h.dif k F l' C J e a3 Z)
   ·exact e
   ·exact absurd (λ x=>(X x).trans (V x).symm) (h.dif F k C l' b2 e Z a3)
  rw[a1,U,I]
theorem GI.bG{N:List RN}{l0:List jL}{Ls:List (List jL)}{To:Nat->Nat->Int}(C:mO N aQ ks)(h:GI N aQ l0 Ls Of To p b):∀i,i<Ls.length-> -1<=Of.getD i 0/\Of.getD i 0<8:=λ i hi=>by
 by_cases e:i=0
 ·rw[e,LN,h.zo];exact⟨by decide,by decide⟩
 ·have o:=LC hi;rw[LN,h.of i _ (by omega) o];have:=Yk (N:=N) (l:=Ls[i]'hi) (R:=8) (λ x D=>by
   have:=(C.bnd ((h.ok i _ (by omega) o).2.2 x D).ub).2.2;have:=C.r8;omega)
  exact this
end
section
def Bb(N:List RN)(l0:List jL)(n:Nat)(o:Nat->Int)(tr:Nat->Nat->Int):Prop:=
 uF n 256 (zR o) tr/\(∀s,s<n-> -1<=o s/\o s<8)/\o 0= -1/\∀b u,lF 256 (b::u)->Ii N l0 (b::u) (jM (zR o) tr 0 (b::u))
theorem DT{w:tW}{v:tV}(h:w.cell? ⟨g,i,none⟩=some v):g<w.heap.size:=by
 apply MC;intro o;have e:w.heap[g]?=none:=by simp;omega
 simp[World.cell?,e]at h
attribute [local go_sem ↓] Go.wp_at_zero Go.wp_at_succ
theorem cW:(Tryz.prog.info? 68).map (λ i=>i.size)=some 2:=by kernel_rfl
theorem CR.poke{w:tW}{O:Nat->Nat}{f:Nat->Int}(h:CR w O B rb f b)(o:b<256)(t:Int):CR (w.setCell ⟨rb,b,none⟩ (.int .i64 t)) O B rb f b:=by
 have k:=h.put (f':=λ j=>if j=b then t else f j) o (aB rfl) (λ j C=>aA (by omega));exact⟨k.wt,λ j C=>by rw[k.c j (by omega),aA (by omega)],k.a,k.fz⟩
theorem Sl{L:List NV}{R:List RV}(hf:mO (jB L) (R.map RV.n) ks)(d3:bE<4){w:tW}(h:FR fb w L gN aJ)(hr:II fb w R gR cR){v:tV}{lw:List Nat}(hv:IL w v lw)(lH:lw.length=256)(e4:G6 (jB L) lw):
  QW MD 22 #[.pointer (some ⟨fb,0,none⟩),.int .i64 (bE:Int),v] w λ e w'=>∃(v1 v2:tV)(n:Nat)(of:Nat->Int)(tr:Nat->Nat->Int),e=.returned (.agg #[v1,v2])/\Below w.heap.size w w'/\Uf w' v1 v2 n of tr/\n<=1025/\Bb (jB L) (rH bE 0 R) n of tr:=by
 obtain⟨a,vc,rfl,g6,hv⟩:=hv;obtain⟨gl,ol,rfl,e6,Go⟩:=hv.resolve_left (λ e=>by rw[e]at lH;simp at lH);have nN:QO (Below w.heap.size w (w.alloc (.cells #[.slice none 0 0,.slice none 0 0] 68))):=bR.alloc lR _;have b4:=fV (Pz (bE:=bE) hf d3 (h.below nN.o lR) (hr.below nN.o lR) (v:= .slice (some ⟨gl,ol,none⟩) lw.length vc) (lw:=lw) ⟨_,_,rfl,g6,.inr ⟨gl,ol,rfl,LO e6 nN.o.size,λ i m hm=>(nN.o.cell (p:=⟨gl,ol+i,none⟩) e6).trans (Go i m hm)⟩⟩ lH e4);have q4:=fV Go;have O8:=fV hf;have f5:=fV lH;have h8:=fV e4;have r7:QO (∀x,x∈rH bE 0 R->UB (jB L) (R.map RV.n) x):=i8;have CS:(w.alloc (.cells #[.slice none 0 0,.slice none 0 0] 68)).heap.size=w.heap.size+1:=by simp
 have f8:(w.alloc (.cells #[.slice none 0 0,.slice none 0 0] 68)).cell? ⟨w.heap.size,0,none⟩=some (.slice none 0 0):=(MG _ _ _ 0 rfl).trans rfl;have p1:(w.alloc (.cells #[.slice none 0 0,.slice none 0 0] 68)).cell? ⟨w.heap.size,1,none⟩=some (.slice none 0 0):=(MG _ _ _ 1 rfl).trans rfl;have x1:∀i,(w.alloc (.cells #[.slice none 0 0,.slice none 0 0] 68)).frozen? ⟨w.heap.size,i,none⟩=false:=λ i=>NO _ _ _ i rfl
 obtain⟨i0,m3,m9,a2,a7⟩:=QS bX;have HI:QO (Tryz.prog.info? 3=some i0/\i0.zero=some (.int .i64 0)/\i0.size=1/\i0.bytes=8):=⟨m3,m9,a2,a7⟩
 rw[lH]at b4 ⊢;clear m3 m9 a2 a7 hf h hr lH e4 Go hv g6;generalize R.map RV.n=aQ at*;generalize rH bE 0 R=l0 at*;go_enter func22,ntmps22;go_upto_region 1 with fail;generalize w.alloc (.cells #[.slice none 0 0,.slice none 0 0] 68)=W0 at*;go_upto_region 2 with fail;refine b4.o.mono ?_;rintro e w1 ⟨gb,Ls,Of,To,rfl,hV,bK⟩;have y2:=bK.1.few O8.o;have B2:0<Ls.length:=(LD.1 bK.1.z).1;have z3:=fV bK.1;have H0:=fV bK.1.auto;have s3:=fV bK.1.order;have j2:=fV (bK.1.rep O8.o f5.o h8.o);obtain⟨gO,qO,gT,qT,rw,d1⟩:=bK.view;have Hb:QO (Below W0.heap.size W0 w1):=⟨hV.os,hV.tape,hV.output,hV.size,hV.block⟩
 obtain⟨of,H1⟩:∃of:Nat->Int,of=λ i=>Of.getD i 0:=⟨_,rfl⟩
 rw[<-H1]at d1;have s5:QO (of 0= -1):=by unfold QO;rw[H1];simp only[LN,bK.1.zo];rfl
 have e9:QO (∀i,i<Ls.length-> -1<=of i/\of i<8):=by rw[H1];exact bK.1.bG O8.o
 have l4:QO (∀b u,lF 256 (b::u)->Ii (jB L) l0 (b::u) (jM (zR of) To 0 (b::u))):=λ b u hl=>by
  have:=bK.1.tok O8.o r7.o u b 0 l0 bK.1.z hl;rw[H1];exact this
 have c4:=fV d1;have a2:=Hb.o.size;generalize Ls.length=n at*;clear bK d1 hV H1 b4;go_upto_region 3 with fail;refine(Sd c4.o (by omega) (λ i hi=>(e9.o i hi).1) H0.o).mono ?_;rintro e w2 ⟨al,rfl,rL,S2⟩;have O6:=fV rL;have H4:=fV S2;have a7:=rL.bl.size;have tL:=fV (c4.o.below rL.bl lR);have d2:=fV (lZ Hb.o rL.bl);clear rL S2;have g7:gl<w2.heap.size:=by omega
 have W9:QO (∀(i m:Nat),lw[i]?=some m->w2.cell? ⟨gl,ol+i,none⟩=some (.int .i64 (m:Int))):=λ i m hm=>(d2.o.cell (p:=⟨gl,ol+i,none⟩) (by show gl<W0.heap.size;omega)).trans ((nN.o.cell (p:=⟨gl,ol+i,none⟩) e6).trans (q4.o i m hm))
 have l1:w1.heap.size<w2.heap.size:=DT (O6.o.ba.c 0 B2);go_upto_region 4 with fail;refine(Lm tL.o (by omega) (λ i hi=>(e9.o i hi).1) H0.o H4.o O6.o.ba l1 f5.o g7 W9.o (λ b k Y=>(h8.o b k Y).1) j2.o).mono ?_;rintro e w3 ⟨db,d,rfl,nL,i5,l9⟩;have c8:=fV nL;have k9:=fV i5;have r8:=fV l9;have y8:=nL.bl.size;have bC:=fV (tL.o.below nL.bl lR);have hM:=fV (lZ d2.o nL.bl);have M2:=fV (O6.o.ba.below nL.bl l1);have c1:=bC.o.c1;clear nL i5 l9 c4 tL O6 Hb d2 W9;go_upto_region 5 with(first|(at_make;refine QT w3 rfl _ _ 59 rfl w3.heap.size 3 i0 (.int .i64 0) 1 MO HI.o.1 HI.o.2.1 HI.o.2.2.1 .i64 .i64 _ n n rfl rfl rfl rfl (by rw[HI.o.2.2.2];omega) (by unfold QV;omega) lR ?_;intro w4 eM hY))
 have hW:Below w3.heap.size w3 w4:=⟨hY.os,hY.tape,hY.output,hY.size,λ k Y=>hY.block k Y (by simp)⟩
 have t4:w3.heap.size<w4.heap.size:=(eM.lt w3.heap.size rfl).2;have o2:QO (KS w4 w4 w3.heap.size n (λ _=>0) 0 (.slice none 0 0) []):=KS.start t4 (λ p hp=>⟨0,by
  have h1:=eM.cells rfl p (.int .i64 0) (by
   rw[F0,MR,NK,aB hp];rfl)
  rw[oM,MA]at h1;exact h1⟩) (λ i=>rX eM i) _
 have X1:=fV (bC.o.below hW lR);have v4:=fV (lZ hM.o hW);have T3:=fV (M2.o.below hW (by omega));have a8:=fV (c8.o.da.below hW lR);have hR:w1.heap.size<w3.heap.size:=by omega
 have T2:w2.heap.size<w3.heap.size:=c8.o.da.b0;have bO:QO (∀k,k<w3.heap.size->k<w4.heap.size/\k≠w3.heap.size):=λ k Y=>by omega
 have O7:QO (gb<w3.heap.size/\gO<w3.heap.size/\gT<w3.heap.size/\(∀i,i<n->rw i<w3.heap.size)/\∀i,i<n->db i<w3.heap.size):=⟨bC.o.b0,bC.o.b1,bC.o.b2,bC.o.b3,c8.o.da.b1⟩
 have cP:=fV hW;clear eM hY hW c1;generalize hsb:w3.heap.size=sb at*;have c7:=fV hsb;clear hsb;generalize w1.heap.size=ab at*;generalize w2.heap.size=dg at*;go_wp2_with fail
 go_loopw [11,12] (λ y z wr=>∃(m:Nat)(bI:Nat->Int)(first:List Nat),m<=n/\z=.int .i64 (m:Int)/\KS w4 wr sb n bI m y first/\TI al d m bI first/\first.length<=m) (λ _ z _=>n-(QN z).toNat)
 case atStart=>exact⟨0,_,[],by omega,rfl,o2.o,TI.start _ _ _,by simp⟩
 case round=>
  clear o2;obtain⟨m,bI,first,hm,rfl,C,hB,g5⟩:=hrel;have HK:=fV C;have HT:=fV hB;have c1:wr.cell? ⟨gb,1,none⟩=some (.slice (some ⟨gO,0,none⟩) n qO):=(LF (w:=w4) (a:=⟨gb,1,none⟩) (C.bk gb (bO.o gb O7.o.1).1 (bO.o gb O7.o.1).2)).trans X1.o.c1;by_cases eS:m<n
  ·have z2:=iI m n (by omega)
   obtain⟨x0,x2⟩:=C.a m eS;have xf:=C.fz m;have O3:=fV (C.put eS (-1));have ya:wr.cell? ⟨ab,m,none⟩=some (.bool (al m)):=(LF (w:=w4) (a:=⟨ab,m,none⟩) (C.bk ab (bO.o ab hR).1 (bO.o ab hR).2)).trans (T3.o.c m eS);have CB:=C.sz;obtain⟨ay,cy,ey⟩:=gA C.ro;subst ey;clear C hB;go_upto_region 10 with fail;have z0:=O3.o.c m (by omega);rw[tG]at z0;have yb:(wr.setCell ⟨sb,m,none⟩ (.int .i64 (-1))).cell? ⟨ab,m,none⟩=some (.bool (al m)):=(LF (w:=wr) (a:=⟨ab,m,none⟩) (iC wr sb m _ (bO.o ab hR).2)).trans ya;clear x2 xf ya c1 HK;generalize wr.setCell ⟨sb,m,none⟩ (.int .i64 (-1))=W5 at*;by_cases bM:0<m/\al m=false
   ·obtain⟨f4,f1⟩:=bM;have d0:decide ((m:Int)>(0:Int))=true:=by simp;omega
    have cF:=fV (HT.o.skip f4 f1);rw[f1]at yb;clear f1;go_wp2;go_roundw
    case rel=>exact⟨m+1,_,first,by omega,by go_num,O3.o,cF.o,by omega⟩
    case measure=>simp[QN];omega
   ·have hK:m=0\/al m=true:=by
     by_cases e:m=0
     ·exact .inl e
     ·right
      cases hv:al m with
      | true=>rfl
      | false=>exact absurd ⟨by omega,hv⟩ bM
    have A0:=fV hK;have W4:QO (∀(s0 f:Nat),first[s0]?=some f->d f m=false->TI al d (m+1) (Bj bI m (s0:Int)) first):=λ s0 f h1 h2=>by
     have y4:=(HT.o.fi s0 f h1).1;exact HT.o.old (by omega) (A0.o.resolve_left (by omega)) h1 h2
    have X0:QO ((∀(s f:Nat),first[s]?=some f->d f m=true)->TI al d (m+1) (Bj bI m (first.length:Int)) (first++[m])):=λ hh=>HT.o.new A0.o (r8.o m eS) hh
    obtain⟨nf,hN⟩:=xE (first.length)
    have n9:QO (∀(s f:Nat),first[s]?=some f->f<n):=λ s f hf=>by have:=(HT.o.fi s f hf).1;omega
    rw[hN]at O3 g5 X0 ⊢;have V:=fV hN
    go_cut [55] from 35 to 97 (λ q wc=>q=.bool false/\wc=W5)
    case first=>
     rcases hK with e|e
     ·have d0:decide ((m:Int)>(0:Int))=false:=by simp;omega
      have e0:¬0<m:=by omega
      clear e bM;go_wp2_with fail;go_meet
      case rel=>exact⟨rfl,rfl⟩
     ·rw[e]at yb;clear bM e;by_cases f4:0<m
      ·have d0:decide ((m:Int)>(0:Int))=true:=by simp;omega
       go_wp2_with fail;go_meet
       case rel=>exact⟨rfl,rfl⟩
      ·have d0:decide ((m:Int)>(0:Int))=false:=by simp;omega
       go_wp2_with fail;go_meet
       case rel=>exact⟨rfl,rfl⟩
    case rest=>
     obtain⟨rfl,rfl⟩:=hcut;clear bM hK yb;go_wp2_with fail
     go_loopw [13] (λ z r5=>∃(s:Nat)(t:Int),s<=nf/\z=.int .i64 (s:Int)/\KS w4 r5 sb n (Bj bI m t) (m+1) (.slice ay nf cy) first/\JE d first m s t/\ -1<=t/\t<2000) (λ z _=>nf-(QN z).toNat)
     case atStart=>exact⟨0, -1,by omega,rfl,O3.o,.inl ⟨rfl,λ s' f t5=>by omega⟩,by omega,by omega⟩
     case round=>
      clear O3 z0;obtain⟨s,t,hs,rfl,C,W1,EB,y3⟩:=hrel;have hU:=fV C;have z0:=C.c m (by omega);rw[tG]at z0;have y1:=C.sz;have y5:=C.fz m;by_cases H2:s<nf
      ·have e5:=dT s nf (by omega)
       have q0:=iI s nf (by omega)
       rcases W1 with⟨et,N1⟩|aW
       ·subst et;have hx:=LC (l:=first) (i:=s) (by rw[V.o];exact H2);obtain⟨f,ef⟩:∃f,first[s]'(by rw[V.o];exact H2)=f:=⟨_,rfl⟩
        rw[ef]at hx;have eN:=n9.o s f hx;have t6:=iI f n (by omega)
        obtain⟨g2,aR,eg⟩:∃g2 aR,MJ ay nf cy=.slice (some ⟨g2,0,none⟩) nf aR:=by
         rcases iL C.ro with e|⟨g2,aR,e⟩
         ·injection e with _ e3 _;omega
         ·rw[V.o]at e;exact⟨g2,aR,e⟩
        injection eg with ea _ ec;subst ea ec;have y0:wr.cell? ⟨g2,s,none⟩=some (.int .i64 (f:Int)):=by
         have:=C.ro.cells (g:=g2) rfl s _ (qH hx);rw[oM,MA]at this;exact this
        have dr:wr.cell? ⟨dg,f,none⟩=some (.slice (some ⟨db f,0,none⟩) n n):=(LF (w:=w4) (a:=⟨dg,f,none⟩) (C.bk dg (bO.o dg T2).1 (bO.o dg T2).2)).trans (a8.o.r f eN);have dc:wr.cell? ⟨db f,m,none⟩=some (.bool (d f m)):=(LF (w:=w4) (a:=⟨db f,m,none⟩) (C.bk (db f) (bO.o _ (O7.o.2.2.2.2 f eN)).1 (bO.o _ (O7.o.2.2.2.2 f eN)).2)).trans (a8.o.c f m eN eS);have r3:=fV N1;have HX:=fV hx;clear N1 hx ef C
        cases hdv:d f m with
        | true=>
         rw[hdv]at dc;have Ha:QO (JE d first m (s+1) (-1)):= .inl ⟨rfl,λ s' f' t5 hF=>by
          by_cases e:s'=s
          ·subst e;rw[HX.o]at hF;injection hF with hF;rw[<-hF];exact hdv
          ·exact r3.o s' f' (by omega) hF⟩
         clear hdv;go_wp2;go_roundw
         case rel=>exact⟨s+1, -1,by omega,by go_num,hU.o,Ha.o,by omega,by omega⟩
         case measure=>simp[QN];omega
        | false=>
         rw[hdv]at dc;have Ha:QO (JE d first m (s+1) (s:Int)):= .inr ⟨s,f,rfl,HX.o,hdv⟩;have N0:=fV (hU.o.again eS (s:Int));clear hdv;go_wp2;go_roundw
         case rel=>exact⟨s+1,(s:Int),by omega,by go_num,N0.o,Ha.o,by omega,by omega⟩
         case measure=>simp[QN];omega
       ·obtain⟨s0,f0,e1,e2,e3⟩:=aW;subst e1;have cF:=fV (W4.o s0 f0 e2 e3);have dt:decide ((s0:Int)<(0:Int))=false:=by simp
        clear e2 e3 C;go_wp2;go_roundw
        case rel=>exact⟨m+1,_,first,by omega,by go_num,hU.o,cF.o,by rw[V.o];omega⟩
        case measure=>simp[QN];omega
      ·have e5:=dF s nf (by omega)
       rcases W1 with⟨et,N1⟩|aW
       ·subst et;have cF:=fV (X0.o (λ s' f' hF=>N1 s' f' (by have:=(LD.1 hF).1;rw[V.o]at this;omega) hF));have N0:=fV (hU.o.again eS (nf:Int));have z1:=hU.o.a m eS;have hT:=fV N0.o.ro;rw[V.o]at hT;clear N1 C;go_upto_region 18 with fail;generalize wr.setCell ⟨sb,m,none⟩ (.int .i64 (nf:Int))=W7 at*;have x6:=N0.o.sz;go_wp2_with (first|(at_builtin;refine gB W7 rfl (.tmp 94) (.tmp 96) 59 rfl w4.heap.size 3 (.int .i64 0) 1 8 MO bX rfl (by decide) (by decide) (.slice ay nf cy) nf (kK first) [.int .i64 (m:Int)] _ rfl hT.o _ rfl rfl rfl (by simp[LR]) (by omega) (by omega) ?_;intro g8 hQ w8 U D bN eR;have w9:=fV (N0.o.app V.o U D);clear U D bN eR));go_roundw
        case rel=>exact⟨m+1,_,first++[m],by omega,by go_num,w9.o,cF.o,by rw[LH,V.o,LK];omega⟩
        case measure=>simp[QN];omega
       ·obtain⟨s0,f0,e1,e2,e3⟩:=aW;subst e1;have cF:=fV (W4.o s0 f0 e2 e3);have dt:decide ((s0:Int)<(0:Int))=false:=by simp
        clear e2 e3 C;go_wp2;go_roundw
        case rel=>exact⟨m+1,_,first,by omega,by go_num,hU.o,cF.o,by rw[V.o];omega⟩
        case measure=>simp[QN];omega
  ·have em:m=n:=by omega
   have dm:=dF m n (by omega)
   have O0:=C;rw[em]at O0 hB;have E6:=fV O0;have m0:=fV hB;have hA:Below sb w3 wr:=⟨C.os.trans cP.o.os,C.tape.trans cP.o.tape,C.output.trans cP.o.output,by have:=cP.o.size;have:=C.sz;omega,λ k Y=>(C.bk k (bO.o k Y).1 (bO.o k Y).2).trans (cP.o.block k Y)⟩
   have f9:=fV (bC.o.below hA (by rw[c7.o];exact lR));have m6:=fV (M2.o.below hA hR);have hD:QO (Below W0.heap.size W0 wr):=⟨hA.os.trans hM.o.os,hA.tape.trans hM.o.tape,hA.output.trans hM.o.output,LZ hM.o.size (by have:=c7.o;have:=hA.size;omega),λ k Y=>(hA.block k (by have:=hM.o.size;have:=c7.o;omega)).trans (hM.o.block k Y)⟩
   have x3:=C.sz;have j4:sb<wr.heap.size:=by have:=C.b;omega
   have bS:=fV (TM.start wr);have h4:QO (Below wr.heap.size wr (wr.alloc (.cells #[.slice none 0 0,.slice none 0 0] 68))):=bR.alloc lR _;obtain⟨ay,cy,ey⟩:=gA C.ro;subst ey;obtain⟨nf,hN⟩:=xE (first.length)
   rw[hN]at g5 E6 ⊢;have V:=fV hN;have HZ:=fV (hB.z B2);have i3:0<nf:=by rw[<-hN];exact(LD.1 (hB.z B2)).1
   have j5:QO (∀(s f:Nat),first[s]?=some f->f<n):=λ s f hf=>(hB.fi s f hf).1
   clear C O0 hB HK HT hN em hA cP bC M2 X1 T3 a8 v4;go_upto_region 20 with fail;generalize hWT:wr.alloc (.cells #[.slice none 0 0,.slice none 0 0] 68)=WT at*;generalize c6:wr.heap.size=tb at*;have c5:=fV c6;clear hWT c6;obtain⟨WL,p4⟩:∃WL,WL=wr:=⟨_,rfl⟩
   subst p4;have AH:tb<=WL.heap.size:=by rw[c5.o];exact lR
   have w6:QO (∀X:tW,Below tb WL X->∀p,p<n->X.cell? ⟨sb,p,none⟩=some (.int .i64 (bI p))):=λ X hX p hp=>(hX.cell (p:=⟨sb,p,none⟩) j4).trans (E6.o.c p hp)
   have q5:QO (∀X:tW,Below tb WL X->∀p,p<n->X.cell? ⟨ab,p,none⟩=some (.bool (al p))):=λ X hX p hp=>(hX.cell (p:=⟨ab,p,none⟩) (by show ab<tb;omega)).trans (m6.o.c p hp)
   have m5:QO (∀X:tW,Below tb WL X->GV gb X n gO qO gT qT rw of To):=λ X hX=>f9.o.below hX (by rw[c5.o];exact lR)
   go_wp2_with fail
   go_loopw [15] (λ z i4=>∃(s:Nat)(O:Nat->Nat)(vO vT:tV)(Z:List Int)(F:List (Nat->Int)) (cO cT:List (List tV)),s<=nf/\z=.int .i64 (s:Int)/\TM tb tb i4 O vO vT Z F cO cT/\Z.length=s/\F.length=s/\QO (∀(i:Nat)(x:Int),Z[i]?=some x->x=of (first.getD i 0))/\QO (∀(i:Nat)(f:Nat->Int),F[i]?=some f->∀b,b<256->f b=qY To al bI first i b)/\Below tb WL i4/\QO (∀k,k<tb->O k=5)) (λ z _=>nf-(QN z).toNat)
   case atStart=>exact⟨0,_,_,_,[],[],_,_,by omega,rfl,bS.o,rfl,rfl,fV (λ i x hx=>by simp at hx),fV (λ i f hf=>by simp at hf),h4.o,fV (λ k Y=>by rw[aA (by omega),aB Y])⟩
   case round=>
    clear bS h4;obtain⟨s,O,vO,vT,Z,F,cO,cT,hs,rfl,I,o1,p0,p3,m7,J,a6⟩:=hrel;have bS:=fV I;have bT:=fV J;have EA:=J.size;have hI:=fV o1;have hJ:=fV p0;by_cases H2:s<nf
    ·have e5:=dT s nf (by omega)
     have q0:=iI s nf (by omega)
     have hx:=LC (l:=first) (i:=s) (by rw[V.o];exact H2);obtain⟨f,ef⟩:∃f,first[s]'(by rw[V.o];exact H2)=f:=⟨_,rfl⟩
     rw[ef]at hx;have eN:=j5.o s f hx;have t6:=iI f n (by omega)
     have h7:first.getD s 0=f:=vG hx;have HX:=fV hx;have n3:=fV h7;obtain⟨g2,aR,eg⟩:∃g2 aR,MJ ay nf cy=.slice (some ⟨g2,0,none⟩) nf aR:=by
      rcases iL E6.o.ro with e|⟨g2,aR,e⟩
      ·injection e with _ e3 _;omega
      ·rw[V.o]at e;exact⟨g2,aR,e⟩
     injection eg with ea _ ec;subst ea ec;have r2:=(E6.o.ro.lt g2 rfl).2;have HY:QO (∀X:tW,Below tb WL X->X.cell? ⟨g2,s,none⟩=some (.int .i64 (f:Int))):=λ X hX=>by
      have:=E6.o.ro.cells (g:=g2) rfl s _ (qH HX.o);rw[oM,MA]at this;exact(hX.cell (p:=⟨g2,s,none⟩) (by show g2<tb;rw[<-c5.o];exact r2)).trans this
     clear I J hx h7 ef o1 p0;go_upto_region 24 with(first|(at_make;refine QT wr rfl _ _ 59 rfl wr.heap.size 3 i0 (.int .i64 0) 1 MO HI.o.1 HI.o.2.1 HI.o.2.2.1 .i64 .i64 _ _ 256 rfl rfl rfl rfl (by rw[HI.o.2.2.2];omega) (by unfold QV;omega) lR ?_;intro w5 eL iN))
     have hG:Below wr.heap.size wr w5:=⟨iN.os,iN.tape,iN.output,iN.size,λ k Y=>iN.block k Y (by simp)⟩
     have r4:wr.heap.size<w5.heap.size:=(eL.lt wr.heap.size rfl).2;have gL:QO (CR w5 (λ k=>if k=wr.heap.size then 5 else O k) tb wr.heap.size (qY To al bI first s) 0):=by
      refine⟨⟨aB rfl,r4,by omega⟩,λ j hj=>by omega,λ j hj=>⟨0,?_⟩,λ i=>rX eL i⟩;have h1:=eL.cells rfl j (.int .i64 0) (by
       rw[F0,MR,NK,aB hj];rfl)
      rw[oM,MA]at h1;exact h1
     have A3:QO (TM tb tb w5 (λ k=>if k=wr.heap.size then 5 else O k) vO vT Z F cO cT):=bS.o.keep hG.size (λ k Y _=>⟨hG.block k Y,aA (by omega)⟩) (λ k Y=>by
      have:k≠wr.heap.size:=by omega
      simp only[aA this];exact bS.o.fr k (by omega))
     have W2:QO (Below tb WL w5):=⟨hG.os.trans bT.o.os,hG.tape.trans bT.o.tape,hG.output.trans bT.o.output,LZ bT.o.size hG.size,λ k Y=>(hG.block k (by omega)).trans (bT.o.block k Y)⟩
     clear eL iN hG bS bT;obtain⟨O2,Pl⟩:∃O2,O2=(λ k=>if k=wr.heap.size then 5 else O k):=⟨_,rfl⟩
     rw[<-Pl]at gL A3;have g3:QO (∀k,k<tb->O2 k=5):=λ k Y=>by rw[Pl];simp only[aA (show k≠wr.heap.size by omega)];exact a6.o k Y
     clear Pl a6;generalize wr.heap.size=rb at*;have v0:QO (∀b:Nat,qY To al bI first s b=if mM al (To f b)=true then bI (To f b).toNat else -1):=λ b=>by unfold qY;rw[n3.o]
     go_wp2_with fail
     go_loopw [17] (λ z a0=>∃b:Nat,b<=256/\z=.int .i64 (b:Int)/\TM tb tb a0 O2 vO vT Z F cO cT/\CR a0 O2 tb rb (qY To al bI first s) b/\Below tb WL a0) (λ z _=>256-(QN z).toNat)
     case atStart=>exact⟨0,by omega,rfl,A3.o,gL.o,W2.o⟩
     case round=>
      clear A3 gL W2;obtain⟨b,hb,rfl,I,hE,J⟩:=hrel;have bS:=fV I;have gL:=fV hE;have bT:=fV J;have X4:=hE.wt.1;have qR:=hE.wt.2.2;by_cases aL:b<256
      ·have y6:(0:Int)<=(b:Int)/\(b:Int)<(256:Int):=by omega
       have CN:decide ((b:Int)<(256:Int))=true:=by simp;omega
       obtain⟨k0,aW⟩:=hE.a b aL;have fz:=hE.fz b;have j1:QO (∀t:Int,qY To al bI first s b=t->CR (wr.setCell ⟨rb,b,none⟩ (.int .i64 t)) O2 tb rb (qY To al bI first s) (b+1)):=λ t ht=>gL.o.put aL ht (λ _ _=>rfl)
       have cF:QO (∀t:Int,TM tb tb (wr.setCell ⟨rb,b,none⟩ (.int .i64 t)) O2 vO vT Z F cO cT):=λ t=>bS.o.set X4 b _
       have hH:QO (∀t:Int,Below tb WL (wr.setCell ⟨rb,b,none⟩ (.int .i64 t))):=λ t=>bT.o.setCell (p:=⟨rb,b,none⟩) qR _
       clear I hE J;go_upto_region 28 with fail;have d5:QO (TM tb tb (wr.setCell ⟨rb,b,none⟩ (.int .i64 (-1))).drew O2 vO vT Z F cO cT):=(cF.o (-1)).below ⟨rfl,rfl,rfl,lR,λ _ _=>rfl⟩;have a9:QO (CR (wr.setCell ⟨rb,b,none⟩ (.int .i64 (-1))).drew O2 tb rb (qY To al bI first s) b):=(gL.o.poke aL (-1)).keep lR ⟨rfl,rfl⟩;have H6:QO (Below tb WL (wr.setCell ⟨rb,b,none⟩ (.int .i64 (-1))).drew):=⟨(hH.o (-1)).os,(hH.o (-1)).tape,(hH.o (-1)).output,(hH.o (-1)).size,(hH.o (-1)).block⟩
       have g9:QO (qY To al bI first s b= -1->CR (wr.setCell ⟨rb,b,none⟩ (.int .i64 (-1))).drew O2 tb rb (qY To al bI first s) (b+1)):=λ e=>(j1.o (-1) e).keep lR ⟨rfl,rfl⟩
       have gv:=m5.o _ (hH.o (-1));have c2:=gv.c2;have t0:=gv.t f eN;have r0:=gv.r f b eN aL;have y0:=HY.o _ (hH.o (-1));have g0:=fV (H0.o.rng f b eN aL);have a3:=fV (v0.o b);clear aW fz j1 cF hH bS gL bT gv;generalize wr.setCell ⟨rb,b,none⟩ (.int .i64 (-1))=W6 at*;obtain⟨tt,n4⟩:=xE (To f b)
       rw[n4]at r0 g0 a3;clear n4;go_big_region
       all_goals
        rcases g0.o with e1|e1
        ·subst e1;have H3:=fV (g9.o (a3.o.trans (aA (by unfold mM;simp))));clear c2 t0 r0 y0;go_wp2;go_roundw
         case rel=>exact⟨b+1,by omega,by go_num,d5.o,H3.o,H6.o⟩
         case measure=>simp[QN];omega
        ·obtain⟨ti,r1⟩:∃t:Nat,tt=(t:Int):=⟨tt.toNat,by omega⟩
         subst r1;have l3:ti<n:=by omega
         have z6:=iI ti n (by omega)
         have AL:decide ((0:Int)<=(ti:Int))=true:=by simp
         have ya:W6.cell? ⟨ab,ti,none⟩=some (.bool (al ti)):=q5.o _ H6.o ti l3;have ys:W6.cell? ⟨sb,ti,none⟩=some (.int .i64 (bI ti)):=w6.o _ H6.o ti l3;have hP:QO (qY To al bI first s b=if al ti=true then bI ti else -1):=by
          unfold QO;rw[a3.o];have:mM al (ti:Int)=al ti:=by unfold mM;simp
          rw[this,MF]
         clear c2 t0 r0 y0
         cases hav:al ti with
         | true=>
          rw[hav]at ya hP;obtain⟨k0,aW⟩:=a9.o.a b aL;have q6:W6.cell? ⟨rb,b,none⟩=some (.int .i64 k0):=aW;have y9:W6.frozen? ⟨rb,b,none⟩=false:=a9.o.fz b;have H3:=fV (a9.o.put aL (t:=bI ti) (f':=qY To al bI first s) (hP.o.trans (aB rfl)) (λ _ _=>rfl));have q3:=fV (d5.o.set X4 b (.int .i64 (bI ti)));have q7:QO (Below tb WL (W6.drew.setCell ⟨rb,b,none⟩ (.int .i64 (bI ti)))):=H6.o.setCell (p:=⟨rb,b,none⟩) qR _;generalize bI ti=sti at*;clear hav aW;go_wp2;go_roundw
          case rel=>exact⟨b+1,by omega,by go_num,q3.o,H3.o,q7.o⟩
          case measure=>simp[QN];omega
         | false=>
          rw[hav]at ya hP;have H3:=fV (g9.o (hP.o.trans (aA (by decide))));clear hav ys;go_wp2;go_roundw
          case rel=>exact⟨b+1,by omega,by go_num,d5.o,H3.o,H6.o⟩
          case measure=>simp[QN];omega
      ·have eb:b=256:=by omega
       subst eb;obtain⟨o3,W8⟩:=I.done hE;have j0:Below wr.heap.size wr wr.drew:=⟨rfl,rfl,rfl,lR,λ _ _=>rfl⟩
       have a4:=fV (o3.below j0);have k7:QO (wX wr.drew (λ g=>(if g=rb then 0 else O2 g)=0) [.slice (some ⟨rb,0,none⟩) 256 256] (qY To al bI first s)):=W8;have P0:QO (Below tb WL wr.drew):=⟨J.os,J.tape,J.output,J.size,J.block⟩
       have gv:=m5.o wr J;have c1:=gv.c1;have o0:=gv.o f eN;have y0:=HY.o wr J;have ct:=I.c0;have ft:=I.fz 0;obtain⟨aO,n6,eO⟩:=gA I.rO.1;subst eO;have hT:=fV I.rO.1;rw[hI.o]at ct hT a4;have e7:QO (∀k,(MJ aO s n6).ownBlock=some k->O2 k=2):=by
        unfold QO;have:=I.tO;rw[hI.o]at this;exact this
       have c6:=I.wt.2.1;have a5:=fV I.wt.1;have BG:=J.size;clear I hE J o3 W8 j0 gv bS gL bT;generalize hofv:of f=ofv at*;have h6:=fV hofv;clear hofv;have x5:=qR;go_upto_region 31 with fail
       go_cut [15] from 98 to 160 (λ q wx=>q=.int .i64 (s:Int)/\∃(O9:Nat->Nat)(v9:tV)(c9:List (List tV)),TM tb tb wx O9 v9 vT (Z++[ofv]) F c9 cT/\wX wx (λ g=>O9 g=0) [.slice (some ⟨rb,0,none⟩) 256 256] (qY To al bI first s)/\Below tb WL wx/\QO (∀k,k<tb->O9 k=5))
       case first=>
        go_region_law ((refine qJ wr.drew rfl (.tmp 141) (.tmp 152) 59 rfl tb 3 (.int .i64 0) 1 8 MO bX rfl (by decide) (by decide) (.slice aO s n6) s cO.flatten [.int .i64 ofv] _ rfl hT.o wr.heap.size rfl rfl rfl (by simp[LR]) (by omega) (by show tb<=wr.heap.size;omega) ?_;intro g8 hQ w8 U D bN eR;have m8:=((gH D (k:=tb) (by show tb<wr.heap.size;omega) (λ e=>by have:=e7.o tb e.symm;have:=a5.o;omega)).1 0).trans ct;have n8:=((gH D (k:=tb) (by show tb<wr.heap.size;omega) (λ e=>by have:=e7.o tb e.symm;have:=a5.o;omega)).2 0).trans ft;have hL:=fV U;have A1:=fV D;have B1:=fV bN;clear U D bN))
        all_goals
         obtain⟨Q,qL,d6,cN⟩:=a4.o.pushO (x:=ofv) hI.o (show zC _ _ [.int .i64 ofv] ofv from rfl) rfl hL.o A1.o B1.o;have s2:=(hL.o.lt g8 rfl).1;have hC:=fV Q;have A2:=fV (cN WL P0.o);have v5:(w8.setCell ⟨tb,0,none⟩ (.slice (some ⟨g8,0,none⟩) (s+1) hQ)).heap.size=w8.heap.size:=by simp[MB]
         have hS:=fV (wX.keeps wr.drew _ _ (λ k=>(if k=g8 then 2 else if k=rb then 0 else O2 k)=0) _ _ k7.o (LZ d6 (Nat.le_of_eq v5.symm)) (λ k h0 Y=>⟨(qL k Y (by omega) (by omega)).1,(qL k Y (by omega) (by omega)).2.trans h0⟩));have sW:QO (∀k,k<tb->(if k=g8 then 2 else if k=rb then 0 else O2 k)=5):=λ k Y=>by rw[aA (by omega),aA (by omega)];exact g3.o k Y
         clear Q qL d6 cN m8 n8 hL A1 B1 eR;go_wp2_with fail;go_meet
         case rel=>exact⟨rfl,_,_,_,hC.o,hS.o,A2.o,sW⟩
       case rest=>
        obtain⟨rfl,O9,v9,c9,Q,X2,cN,sW⟩:=hcut;have hC:=fV Q;have hS:=fV X2;have A2:=fV cN;have f3:=Q.c1;have n5:=Q.fz 1;obtain⟨aT,h3,eT⟩:=gA Q.rT.1;subst eT;have L1:=fV Q.rT.1;rw[hJ.o]at f3 L1 hC;have c3:QO (∀k,(MJ aT s h3).ownBlock=some k->O9 k=3):=by
         unfold QO;have:=Q.tT;rw[hJ.o]at this;exact this
        have S5:=Q.wt.2.1;have H5:=fV Q.wt.1;have d6:=cN.size;clear Q X2 cN c1 o0 y0 ct ft hT e7 a5 a4 k7 P0;go_upto_region 22 with(first|(at_builtin;refine gB wc rfl (.tmp 156) (.tmp 158) 66 rfl tb 59 (.slice none 0 0) 1 24 MZ cI rfl (by decide) (by decide) (.slice aT s h3) s cT.flatten [.slice (some ⟨rb,0,none⟩) 256 256] _ rfl L1.o _ rfl rfl rfl (by simp[LR]) (by omega) (by omega) ?_;intro g8 hQ w8 U D bN eR;have m8:=((gH D (k:=tb) S5 (λ e=>by have:=c3.o tb e.symm;have:=H5.o;omega)).1 1).trans f3;have n8:=((gH D (k:=tb) S5 (λ e=>by have:=c3.o tb e.symm;have:=H5.o;omega)).2 1).trans n5;have hL:=fV U;have A1:=fV D;have B1:=fV bN;clear U D bN))
        obtain⟨sR,_,_,O5⟩:=hC.o.pushT hJ.o hS.o rfl hL.o A1.o B1.o;have s2:=(hL.o.lt g8 rfl).1;have f2:=fV sR;have b6:=fV (O5 WL A2.o);have b5:QO (∀k,k<tb->(if k=g8 then 3 else O9 k)=5):=λ k Y=>by rw[aA (by omega)];exact sW.o k Y
        have m4:QO (∀(i:Nat)(x:Int),(Z++[ofv])[i]?=some x->x=of (first.getD i 0)):=λ i x hx=>by
         by_cases hi:i<Z.length
         ·rw[LI hi]at hx;exact p3.o i x hx
         ·have:=(LD.1 hx).1;rw[LH,LK]at this;have e:i=Z.length:=by omega
          subst e;rw[LP lR,NB]at hx;have e:=sJ hx
          rw[hI.o,n3.o,h6.o];exact e.symm
        have j3:QO (∀(i:Nat)(f:Nat->Int),(F++[qY To al bI first s])[i]?=some f->∀b,b<256->f b=qY To al bI first i b):=λ i f hf b hb=>by
         by_cases hi:i<F.length
         ·rw[LI hi]at hf;exact m7.o i f hf b hb
         ·have:=(LD.1 hf).1;rw[LH,LK]at this;have e:i=F.length:=by omega
          subst e;rw[LP lR,NB]at hf;have e:qY To al bI first s=f:=by simpa using hf
          rw[hJ.o,<-e]
        clear sR O5 m8 n8 eR hL A1 B1 L1 c3 hC hS f3 n5 H5;generalize w8.setCell ⟨tb,1,none⟩ (.slice (some ⟨g8,0,none⟩) (s+1) hQ)=W10 at*;go_wp2;go_roundw
        case rel=>exact⟨s+1,_,_,_,_,_,_,_,by omega,by go_num,f2.o,by rw[LH,hI.o];rfl,by rw[LH,hJ.o];rfl,m4,j3,b6.o,b5⟩
        case measure=>simp[QN];omega
    ·have d4:s=nf:=by omega
     have e5:=dF s nf (by omega)
     have eX:Below W0.heap.size W0 wr:=⟨J.os.trans hD.o.os,J.tape.trans hD.o.tape,J.output.trans hD.o.output,LZ hD.o.size J.size,λ k Y=>(J.block k (by omega)).trans (hD.o.block k Y)⟩
     have e0:=(eX.cell (p:=⟨w.heap.size,0,none⟩) (by show w.heap.size<W0.heap.size;omega)).trans f8;have e1:=(eX.cell (p:=⟨w.heap.size,1,none⟩) (by show w.heap.size<W0.heap.size;omega)).trans p1;have f0:∀i,wr.frozen? ⟨w.heap.size,i,none⟩=false:=λ i=>(eX.frozen (p:=⟨w.heap.size,i,none⟩) (by show w.heap.size<W0.heap.size;omega)).trans (x1 i)
     have r6:=f0 0;have v3:=f0 1;have t0:=I.c0;have t1:=I.c1;have p6:vO.oneCell'=true:=by obtain⟨x,y,e⟩:=gA I.rO.1;rw[e];rfl
     have p5:vT.oneCell'=true:=by obtain⟨x,y,e⟩:=gA I.rT.1;rw[e];rfl
     have i2:QO (∀v∈ [vO,vT],v.oneCell'=true):=λ v hv=>by
      rcases OJ.1 hv with e|e
      ·rw[e];exact p6
      ·rw[ML.1 e];exact p5
     have s1:QO (wr.rangeAt tb 0 [vO,vT]):=λ j v hv=>by
      rcases j with _|_|j
      ·have e:=sJ hv
       rw[<-e];exact t0
      ·have e:=sJ hv
       rw[<-e];exact t1
      ·simp at hv
     have f6:QO (wr.there w.heap.size 0 2):=λ j hj=>by
      rcases j with _|_|j
      ·exact⟨by show(wr.cell? ⟨w.heap.size,0,none⟩).isSome=true;rw[e0];rfl,r6⟩
      ·exact⟨by show(wr.cell? ⟨w.heap.size,1,none⟩).isSome=true;rw[e1];rfl,v3⟩
      ·omega
     have p2:∀k,k≠w.heap.size->(wr.setCells w.heap.size 0 [vO,vT]).heap[k]?=wr.heap[k]? :=λ k l2=>(iC (wr.setCell ⟨w.heap.size,0,none⟩ vO) w.heap.size 1 vT l2).trans (iC wr w.heap.size 0 vO l2)
     have h9:wr.heap.size<=(wr.setCells w.heap.size 0 [vO,vT]).heap.size:=(fX [vO,vT] 0 wr w.heap.size (NJ 0 _) zL).size;have W3:TM tb tb (wr.setCells w.heap.size 0 [vO,vT]) O vO vT Z F cO cT:=I.keep h9 (λ k _ h5=>⟨p2 k (λ e=>h5 (by rw[e];exact a6.o _ (by omega))),rfl⟩) (λ k Y=>I.fr k (by omega));have o4:=W3.view i3 (by rw[hI.o];exact d4) (by rw[hJ.o];exact d4);have i1:QO (Uf (wr.setCells w.heap.size 0 [vO,vT]) vO vT nf (λ s=>of (first.getD s 0)) (qY To al bI first)):=by
      obtain⟨g1,c1,g2,c2,q1,k1,k2,k3,k4,k5,k6⟩:=o4;refine⟨g1,c1,g2,c2,q1,k1,k2,k3,λ i hi=>?_,k5,λ i b hi hb=>?_⟩
      ·have hx:=LC (l:=Z) (i:=i) (by rw[hI.o];omega);have:=p3.o i _ hx;rw[k4 i hi];show some (NM .i64 (Z.getD i 0))=_;rw[LN,hx];exact congrArg (λ x=>some (NM .i64 x)) this
      ·have hx:=LC (l:=F) (i:=i) (by rw[hJ.o];omega);have:=m7.o i _ hx b hb;rw[k6 i b hi hb];show some (NM .i64 (F.getD i (λ _=>0) b))=_;rw[LN,hx,<-this];rfl
     have q2:QO (Below w.heap.size w (wr.setCells w.heap.size 0 [vO,vT])):=fX _ 0 _ _ (lZ nN.o eX) lR;have t3:QO (Bb (jB L) l0 nf (λ s=>of (first.getD s 0)) (qY To al bI first)):=by
      have n7:=m0.o.canon H0.o s3.o H4.o k9.o;rw[V.o]at n7;refine⟨n7,λ i hi=>?_,?_,λ b u hl=>?_⟩
      ·have hx:=LC (l:=first) (i:=i) (by rw[V.o];exact hi);show -1<=of (first.getD i 0)/\of (first.getD i 0)<8;rw[vG hx];exact e9.o _ (j5.o i _ hx)
      ·show of (first.getD 0 0)= -1;rw[vG HZ.o];exact s5.o
      ·have:=m0.o.obs0 H0.o H4.o k9.o (b::u) hl;have ht:=l4.o b u hl;rw[<-this]at ht;exact ht
     have w7:nf<=1025:=by omega
     clear I J eX f0 d4 o4 W3 p2 h9;go_wp2_with (first
      | (refine QP rfl 68 (.tmp 14) rfl tb 0 rfl [vO,vT] _ s1.o underlying68 rfl cW ?_)
      | (refine QQ rfl 68 (.tmp 6) (.tmp 161) rfl w.heap.size 0 [vO,vT].toArray rfl rfl f6.o cW (QR i2.o) ?_))
     refine lE results22 w.heap.size 0 [vO,vT] _ rfl ?_ underlying68 rfl cW rfl ?_
     ·exact NF _ _ _ _ f6.o
     ·exact⟨vO,vT,nf,_,_,rfl,q2.o,i1.o,w7,t3.o⟩
end
end Go.Proofs.YtgjgjgihceijnaaGreat
namespace Go.Stn
variable {lo a b:Nat}
section
def Cx(p:Int):Prop:=p= -1\/p=10\/p=32
def S6(s x:tB)(a:Nat):Prop:=∀i,i<=x.size->(gF s (a+i)=gF x i)\/(Cx (gF x i)/\Cx (gF s (a+i)))
def Nx{α:Type}(a:Nat):Option (α×Nat)->Option (α×Nat)
 | none=>none
 | some (v,j)=>some (v,a+j)
variable {s x:tB}{a i:Nat}
theorem S6.is(h:S6 s x a)(hi:i<=x.size){b:Int}(I:b≠ -1/\b≠10/\b≠32):kU s b (a+i)=kU x b i:=by
 unfold kU;rcases h i hi with e|⟨o,F⟩
 ·rw[e]
 ·have C:¬gF s (a+i)=b:=λ e=>by rcases F with k|k|k<;>omega
  have D:¬gF x i=b:=λ e=>by rcases o with k|k|k<;>omega
  rw[decide_eq_false C,decide_eq_false D]
theorem zK{p:Int}(h:Cx p):nQ p=false:=by
 rcases h with rfl|rfl|rfl<;>rfl
theorem S6.vis(h:S6 s x a)(hi:i<=x.size):nQ (gF s (a+i))=nQ (gF x i)/\(nQ (gF x i)=true->gF s (a+i)=gF x i):=by
 rcases h i hi with e|⟨o,C⟩
 ·rw[e];exact⟨rfl,λ _=>rfl⟩
 ·rw[zK o,zK C];exact⟨rfl,λ h=>by cases h⟩
theorem S6.plain(h:S6 s x a)(hi:i<=x.size)(sp:tB):kV (gF s (a+i)) sp=kV (gF x i) sp/\(kV (gF x i) sp=true->gF s (a+i)=gF x i):=by
 rcases h i hi with e|⟨o,C⟩
 ·rw[e];exact⟨rfl,λ _=>rfl⟩
 ·unfold kV;rw[zK o,zK C];exact⟨rfl,λ h=>by simp at h⟩
theorem JZ(h:S6 s x a)(hi:i<=x.size):K9 s (a+i)=Nx a (K9 x i):=by
 unfold K9;rw[h.is hi (b:=110) (by decide),h.is hi (b:=115) (by decide)];by_cases o:kU x 110 i=true
 ·rw[aB o,aB o];rfl
 ·rw[aA o,aA o];by_cases C:kU x 115 i=true
  ·rw[aB C,aB C];rfl
  ·rw[aA C,aA C];obtain⟨v1,v2⟩:=h.vis hi;by_cases D:nQ (gF x i)=true
   ·rw[v2 D];split
    ·rfl
    ·rfl
   ·rw[aA (λ e=>D (by rw[<-v1];exact e.1)),aA (λ e=>D e.1)];rfl
theorem V5(h:S6 s x a)(hi:i<=x.size)(sp:tB):jK s sp (a+i)=Nx a (jK x sp i):=by
 unfold jK;rw[h.is hi (b:=92) (by decide)];by_cases o:kU x 92 i=true
 ·rw[aB o,aB o];have:=vC (by omega) o;rw[show a+i+1=a+(i+1) by omega];exact JZ h (by omega)
 ·rw[aA o,aA o];obtain⟨v1,v2⟩:=h.plain hi sp;rw[v1];by_cases C:kV (gF x i) sp=true
  ·rw[aB C,aB C,v2 C];rfl
  ·rw[aA C,aA C];rfl
theorem Hc(h:S6 s x a)(hi:i<=x.size)(f:Nat->Bool):jP s f (a+i)=Nx a (jP x f i):=by
 unfold jP;rw[V5 h hi]
 cases e:jK x kJ i with
 | none=>rfl
 | some y=>
  obtain⟨v,j⟩:=y;have F:=F7 _ _ _ _ _ e;show(if kU s 45 (a+j)=false then _ else _)=Nx a (if kU x 45 j=false then _ else _);rw[h.is F.2 (b:=45) (by decide)];by_cases o:kU x 45 j=false
  ·rw[aB o,aB o];rfl
  ·rw[aA o,aA o];have D:=vC (b:=45) (by omega) (by simpa using o);rw[show a+j+1=a+(j+1) by omega,V5 h (by omega)]
   cases jK x kJ (j+1)with
   | none=>rfl
   | some y2=>
    obtain⟨v2,C⟩:=y2;show(if v2<v then none else some (jI f v v2,a+C))=Nx a (if v2<v then none else some (jI f v v2,C));split<;>rfl
theorem Qc(h:S6 s x a):∀(n m:Nat)(f:Nat->Bool)(i:Nat),i<=x.size->x.size<n+i->x.size<m+i->lL s m f (a+i)=Nx a (lL x n f i):=by
 intro n
 induction n with
 | zero=>intro m f i o I;omega
 | succ n ih=>
  intro m f i hi D F;obtain⟨m,rfl⟩:∃k,m=k+1:=⟨m-1,by omega⟩
  rw[lL,lL,h.is hi (b:=93) (by decide)];by_cases o:kU x 93 i=true
  ·rw[aB o,aB o];rfl
  ·rw[aA o,aA o,Hc h hi]
   cases e:jP x f i with
   | none=>rfl
   | some y=>
    obtain⟨g,j⟩:=y;have C:=F5 _ _ _ _ _ e;exact ih m g j C.2 (by omega) (by omega)
theorem Sz(h:S6 s x a)(hi:i<=x.size)(C:x.size<=s.size):pY s (a+i)=Nx a (pY x i):=by
 unfold pY;rw[Hc h hi]
 cases e:jP x gJ i with
 | none=>rfl
 | some y=>
  obtain⟨g,j⟩:=y;have o:=F5 _ _ _ _ _ e;exact Qc h (x.size+1) (s.size+1) g j o.2 (by omega) (by omega)
theorem IX(h:S6 s x a)(hi:i<=x.size)(C:x.size<=s.size):K1 s (a+i)=Nx a (K1 x i):=by
 unfold K1;rw[h.is hi (b:=94) (by decide)];by_cases o:kU x 94 i=true
 ·have D:=vC (by omega) o;rw[aB o,aB o,show a+i+1=a+(i+1) by omega,Sz h (by omega) C]
  cases pY x (i+1)with
  | none=>rfl
  | some y=>rfl
 ·rw[aA o,aA o];exact Sz h hi C
theorem Ql(h:S6 s x a)(hi:i<=x.size)(F:x.size<=s.size):jC s (a+i)=Nx a (jC x i):=by
 unfold jC;rw[h.is hi (b:=91) (by decide),h.is hi (b:=46) (by decide)];by_cases o:kU x 91 i=true
 ·have D:=vC (by omega) o;rw[aB o,aB o,show a+i+1=a+(i+1) by omega];exact IX h (by omega) F
 ·rw[aA o,aA o];by_cases C:kU x 46 i=true
  ·rw[aB C,aB C];rfl
  ·rw[aA C,aA C,V5 h hi]
   cases jK x kI i with
   | none=>rfl
   | some y=>rfl
def EO(x:tB)(a lo:Nat)(C o:Nat->Option (Rx×Nat)):Prop:=∀i,lo<=i->i<=x.size->C (a+i)=Nx a (o i)
theorem GK{D C:Nat->Option (Rx×Nat)}(h:S6 s x a)(U:x.size<=s.size)(I:tC x C)(J:EO x a (lo+1) D C):EO x a lo (mC s D) (mC x C):=λ i V hi=>by
 unfold mC;rw[h.is hi (b:=40) (by decide)];by_cases o:kU x 40 i=true
 ·have F:=vC (by omega) o;rw[aB o,aB o,show a+i+1=a+(i+1) by omega,J (i+1) (by omega) (by omega)]
  cases e:C (i+1)with
  | none=>rfl
  | some y=>
   obtain⟨r,j⟩:=y;have Q:=I _ _ _ e;show(if kU s 41 (a+j)=true then _ else _)=Nx a (if kU x 41 j=true then _ else _);rw[h.is Q.2 (b:=41) (by decide)];split<;>rfl
 ·rw[aA o,aA o,Ql h hi U]
  cases jC x i with
  | none=>rfl
  | some y=>rfl
theorem EZ(h:S6 s x a)(hi:i<=x.size):mE (gF s (a+i))=mE (gF x i):=by
 rcases h i hi with e|⟨C,F⟩
 ·rw[e]
 ·have o:∀p,Cx p->mE p=0:=λ p D=>by rcases D with rfl|rfl|rfl<;>rfl
  rw[o _ C,o _ F]
theorem Jy{D o:Nat->Option (Rx×Nat)}(h:S6 s x a)(J:x.size<=s.size)(C:tC x o)(F:EO x a (lo+1) D o):EO x a lo (iZ s D) (iZ x o):=λ i Q hi=>by
 unfold iZ;rw[GK h J C F i Q hi]
 cases e:mC x o i with
 | none=>rfl
 | some y=>
  obtain⟨r,j⟩:=y;have I:=Ic C _ _ _ e;show(if mE (gF s (a+j))=0 then _ else _)=Nx a (if mE (gF x j)=0 then _ else _);rw[EZ h I.2];split<;>rfl
theorem Oh(h:S6 s x a)(hi:i<=x.size):mF s (a+i)=mF x i:=by
 rcases h i hi with e|⟨C,F⟩
 ·unfold mF;rw[e]
 ·have o:∀p,Cx p->(decide (p=40\/p=91\/p=46\/p=92)||kV p kI)=false:=λ p D=>by rcases D with rfl|rfl|rfl<;>rfl
  unfold mF;rw[o _ C,o _ F]
theorem On{D C:Nat->Option (Rx×Nat)}(h:S6 s x a)(I:x.size<=s.size)(F:tC x C)(U:EO x a (lo+1) D C):∀(n m:Nat)(r:Rx)(i:Nat),lo<=i->i<=x.size->x.size<n+i->x.size<m+i->lX s D m r (a+i)=Nx a (lX x C n r i):=by
 intro n
 induction n with
 | zero=>intro m r i _ o Y;omega
 | succ n ih=>
  intro m r i J hi X Z;obtain⟨m,rfl⟩:∃k,m=k+1:=⟨m-1,by omega⟩
  rw[lX,lX,Oh h hi];by_cases o:mF x i=false
  ·rw[aB o,aB o];rfl
  ·rw[aA o,aA o,Jy h I F U i J hi]
   cases e:iZ x C i with
   | none=>rfl
   | some y=>
    obtain⟨V,j⟩:=y;have Q:=wS F _ _ _ e;exact ih m _ j (by omega) Q.2 (by omega) (by omega)
theorem o7{I o:Nat->Option (Rx×Nat)}(h:S6 s x a)(F:x.size<=s.size)(C:tC x o)(D:EO x a (lo+1) I o):EO x a lo (vQ s I) (vQ x o):=λ i U hi=>by
 unfold vQ;rw[Jy h F C D i U hi]
 cases e:iZ x o i with
 | none=>rfl
 | some y=>
  obtain⟨J,j⟩:=y;have Q:=wS C _ _ _ e;exact On h F C D (x.size+1) (s.size+1) J j (by omega) Q.2 (by omega) (by omega)
theorem Mc{D C:Nat->Option (Rx×Nat)}(h:S6 s x a)(I:x.size<=s.size)(F:tC x C)(Q:EO x a (lo+1) D C):∀(n m:Nat)(r:Rx)(i:Nat),lo<=i->i<=x.size->x.size<n+i->x.size<m+i->kO s D m r (a+i)=Nx a (kO x C n r i):=by
 intro n
 induction n with
 | zero=>intro m r i _ o Z;omega
 | succ n ih=>
  intro m r i X hi Y hm;obtain⟨m,rfl⟩:∃k,m=k+1:=⟨m-1,by omega⟩
  rw[kO,kO,h.is hi (b:=124) (by decide)];by_cases o:kU x 124 i=false
  ·rw[aB o,aB o];rfl
  ·have U:=vC (b:=124) (by omega) (by simpa using o);rw[aA o,aA o,show a+i+1=a+(i+1) by omega,o7 h I F Q (i+1) (by omega) (by omega)]
   cases e:vQ x C (i+1)with
   | none=>rfl
   | some y=>
    obtain⟨V,j⟩:=y;have J:=Jt F _ _ _ e;exact ih m _ j (by omega) J.2 (by omega) (by omega)
theorem DR(h:S6 s x a)(D:x.size<=s.size):∀(f g:Nat),∀i,x.size<f+i->x.size<g+i->i<=x.size->kR s g (a+i)=Nx a (kR x f i):=by
 intro f
 induction f with
 | zero=>intro g i J _ Q;omega
 | succ f ih=>
  intro g i U hg hi;obtain⟨g,rfl⟩:∃k,g=k+1:=⟨g-1,by omega⟩
  have C:EO x a (i+1) (kR s g) (kR x f):=λ j F o=>ih g j (by omega) (by omega) o
  rw[kR,kR,o7 h D (xQ x f) C i lR hi]
  cases e:vQ x (kR x f) i with
  | none=>rfl
  | some y=>
   obtain⟨I,j⟩:=y;have F:=Jt (xQ x f) _ _ _ e;exact Mc h D (xQ x f) C (x.size+1) (s.size+1) I j (by omega) F.2 (by omega) (by omega)
end
theorem tK{s:tB}(o:b<=s.size):(s.extract a b).size=b-a:=by rw[ByteArray.size_extract];omega
theorem B5{s:tB}{i:Nat}(D:b<=s.size)(hi:i<b-a):bt (s.extract a b) i=bt s (a+i):=by
 have o:i<(s.extract a b).size:=by rw[tK D];exact hi
 have C:a+i<s.size:=by omega
 rw[<-kM (s.extract a b) i o,<-kM s (a+i) C];congr 1;exact ByteArray.getElem_extract _
theorem Xg{s:tB}(C:b<=s.size)(D:a<=b)(F:b=s.size\/bt s b=10\/bt s b=32):S6 s (s.extract a b) a:=λ i hi=>by
 rw[tK C]at hi;by_cases o:i<b-a
 ·left;rw[lK (show a+i<s.size by omega),lK (show i<(s.extract a b).size by rw[tK C];exact o),B5 C o]
 ·right;have e:a+i=b:=by omega
  refine⟨.inl (jW (by rw[tK C];omega)),?_⟩;rw[e];by_cases I:b=s.size
  ·exact .inl (jW (by omega))
  ·rw[lK (by omega)];rcases F with h|h|h
   ·exact absurd h I
   ·exact .inr (.inl (by omega))
   ·exact .inr (.inr (by omega))
def CI(s:tB)(c:Nat):Nat->List (Nat×Nat)->Prop
 | a,[]=>a=s.size+1
 | a,p::l=>p.1=a/\a<=p.2/\p.2<=s.size/\(∀j,a<=j->j<p.2->bt s j≠c)/\(p.2=s.size\/bt s p.2=c)/\CI s c (p.2+1) l
theorem o9(s:tB)(c:Nat):∀(n fr i:Nat),n+i=s.size+1->fr<=i->(∀j,fr<=j->j<i->bt s j≠c)->(n=0->fr=s.size+1)->CI s c fr (Xk s c n fr i):=by
 intro n
 induction n with
 | zero=>intro fr i _ _ _ h;exact h rfl
 | succ n ih=>
  intro fr i J C F _;by_cases o:i=s.size\/bt s i=c
  ·rw[Jg o];exact⟨rfl,C,by show i<=s.size;omega,F,o,ih (i+1) (i+1) (by omega) lR (λ j D I=>by omega) (λ h=>by omega)⟩
  ·rw[Rb o];refine ih fr (i+1) (by omega) (by omega) (λ j D I=>?_) (λ h=>?_)
   ·by_cases e:j=i
    ·rw[e];exact λ h=>o (.inr h)
    ·exact F j D (by omega)
   ·exact absurd (.inl (by omega)) o
theorem Y6(s:tB)(c:Nat):CI s c 0 (lT s c):=o9 s c (s.size+1) 0 0 (by omega) lR (λ j o C=>by omega) (λ h=>by omega)
end Go.Stn
namespace Go.Proofs.YtgjgjgihceijnaaGreat
open Go.Stn
variable {a b c:Nat}
theorem R3{s x:tB}{i:Nat}(h:S6 s x a)(hi:i<x.size):lA s (a+i)=if 0<=jR (bt x i)then some (jR (bt x i),a+i+1)else none:=by
 have C:=lK hi;unfold lA jR;rcases h i (by omega)with e|⟨o,J⟩
 ·rw[e,C];by_cases D:65<=bt x i/\bt x i<69
  ·rw[aB (by omega),aB D,aB (by omega)]
  ·rw[aA (by omega),aA D,aA (by omega)]
 ·have I:¬(65<=gF s (a+i)/\gF s (a+i)<69):=by rcases J with k|k|k<;>omega
  have F:¬(65<=bt x i/\bt x i<69):=by rw[C]at o;rcases o with k|k|k<;>omega
  rw[aA I,aA F,aA (by omega)]
theorem Eh{s x:tB}(h:S6 s x a):lA s (a+x.size)=none:=by
 have o:gF x x.size= -1:=jW lR;unfold lA;rw[aA];rcases h x.size lR with e|⟨_,C⟩
 ·rw[e,o];omega
 ·rcases C with k|k|k<;>omega
theorem Kl{s x:tB}(h:S6 s x a):∀(n m:Nat)(f:Nat->Bool)(aZ:Int)(i:Nat),i<=x.size->x.size<n+i-> -1<=aZ->aZ<=3->4<=(m:Int)+aZ->
  (∀g l,oC x n f aZ i=some (g,l)->jY s m f aZ (a+i)=some (g,a+x.size))/\(oC x n f aZ i=none->∀g b,jY s m f aZ (a+i)=some (g,b)->b<a+x.size):=by
 intro n
 induction n with
 | zero=>intro m f aZ i Q U;omega
 | succ n ih=>
  intro m f aZ i hi X Q U Y;obtain⟨m,rfl⟩:∃k,m=k+1:=⟨m-1,by omega⟩
  by_cases D:i<x.size
  ·have I:=R3 h D;have V:=Q4 (bt x i);by_cases F:jR (bt x i)<=aZ
   ·rw[zJ D F];refine⟨λ g l e=>(by cases e),λ _ g b o=>?_⟩;rw[jY,I]at o;by_cases J:0<=jR (bt x i)
    ·rw[aB J]at o;simp only at o;rw[aB F]at o
     cases o
    ·rw[aA J]at o;injection o with o;injection o with _ o;omega
   ·rw[C6 D F,jY,I,aB (show 0<=jR (bt x i) by omega)];simp only;rw[aA F];exact ih m _ _ (i+1) (by omega) (by omega) (by omega) (by omega) (by omega)
  ·have e:i=x.size:=by omega
   rw[B3 (by omega),e,jY,Eh h];exact⟨λ g l C=>(by injection C with C;injection C with C _;rw[C]),λ C=>(by cases C)⟩
theorem B8{s:tB}:rW s a=match lA s a with
  | none=>none
  | some _=>jY s 6 gJ (-1) a:=by
 unfold rW
 cases e:lA s a with
 | none=>rfl
 | some y=>
  obtain⟨x,a1⟩:=y;rw[jY,e];simp only;have o:0<=x:=by
   unfold lA at e;split at e
   ·injection e with e;injection e with e _;omega
   ·cases e
  rw[aA (by omega)]
theorem Z1{s x:tB}(h:S6 s x a)(C:0<x.size):
  (∀g l,oC x (x.size+1) gJ (-1) 0=some (g,l)->rW s a=some (g,a+x.size))/\(oC x (x.size+1) gJ (-1) 0=none->∀g b,rW s a=some (g,b)->b<a+x.size):=by
 have o:=Kl h (x.size+1) 6 gJ (-1) 0 (by omega) (by omega) (by omega) (by omega) (by omega);rw[MQ]at o;rw[B8];have F:=R3 h C;rw[MQ]at F;have I:=Q4 (bt x 0);rw[F];by_cases D:0<=jR (bt x 0)
 ·rw[aB D];exact o
 ·rw[aA D];refine⟨λ g l e=>?_,λ _ g b e=>(by cases e)⟩;rw[zJ C (by omega)]at e
  cases e
section
def D4(c:Nat):Int:=if c=46 then 0 else if c=45 then 1 else(c:Int)-65+2
def F9(x:mU):gX:=(x.1,D4 x.2.2.1,x.2.2.2)
theorem Ct{t:tB}{e:Nat}(_:e<=t.size)(o:a+c<=e):(t.extract a e).extract b c=t.extract (a+b) (a+c):=by
 rw[ByteArray.extract_extract,OH o]
theorem JJ{t:tB}{b:Int}(h:gF t a≠b):kU t b a=false:=by
 unfold kU;rw[aF];exact h
theorem T7{t:tB}(h:a<t.size)(o:bt t a=32):kU t 32 a=true:=by
 unfold kU;rw[aE,lK h,o]
 rfl
theorem KM{t:tB}(h:a<t.size->bt t a≠c):kU t (c:Int) a=false:=by
 apply JJ;intro e;by_cases o:a<t.size
 ·rw[lK o]at e;exact h o (by omega)
 ·rw[jW (by omega)]at e;omega
theorem AW{t:tB}(h:a<t.size->bt t a≠32):kU t 32 a=false:=KM (c:=32) h
theorem l8{t:tB}(h:a<t.size->bt t a≠10):kU t 10 a=false:=KM (c:=10) h
theorem S1(t:tB):∀(n:Nat)(f:Nat->Bool)(aZ:Int)(a:Nat)(g:Nat->Bool)(b:Nat),jY t n f aZ a=some (g,b)->a<=b
 | 0,f,aZ,a,g,b,h=>by cases h
 | n+1,f,aZ,a,g,b,h=>by
  rw[jY]at h;unfold lA at h;split at h
  ·injection h with h;injection h with _ h;omega
  ·rename_i x a1 e;split at e
   ·injection e with e;injection e with _ e;split at h
    ·cases h
    ·have:=S1 t n _ _ _ _ _ h;omega
   ·cases e
theorem AE{t:tB}{g:Nat->Bool}(h:rW t a=some (g,b)):a<=b:=by
 rw[B8]at h;split at h
 ·cases h
 ·exact S1 t _ _ _ _ _ _ h
theorem J9{t:tB}(h:a<t.size):pR t a=if jR (bt t a)<0/\bt t a≠46/\bt t a≠45 then none else some (D4 (bt t a),a+1):=by
 unfold pR lA kU jR D4;rw[lK h];simp only[aE];by_cases o:bt t a=46
 ·rw[o];rfl
 ·rw[aA (by omega)];by_cases C:bt t a=45
  ·rw[C];rfl
  ·rw[aA (by omega)];by_cases D:65<=bt t a/\bt t a<69
   ·rw[aB (by omega),aB D,aA (by omega),aA o,aA C]
   ·rw[aA (by omega),aA D,aB (by omega)]
theorem Kh{t:tB}(h:t.size<=a):pR t a=none:=by
 unfold pR lA kU;rw[jW h]
 rfl
section
variable {t:tB}{a e:Nat}
theorem Dz(D:e<=t.size)(Q:a<=e)(_:∀j,a<=j->j<e->bt t j≠10)(I:e=t.size\/bt t e=10){p q:Nat}(U:p<=q)(V:q<=e-a)
  (F:∀j,p<=j->j<q->bt (t.extract a e) j≠32) (o:q=e-a\/bt (t.extract a e) q=32):
  S6 t (t.extract (a+p) (a+q)) (a+p)/\(t.extract (a+p) (a+q)).size=q-p/\(∀j,a+p<=j->j<a+q->bt t j≠32)/\(q<e-a->a+q<t.size/\bt t (a+q)=32)/\(q=e-a->kU t 32 (a+q)=false):=by
 refine⟨Xg (by omega) (by omega) ?_,?_,λ j X J=>?_,λ h=>?_,λ h=>?_⟩
 ·rcases o with h|h
  ·rcases I with k|k
   ·exact .inl (by omega)
   ·exact .inr (.inl (by rw[show a+q=e by omega];exact k))
  ·by_cases C:q<e-a
   ·rw[B5 D C]at h;exact .inr (.inr h)
   ·rcases I with k|k
    ·exact .inl (by omega)
    ·exact .inr (.inl (by rw[show a+q=e by omega];exact k))
 ·rw[tK (by omega)];omega
 ·have:=F (j-a) (by omega) (by omega);rw[B5 D (by omega),show a+(j-a)=j by omega]at this;exact this
 ·rcases o with k|k
  ·omega
  ·rw[B5 D h]at k;exact⟨by omega,k⟩
 ·refine AW (λ J=>?_);rcases I with k|k
  ·omega
  ·rw[show a+q=e by omega,k];decide
theorem Qd{x:tB}(h:S6 t x b)(o:x.size<=t.size):kR t (t.size+1) b=Nx b (kR x (x.size+1) 0):=by
 have:=DR h o (x.size+1) (t.size+1) 0 (by omega) (by omega) (by omega);rw[MQ]at this;exact this
theorem Z2{f:Nat->Bool}{a1:Nat}(h:rW t a=some (f,a1))(o:kU t 32 a1=true):oU t a=match kR t (t.size+1) (a1+1)with
  | none=>none
  | some (r,a2)=>if kU t 32 a2=false then none else match pR t (a2+1)with
   | none=>none
   | some (b,a3)=>some ((f,b,r),a3):=by
 unfold oU;rw[h];simp only;rw[aA (by rw[o];decide)]
 rfl
theorem Gt(he:e<=t.size)(aO:a<=e)(hn:∀j,a<=j->j<e->bt t j≠10)(hE:e=t.size\/bt t e=10):
  (∀x,oF (t.extract a e)=some x->oU t a=some (F9 x,e))/\(oF (t.extract a e)=none->∀x b,oU t a=some (x,b)->a<=b/\b<e):=by
 have Y:(t.extract a e).size=e-a:=tK he;have hcut:=Y6 (t.extract a e) 32;unfold oF
 cases hl:lT (t.extract a e) 32 with
 | nil=>rw[hl]at hcut;have:0=(t.extract a e).size+1:=hcut;omega
 | cons p0 l0=>
  rw[hl]at hcut;obtain⟨c1,c2,c3,c4,c5,c6⟩:=hcut;obtain⟨q0,o⟩:=p0;simp only at c1 c2 c3 c4 c5 c6;subst c1;rw[Y]at c3 c5;obtain⟨i1,i2,i3,i4,i5⟩:=Dz he aO hn hE (p:=0) (q:=o) c2 c3 c4 c5;rw[MQ]at i1 i2 i3;rw[Nat.sub_zero]at i2;obtain⟨J,bO⟩:∃x,x=t.extract a (a+o):=⟨_,rfl⟩
  rw[<-bO]at i1 i2;have bS:(t.extract a e).extract 0 o=J:=by rw[Ct he (by omega),bO];rfl
  have hk:(oU t a=none)\/(0<J.size/\∃g l,oC J (J.size+1) gJ (-1) 0=some (g,l)/\rW t a=some (g,a+o)):=by
   by_cases hz:0<J.size
   ·obtain⟨k1,k2⟩:=Z1 i1 hz
    cases hg:oC J (J.size+1) gJ (-1) 0 with
    | some y=>exact .inr ⟨hz,y.1,y.2,rfl,by rw[k1 y.1 y.2 hg,i2]⟩
    | none=>
     left;unfold oU
     cases Z:rW t a with
     | none=>rfl
     | some y=>
      obtain⟨g,b⟩:=y;have h1:=k2 hg g b Z;have D:=AE Z;simp only;rw[aB (AW (λ _=>i3 b D (by omega)))]
   ·left;unfold oU;rw[B8];have bM:=Eh i1;rw[i2,show o=0 by omega,MQ]at bM;rw[bM]
  cases l0 with
  | nil=>
   have c6:o+1=(t.extract a e).size+1:=c6;have hN:oU t a=none:=by
    rcases hk with h|⟨_,g,l,_,h⟩
    ·exact h
    ·unfold oU;rw[h];simp only;rw[aB (i5 (by omega))]
   rw[hN];exact⟨λ x h=>(by cases h),λ _ x b h=>(by cases h)⟩
  | cons p1 l1=>
   obtain⟨d1,d2,d3,d4,d5,d6⟩:=c6;obtain⟨q2,C⟩:=p1;simp only at d1 d2 d3 d4 d5 d6;subst d1;rw[Y]at d3 d5;have U:=i4 (by omega);obtain⟨j1,j2,j3,j4,j5⟩:=Dz he aO hn hE (p:=o+1) (q:=C) d2 d3 d4 d5;obtain⟨F,bK⟩:∃x,x=t.extract (a+(o+1)) (a+C):=⟨_,rfl⟩
   rw[<-bK]at j1 j2;have cP:(t.extract a e).extract (o+1) C=F:=by rw[Ct he (by omega),bK]
   have aT:=Qd j1 (by omega);have eM:=xQ F (F.size+1);have X:(oU t a=none)\/(0<J.size/\∃g l r,oC J (J.size+1) gJ (-1) 0=some (g,l)/\kR F (F.size+1) 0=some (r,F.size)/\kU t 32 (a+C)=true/\oU t a=match pR t (a+C+1)with
     | none=>none
     | some (b,a3)=>some ((g,b,r),a3)):=by
    rcases hk with h|⟨hz,g,l,hg,h⟩
    ·exact .inl h
    ·rw[Z2 h (T7 U.1 U.2),show a+o+1=a+(o+1) by omega,aT]
     cases hr:kR F (F.size+1) 0 with
     | none=>exact .inl rfl
     | some y=>
      obtain⟨r,i⟩:=y;have h1:=eM _ _ _ hr;show((if kU t 32 (a+(o+1)+i)=false then none else _)=none)\/_;by_cases hi:i<F.size
      ·left;rw[aB (AW (λ _=>j3 (a+(o+1)+i) (by omega) (by omega)))]
      ·have ei:i=F.size:=by omega
       have e3:a+(o+1)+i=a+C:=by omega
       by_cases hb:kU t 32 (a+C)=true
       ·right;refine⟨hz,g,l,r,hg,by rw[ei],hb,?_⟩;show(if kU t 32 (a+(o+1)+i)=false then none else match pR t (a+(o+1)+i+1)with|none=>none|some (b,a3)=>some ((g,b,r),a3))=_;rw[e3,aA (by rw[hb];decide)]
       ·left;rw[e3,aB (by simpa using hb)]
   cases l1 with
   | nil=>
    have d6:C+1=(t.extract a e).size+1:=d6;have hN:oU t a=none:=by
     rcases X with h|⟨_,g,l,r,_,_,hb,_⟩
     ·exact h
     ·rw[j5 (by omega)]at hb;cases hb
    rw[hN];exact⟨λ x h=>(by cases h),λ _ x b h=>(by cases h)⟩
   | cons p2 l2=>
    obtain⟨f1,f2,f3,f4,f5,f6⟩:=d6;obtain⟨q4,q5⟩:=p2;simp only at f1 f2 f3 f4 f5 f6;subst f1;rw[Y]at f3 f5;obtain⟨V,aR⟩:∃x,x=t.extract (a+(C+1)) (a+q5):=⟨_,rfl⟩
    have cN:(t.extract a e).extract (C+1) q5=V:=by rw[Ct he (by omega),aR]
    obtain⟨m1,m2,m3,m4,m5⟩:=Dz he aO hn hE (p:=C+1) (q:=q5) f2 f3 f4 f5;rw[<-aR]at m2;have bN:∀x b,oU t a=some (x,b)->b=a+(C+1)+1/\C+1<q5:=λ x b h=>by
     rcases X with D|⟨_,g,l,r,_,_,_,D⟩
     ·rw[D]at h;cases h
     ·rw[D]at h;by_cases hp:a+C+1<t.size
      ·rw[J9 hp]at h;split at h
       ·cases h
       ·rename_i b2 a3 Q;split at Q
        ·cases Q
        ·rename_i bT;injection Q with Q;injection Q with _ Q;injection h with h;injection h with _ h;refine⟨by omega,?_⟩;apply MC;intro hq;have eq:q5=C+1:=by omega
         apply bT;by_cases cF:q5<e-a
         ·have:=(m4 cF).2;rw[eq,<-OB]at this;rw[this];decide
         ·have:bt t (a+C+1)=10:=by
           rcases hE with k|k
           ·omega
           ·rw[show a+C+1=e by omega];exact k
          rw[this];decide
      ·rw[Kh (by omega)]at h;cases h
    cases l2 with
    | cons p3 l3=>
     refine⟨λ x h=>(by cases h),λ _ x b h=>?_⟩;obtain⟨g1,g2,g3,_⟩:=f6;rw[Y]at g3;have:=bN x b h;omega
    | nil=>
     have f6:q5+1=(t.extract a e).size+1:=f6;simp only[bS,cP,cN];unfold yT;by_cases aL:J.size=0\/V.size≠1
     ·rw[aB aL];refine⟨λ x h=>(by cases h),λ _ x b h=>?_⟩;rcases X with D|⟨h0,_⟩
      ·rw[D]at h;cases h
      ·have:=bN x b h;omega
     ·rw[aA aL];have eO:V.size=1:=by omega
      have aW:bt V 0=bt t (a+C+1):=by rw[aR,B5 (by omega) (by omega),MQ,<-OB]
      rcases X with D|⟨h0,g,l,r,hg,hr,hb,D⟩
      ·
       rw[D];refine⟨λ x I=>?_,λ _ x b h=>(by cases h)⟩;exfalso
       cases hg:oC J (J.size+1) gJ (-1) 0 with
       | none=>rw[hg]at I;cases I
       | some y=>
        obtain⟨g,l⟩:=y;rw[hg]at I;simp only at I;split at I
        ·cases I
        ·rename_i Z;unfold qN at I
         cases hr:kR F (F.size+1) 0 with
         | none=>rw[hr]at I;cases I
         | some y2=>
          obtain⟨r,i⟩:=y2;rw[hr]at I;simp only at I;split at I
          ·cases I
          ·rename_i r' a' hs;split at hs
           ·injection hs with hs;injection hs with _ hs;split at I
            ·rename_i ea;have eN:rW t a=some (g,a+o):=by
              have:=(Z1 i1 (by omega)).1 g l hg;rw[this,i2]
             have bC:=j4 (by omega);rw[Z2 eN (T7 U.1 U.2),show a+o+1=a+(o+1) by omega,aT,hr]at D;have e3:a+(o+1)+i=a+C:=by omega
             have D:(if kU t 32 (a+(o+1)+i)=false then none else match pR t (a+(o+1)+i+1)with|none=>none|some (b,a3)=>some ((g,b,r),a3))=none:=D;rw[e3,aA (by rw[T7 bC.1 bC.2];decide),J9 (by omega),aA (by rw[<-aW];exact Z)]at D
             cases D
            ·cases I
           ·cases hs
      ·rw[hg];simp only;rw[D,J9 (by omega),<-aW];by_cases Z:jR (bt V 0)<0/\bt V 0≠46/\bt V 0≠45
       ·rw[aB Z,aB Z];exact⟨λ x h=>(by cases h),λ _ x b h=>(by cases h)⟩
       ·rw[aA Z,aA Z];have eL:qN F (kR F (F.size+1)) 0=some (r,F.size):=by
         unfold qN;rw[hr];simp only;rw[aB (by unfold uN;rw[aE];exact .inl lR)]
        rw[eL];simp only[if_true];refine⟨λ x h=>?_,λ h=>(by cases h)⟩;injection h with h;rw[<-h];show some ((g,D4 (bt V 0),r),a+C+1+1)=some ((g,D4 (bt V 0),r),e);rw[show a+C+1+1=e by omega]
end
theorem Z4{t:tB}:∀(ps:List (Nat×Nat)) (n:Nat) (aS:List gX) (q:Nat),CI t 10 (q+1) ps->ps.length<n->(ps=[]->q=t.size)->(ps≠ []->q<t.size/\bt t q=10)->
  (∀l,A6 t ps=some l->kF t n aS q=some (aS++l.map F9,t.size))/\(A6 t ps=none->∀l b,kF t n aS q=some (l,b)->b<t.size)
 | [],n,aS,q,_,hn,h0,_=>by
  obtain⟨n,rfl⟩:∃k,n=k+1:=⟨n-1,by simp at hn;omega⟩
  have hq:=h0 rfl;refine⟨λ l C=>?_,λ C=>(by cases C)⟩;have C:some []=some l:=C;injection C with C;rw[kF,aB (l8 (λ h=>by omega)),<-C,hq];simp
 | p::ps,n,aS,q,hc,hn,_,h1=>by
  obtain⟨n,rfl⟩:∃k,n=k+1:=⟨n-1,by omega⟩
  obtain⟨V,U⟩:=h1 (by simp);obtain⟨c1,c2,c3,X,Z,D⟩:=hc;have o:=Gt (t:=t) (a:=q+1) (e:=p.2) c3 c2 X Z;have Q:kU t 10 q=true:=by unfold kU;rw[aE,lK V,U];rfl
  have ih:=λ F=>Z4 ps n F p.2 D (by simp at hn;omega) (λ e=>by rw[e]at D;have:p.2+1=t.size+1:=D;omega) (λ e=>by
   rcases Z with k|k
   ·exfalso
    cases ps with
    | nil=>exact e rfl
    | cons p' ps'=>
     obtain⟨_,k2,k3,_⟩:=D;omega
   ·refine⟨?_,k⟩;apply MC;intro aL
    cases ps with
    | nil=>exact e rfl
    | cons p' ps'=>
     obtain⟨_,k2,k3,_⟩:=D;omega)
  rw[kF,aA (by rw[Q];decide)];unfold A6;rw[c1]
  cases C:oF (t.extract (q+1) p.2)with
  | none=>
   refine⟨λ l h=>(by cases h),λ _ l b h=>?_⟩
   cases I:oU t (q+1)with
   | none=>rw[I]at h;cases h
   | some y=>
    obtain⟨x,b2⟩:=y;have Y:=o.2 C x b2 I;rw[I]at h;simp only at h
    cases n with
    | zero=>cases h
    | succ n=>
     rw[kF,aB (l8 (λ _=>X b2 Y.1 Y.2))]at h;injection h with h;injection h with _ h;omega
  | some x=>
   have I:=o.1 x C;rw[I];simp only;have J:=ih (aS++[F9 x])
   cases e2:A6 t ps with
   | none=>exact⟨λ l h=>(by cases h),λ _ l b h=>J.2 e2 l b h⟩
   | some l2=>
    refine⟨λ l h=>?_,λ h=>(by cases h)⟩;injection h with h;rw[J.1 l2 e2,<-h];simp
theorem Nd{t:tB}:∀{ps:List (Nat×Nat)}{a:Nat},CI t c a ps->a+ps.length<=t.size+1
 | [],a,h=>by have h:a=t.size+1:=h;simp;omega
 | p::ps,a,h=>by
  obtain⟨_,C,D,_,_,o⟩:=h;have:=Nd o;simp only[MN];omega
theorem Ug{t:tB}:∀{ps:List (Nat×Nat)}{l:List mU},A6 t ps=some l->l.length=ps.length
 | [],l,h=>by injection h with h;rw[<-h];rfl
 | p::ps,l,h=>by
  unfold A6 at h
  cases e:oF (t.extract p.1 p.2)with
  | none=>rw[e]at h;cases h
  | some x=>
   rw[e]at h;simp only at h
   cases e2:A6 t ps with
   | none=>rw[e2]at h;cases h
   | some l2=>
    rw[e2]at h;injection h with h;rw[<-h,MN,MN,Ug e2]
theorem Sn(t:tB):vE t=if 8<(lT t 10).length then none else(A6 t (lT t 10)).map (λ l=>l.map F9):=by
 have I:=Y6 t 10
 cases hl:lT t 10 with
 | nil=>rw[hl]at I;have:0=t.size+1:=I;omega
 | cons p ps=>
  rw[hl]at I;have D:=Nd I;obtain⟨c1,c2,c3,X,Z,C⟩:=I;have o:=Gt (t:=t) (a:=0) (e:=p.2) c3 c2 X Z;have ih:=λ F=>Z4 (t:=t) ps (t.size+1) F p.2 C (by simp at D;omega) (λ e=>by rw[e]at C;have:p.2+1=t.size+1:=C;omega) (λ e=>by
   rcases Z with k|k
   ·exfalso
    cases ps with
    | nil=>exact e rfl
    | cons p' ps'=>
     obtain⟨_,k2,k3,_⟩:=C;omega
   ·refine⟨?_,k⟩;apply MC;intro aL
    cases ps with
    | nil=>exact e rfl
    | cons p' ps'=>
     obtain⟨_,k2,k3,_⟩:=C;omega)
  unfold vE I6 A6;rw[c1]
  cases e1:oF (t.extract 0 p.2)with
  | none=>
   have U:(match (match oU t 0 with|none=>none|some (x,a)=>kF t (t.size+1) [x] a)with|none=>none|some (l,a)=>if a=t.size/\l.length<=8 then some l else none)=(none:Option (List gX)):=by
    cases V:oU t 0 with
    | none=>rfl
    | some y=>
     obtain⟨x,b2⟩:=y;have Y:=o.2 e1 x b2 V;simp only;rw[kF,aB (l8 (λ _=>X b2 Y.1 Y.2))];simp only;rw[aA (λ h=>by omega)]
   refine Eq.trans U ?_;split<;>rfl
  | some x=>
   have V:=o.1 x e1;rw[V];simp only;have J:=ih [F9 x]
   cases e2:A6 t ps with
   | none=>
    have U:(match kF t (t.size+1) [F9 x] p.2 with|none=>none|some (l,a)=>if a=t.size/\l.length<=8 then some l else none)=(none:Option (List gX)):=by
     cases hr2:kF t (t.size+1) [F9 x] p.2 with
     | none=>rfl
     | some y=>
      obtain⟨l,b⟩:=y;have:=J.2 e2 l b hr2;simp only;rw[aA (λ h=>by omega)]
    refine Eq.trans U ?_;split<;>rfl
   | some l2=>
    rw[J.1 l2 e2];simp only[true_and];have:=Ug e2;by_cases Q:8<(p::ps).length
    ·rw[aB Q,aA (by simp at Q⊢;omega)]
    ·rw[aA Q,aB (by simp at Q⊢;omega)]
     rfl
theorem Ay:∀(l:List mU),mV (l.map F9)=Z5 l
 | []=>rfl
 | x::l=>by
  show(F9 x).2.2.np+mV (l.map F9)=x.2.2.2.np+Z5 l;rw[Ay l];rfl
theorem Sb(t:tB):(∀c,vF t=(none,c)->c≠0/\kC t=(c:Int))/\(∀l c,vF t=(some l,c)->kC t=0/\vE t=some (l.map F9)/\Z5 l<=10/\t.size<=120/\A6 t (lT t 10)=some l):=by
 obtain⟨V,J,U⟩:=By t;have o:=Sn t;unfold vF;by_cases D:120<t.size
 ·rw[aB D];refine⟨λ c h=>?_,λ l c h=>(by injection h with h;cases h)⟩;injection h with _ h;rw[<-h];exact⟨by decide,V D⟩
 ·rw[aA D];by_cases C:8<(lT t 10).length
  ·rw[aB C];rw[aB C]at o;refine⟨λ c h=>?_,λ l c h=>(by injection h with h;cases h)⟩;injection h with _ h;rw[<-h];exact⟨by decide,J (by omega) o⟩
  ·rw[aA C];rw[aA C]at o
   cases e:A6 t (lT t 10)with
   | none=>
    rw[e]at o;refine⟨λ c h=>?_,λ l c h=>(by injection h with h;cases h)⟩;injection h with _ h;rw[<-h];exact⟨by decide,J (by omega) o⟩
   | some l=>
    rw[e]at o;have o:vE t=some (l.map F9):=o;obtain⟨Q,I⟩:=U (by omega) _ o;rw[rK,show jX.aW.length=0 from rfl,MA,Ay]at Q I;simp only;by_cases F:10<Z5 l
    ·rw[aB F];refine⟨λ c h=>?_,λ l c h=>(by injection h with h;cases h)⟩;injection h with _ h;rw[<-h];exact⟨by decide,Q F⟩
    ·rw[aA F];refine⟨λ c h=>(by injection h with h;cases h),λ X c h=>?_⟩;injection h with h _;injection h with h;subst h;exact⟨(I (by omega)).1,o,by omega,by omega,rfl⟩
end
open Go.RowKit Go.Stn
theorem Rz{w0:tW}{O:Nat->Nat}{N:List RN}{R:List RV}{ls:List mU}(h:Um w0 O N R ls)(c r:Nat)(w:List Nat):WL N (rH c 0 R) r w↔∃x:gX,(ls.map F9)[r]?=some x/\x.1 c=true/\W x.2.2 w:=by
 constructor
 ·rintro⟨p,Y,C,X⟩;obtain⟨j,x,F,J,Z⟩:=Q3.1 Y;have I:j<ls.length:=by rw[<-h.1];exact(LD.1 F).1
  have D:=LC I;obtain⟨_,Q,_,U⟩:=h.2 j x _ F D;rw[Z,MA]at C X;have C:j=r:=C;subst C;refine⟨F9 (ls[j]'I),by rw[MR,D];rfl,?_,?_⟩
  ·show(ls[j]'I).1 c=true;rw[<-Q];exact J
  ·exact(U.2.1 w).1 (N4.1 X)
 ·rintro⟨x,o,F,J⟩;rw[MR]at o
  cases D:ls[r]? with
  | none=>rw[D]at o;cases o
  | some y=>
   rw[D]at o;have o:some (F9 y)=some x:=o;injection o with o;subst o;have C:r<R.length:=by rw[h.1];exact(LD.1 D).1
   have V:=LC C;obtain⟨_,Q,_,U⟩:=h.2 r _ y V D;refine⟨(r,[(R[r]'C).n]),Q3.2 ⟨r,_,V,by rw[Q];exact F,by rw[MA]⟩,rfl,N4.2 ((U.2.1 w).2 J)⟩
theorem Ii.tok{w0:tW}{O:Nat->Nat}{N:List RN}{R:List RV}{ls:List mU}(h:Um w0 O N R ls){c:Nat}{w:List Nat}{v:Nat}(J:Ii N (rH c 0 R) w v):I0 (ls.map F9) c w v:=by
 rcases J with⟨C,D⟩|⟨r,C,D,X⟩
 ·exact .inl ⟨C,λ r x U o=>D r ((Rz h c r w).2 ⟨x,U,o.1,o.2⟩)⟩
 ·obtain⟨x,V,Y,Z⟩:=(Rz h c r w).1 D;exact .inr ⟨r,x,C,V,⟨Y,Z⟩,λ r' Q F I o=>X r' F ((Rz h c r' w).2 ⟨Q,I,o.1,o.2⟩)⟩
