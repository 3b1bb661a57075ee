import Derived.Test.YtgjgjgihceijnaaGreatH03
open Go.RowKit renaming ownsRow_setCell_below->QN,intOf->QO,Hid->QP
open Go renaming info_parts->QQ,wpList_make_full->QR,madeCells->QS,run_underlying->QT,Calls->QU
open List renaming getElem?_eq_getElem->LC,length_append->LD,getD_eq_getElem?_getD->LF,mem_cons_self->LG,mem_singleton->LH,mem_cons_of_mem->LI,not_mem_nil->LK,mem_append->LM,getElem?_eq_some_iff->LN,getElem?_append_left->LO,append_assoc->LR,length_singleton->LS,getElem?_append_right->LU,mem_map->LY,mem_of_getElem?->LZ,append_nil->MA,length_cons->MB,getElem?_cons_succ->MD,getElem?_map->ME,mem_cons->MF,mem_flatMap->ML,getElem?_cons_zero->MO,all_eq_true->MQ,getElem?_eq_none->MU,length_eq_zero_iff->MZ,length_map->NB,getElem_mem->ND,flatMap_cons->NH,getElem_of_mem->NJ,any_eq_true->NK,length_nil->NQ,foldl_append->NU,map_cons->NY,take_add_one->OF,nil_append->OK,getD_cons_succ->OM,filter_append->OO,ext_getElem?->OP,flatten_cons->OR,cons_append->OS,flatMap_nil->OU,take_length->OV,map_toArray->OX,nodup_cons->OZ,sum_cons->PB,map_id'->PE,map_nil->PF
open Go.World renaming cell?_of_block->LJ,frozen?_of_block->MJ,cell?_setCell_other->MM,cell?_setCell_same->MN,cell?_alloc_at->MR,frozen?_setCell->MV,ownsRow_nil->MY,setCell->NC,cell?_alloc_new->NF,frozen?_alloc_at->NN,cell?->PG
open Classical renaming byContradiction->LP
open UInt8 renaming ofNat->LQ
open Go.RowKit.Below renaming heap_alloc->MC,refl->OE
open Go.Proofs.Tryz renaming prog->MG,underlying59->NI,ntmps116->NZ,func116->OD,underlying80->OG
open Nat renaming zero_add->MH,lt_of_lt_of_le->MI,add_zero->MS,strongRecOn->MT,sub_self->MW,le_of_lt->NS,le_trans->NT,mul_le_mul_right->OB,mod_eq_of_lt->OI,succ_mul->OJ,mul_one->OL,lt_trichotomy->OQ,sub_zero->PC
open Go.Value renaming ownBlock->NE,oneCell'->NM,slice->OC,bool->PA
open Bool renaming eq_iff_iff->NG,and_eq_true->NW,false_eq_true->ON,or_eq_true->OY
open Option renaming map_some->NO,getD_some->OH
open Int renaming toNat_natCast->NR
open Go.Proofs.Tryz
set_option maxRecDepth 100000
set_option maxHeartbeats 8000000
namespace Go.Stn
open Go.Proofs.YtgjgjgihceijnaaGreat (rY zD uZ)
variable {r k c n L K s m i a f f' j fr:Nat}{aK aN l:List Nat}{A B:List UInt8}{ls:List (List (Nat×List Int))}
theorem Hk:∀(l m:List (Int×Int×Int)) (k:Nat) (ps:Nat->qQ) (aG:Nat->Int),jJ (l++m) k ps aG=jJ m (k+l.length) (jJ l k ps aG).1 (jJ l k ps aG).2
 | [],m,k,ps,aG=>rfl
 | x::l,m,k,ps,aG=>by
  rw[OS,jJ,Hk l m,jJ,MB,show k+1+l.length=k+(l.length+1) by omega]
def kW:Nat->List gX->List (Rx×Nat)
 | _,[]=>[]
 | k,x::l=>(x.2.2,k)::kW (k+x.2.2.np) l
theorem tH:∀(l:List gX)(k:Nat),(kW k l).length=l.length
 | [],_=>rfl
 | x::l,k=>by simp[kW,tH l]
theorem Bz:∀(l:List gX)(k:Nat)(y:Rx×Nat),y∈kW k l->k<=y.2/\y.2+y.1.np<=k+mV l
 | [],_,y,h=>absurd h LK
 | x::l,k,y,h=>by
  rcases MF.1 h with e|e
  ·rw[e];show k<=k/\k+x.2.2.np<=k+(x.2.2.np+mV l);omega
  ·have:=Bz l _ y e;show k<=y.2/\y.2+y.1.np<=k+(x.2.2.np+mV l);omega
theorem C4:∀(l:List gX)(k i j:Nat)(y z:Rx×Nat),(kW k l)[i]?=some y->(kW k l)[j]?=some z->i<j->y.2+y.1.np<=z.2
 | [],_,_,_,_,_,h,_,_=>by simp[kW]at h
 | x::l,k,i,j,y,z,o,hz,hij=>by
  obtain⟨C,rfl⟩:∃C,j=C+1:=⟨j-1,by omega⟩
  rw[kW,MD]at hz
  cases i with
  | zero=>
   rw[kW,MO]at o;injection o with o;have:=Bz l _ z (LZ hz);rw[<-o];exact this.1
  | succ i'=>
   rw[kW,MD]at o;exact C4 l _ i' C y z o hz (by omega)
def Za(aW:List (Nat->Bool))(p b:Nat):Bool:=aW.getD p gJ b
theorem xH:∀(r:Rx)(C o:List (Nat->Bool)),r.says (Za (C++(r.fns++o))) C.length
 | .pl f,C,o=>λ b _=>by
  unfold Za;rw[LF,LU lR,MW]
  rfl
 | .cat a b,C,o=>by
  refine⟨?_,?_⟩
  ·have:=xH a C (b.fns++o);show a.says (Za (C++((a.fns++b.fns)++o))) C.length;rw[LR];exact this
  ·have:=xH b (C++a.fns) o;rw[LD,a.fns_len,LR]at this;show b.says (Za (C++((a.fns++b.fns)++o))) (C.length+a.np);rw[LR];exact this
 | .alt a b,C,o=>by
  refine⟨?_,?_⟩
  ·have:=xH a C (b.fns++o);show a.says (Za (C++((a.fns++b.fns)++o))) C.length;rw[LR];exact this
  ·have:=xH b (C++a.fns) o;rw[LD,a.fns_len,LR]at this;show b.says (Za (C++((a.fns++b.fns)++o))) (C.length+a.np);rw[LR];exact this
 | .opt a,C,o=>xH a C o
 | .plus a,C,o=>xH a C o
 | .star a,C,o=>xH a C o
def qB:List gX->List (Nat->Bool)
 | []=>[]
 | x::l=>x.2.2.fns++qB l
theorem vJ:∀(l:List gX)(st:gS),(fW st l).aW=st.aW++qB l
 | [],st=>(MA _).symm
 | x::l,st=>by
  rw[fW,vJ l];show(st.aW++x.2.2.fns)++qB l=_;rw[LR];rfl
theorem Cr:∀(l:List gX)(o:List (Nat->Bool)) (y:Rx×Nat),y∈kW o.length l->y.1.says (Za (o++qB l)) y.2
 | [],_,y,h=>absurd h LK
 | x::l,o,y,h=>by
  rcases MF.1 h with e|e
  ·rw[e];exact xH x.2.2 o (qB l)
  ·have:=Cr l (o++x.2.2.fns) y (by rw[LD,Rx.fns_len];exact e);rw[LR]at this;exact this
theorem Bi(o:Nat->qQ)(C:Nat->Int):∀(l:List gX)(st:gS),st.aW.length+mV l<=10->(∀p,jA ((jJ st.aV 0 o C).2 p))->
  (∀i,i<st.aV.length->(jJ (fW st l).aV 0 o C).1 i=(jJ st.aV 0 o C).1 i)/\st.aV.length<=(fW st l).aV.length/\
  (∀p,jA ((jJ (fW st l).aV 0 o C).2 p))/\
  (∀p q,nP ((jJ (fW st l).aV 0 o C).2 p) q=true↔(nP ((jJ st.aV 0 o C).2 p) q=true\/∃y∈kW st.aW.length l,y.1.fol y.2 p q))/\
  ∃R:List ((Nat->Bool)×Int×Int),(fW st l).aX=st.aX++R/\R.length=l.length/\∀(r:Nat)(x:gX)(y:Rx×Nat),l[r]?=some x->(kW st.aW.length l)[r]?=some y->
   ∃root:Nat,R[r]?=some (x.1,x.2.1,(root:Int))/\wM ((jJ (fW st l).aV 0 o C).1 root) y.1 y.2
 | [],st,_,hn=>by
  refine⟨λ _ _=>rfl,lR,hn,λ p q=>⟨λ h=> .inl h,λ h=>h.elim id (λ⟨y,D,_⟩=>absurd D LK)⟩,[],(MA _).symm,rfl,λ r x y h=>by simp at h⟩
 | x::l,st,Y,hn=>by
  have Y:st.aW.length+(x.2.2.np+mV l)<=10:=Y;obtain⟨U,n1,X,k1,p1,Z⟩:=uS x.2.2 st.aV.length st.aW.length [] (jJ st.aV 0 o C).1 (jJ st.aV 0 o C).2 (by omega) hn;have aL:=x.2.2.sz_pos;have F:jJ (kS st x st.at_).aV 0 o C=(U,n1):=by
   show jJ (st.aV++x.2.2.flat st.aV.length st.aW.length) 0 o C=_;rw[Hk,MH];rw[MA]at X;rw[X];rfl
  have J:(kS st x st.at_).aV.length=st.aV.length+x.2.2.sz:=by
   show(st.aV++x.2.2.flat st.aV.length st.aW.length).length=_;rw[LD,Rx.flat_len]
  have Q:(kS st x st.at_).aW.length=st.aW.length+x.2.2.np:=by
   show(st.aW++x.2.2.fns).length=_;rw[LD,Rx.fns_len]
  obtain⟨a1,a2,a3,V,R,b1,b2,b3⟩:=Bi o C l (kS st x st.at_) (by rw[Q];omega) (by rw[F];exact Z.s);rw[F]at a1 V;rw[Q]at V b3;rw[J]at a1 a2;refine⟨λ i hi=>?_,by show st.aV.length<=(fW (kS st x st.at_) l).aV.length;omega,a3,λ p q=>?_,(x.1,x.2.1,((st.aV.length+x.2.2.sz-1:Nat):Int))::R,?_,by simp[b2],λ r z y I D=>?_⟩
  ·show(jJ (fW (kS st x st.at_) l).aV 0 o C).1 i=_;rw[a1 i (by omega)];exact k1 i hi
  ·show nP ((jJ (fW (kS st x st.at_) l).aV 0 o C).2 p) q=true↔_;rw[V,Z.f];constructor
   ·rintro((h|h)|⟨y,D,h⟩)
    ·exact .inl h
    ·exact .inr ⟨(x.2.2,st.aW.length),LG,h⟩
    ·exact .inr ⟨y,LI _ D,h⟩
   ·rintro(h|⟨y,D,h⟩)
    ·exact .inl (.inl h)
    ·rcases MF.1 D with e|e
     ·rw[e]at h;exact .inl (.inr h)
     ·exact .inr ⟨y,e,h⟩
  ·show(fW (kS st x st.at_) l).aX=_;rw[b1];show(st.aX++[_])++R=_;rw[LR];rfl
  ·cases r with
   | zero=>
    rw[MO]at I;rw[kW,MO]at D;injection I with I;injection D with D;rw[<-I,<-D];refine⟨st.aV.length+x.2.2.sz-1,rfl,?_⟩;show wM ((jJ (fW (kS st x st.at_) l).aV 0 o C).1 _) _ _;rw[a1 _ (by omega)];exact p1
   | succ r'=>
    rw[MD]at I;rw[kW,MD]at D;obtain⟨root,h1,h2⟩:=b3 r' z y I D;exact⟨root,by rw[MD];exact h1,h2⟩
structure KT(l:List gX)(aG:Nat->Int)(fi la:List Int):Prop where
 s:∀p,jA (aG p)
 f:∀p q,nP (aG p) q=true↔∃y∈kW 0 l,y.1.fol y.2 p q
 fl:fi.length=l.length
 ll:la.length=l.length
 fs:∀x∈fi,jA x
 ls:∀x∈la,jA x
 ff:∀r y,(kW 0 l)[r]?=some y->∀p,nP (fi.getD r 0) p=true↔y.1.fst y.2 p
 lf:∀r y,(kW 0 l)[r]?=some y->∀p,nP (la.getD r 0) p=true↔y.1.lst y.2 p
theorem Ij(l:List gX)(h:mV l<=10):KT l (rY (fW jX l).aV) (zD (fW jX l).aV (fW jX l).aX) (uZ (fW jX l).aV (fW jX l).aX)/\
  (fW jX l).aX.map (λ x=>(x.1,x.2.1))=l.map (λ x=>(x.1,x.2.1)):=by
 have e0:jX.aW.length=0:=rfl;have en:jX.aV=[]:=rfl;obtain⟨_,_,a3,a4,R,b1,b2,b3⟩:=Bi (λ _=>qP) (λ _=>0) l jX (by omega) (λ p=>sZ);rw[e0]at a4 b3;have U:(fW jX l).aX=R:=by rw[b1];rfl
 have C:∀(r:Nat)(y:Rx×Nat),(kW 0 l)[r]?=some y->∃(x:gX)(o:Nat),l[r]?=some x/\R[r]?=some (x.1,x.2.1,((o:Nat):Int))/\wM ((jJ (fW jX l).aV 0 (λ _=>qP) (λ _=>0)).1 o) y.1 y.2:=λ r y I=>by
  have V:r<l.length:=by rw[<-tH l 0];exact(LN.1 I).1
  obtain⟨o,Y,F⟩:=b3 r l[r] y (LC V) I;exact⟨l[r],o,LC V,Y,F⟩
 have Q:∀x∈R,∃y:Rx×Nat,wM ((jJ (fW jX l).aV 0 (λ _=>qP) (λ _=>0)).1 x.2.2.toNat) y.1 y.2:=λ x J=>by
  obtain⟨r,V,he⟩:=NJ J;have Z:r<(kW 0 l).length:=by rw[tH,<-b2];exact V
  obtain⟨z,o,_,F,X⟩:=C r _ (LC Z);rw[LC V,he]at F;injection F with F;exact⟨_,by rw[F];exact X⟩
 refine⟨⟨a3,λ p q=>?_,?_,?_,λ x J=>?_,λ x J=>?_,λ r y I p=>?_,λ r y I p=>?_⟩,?_⟩
 ·show nP ((jJ (fW jX l).aV 0 (λ _=>qP) (λ _=>0)).2 p) q=true↔_;rw[a4];constructor
  ·rintro(D|D)
   ·rw[show(jJ jX.aV 0 (λ _=>qP) (λ _=>(0:Int))).2 p=0 from rfl,uE]at D;cases D
   ·exact D
  ·intro D;exact .inr D
 ·unfold zD;rw[NB,U,b2]
 ·unfold uZ;rw[NB,U,b2]
 ·unfold zD at J;rw[LY]at J;obtain⟨z,D,rfl⟩:=J;rw[U]at D;obtain⟨y,I⟩:=Q z D;exact I.s1
 ·unfold uZ at J;rw[LY]at J;obtain⟨z,D,rfl⟩:=J;rw[U]at D;obtain⟨y,I⟩:=Q z D;exact I.s2
 ·obtain⟨x,o,Y,F,X⟩:=C r y I;unfold zD;rw[U,LF,ME,F];simp only[NO,OH,NR];exact X.f p
 ·obtain⟨x,o,Y,F,X⟩:=C r y I;unfold uZ;rw[U,LF,ME,F];simp only[NO,OH,NR];exact X.l p
 ·rw[U];refine OP (λ r=>?_);rw[ME,ME];by_cases V:r<l.length
  ·obtain⟨x,o,Y,F,X⟩:=C r _ (LC (by rw[tH];exact V));rw[Y,F];rfl
  ·rw[MU (by omega),MU (by omega)]
   rfl
theorem Nf(f:Nat->Bool)(fr:Int)(c:Nat)(b:Int):G4 f fr c 4 b=if c<4/\f c=true then An b fr else b:=by
 have h:∀k,k<=4->G4 f fr c k b=if c<k/\f c=true then An b fr else b:=by
  intro k
  induction k with
  | zero=>intro _;rw[G4,aA (by omega)]
  | succ j ih=>
   intro C;rw[G4,ih (by omega)];by_cases e:j=c
   ·subst e;by_cases o:f j=true
    ·rw[aB ⟨o,rfl⟩,aA (by omega),aB ⟨by omega,o⟩]
    ·rw[aA (λ h=>o h.1),aA (by omega),aA (λ h=>o h.2)]
   ·rw[aA (λ h=>e h.2)];by_cases o:c<j/\f c=true
    ·rw[aB o,aB ⟨by omega,o.2⟩]
    ·rw[aA o,aA (λ h=>o ⟨by omega,h.2⟩)]
 exact h 4 lR
theorem Gl(fi:Nat->Int)(c:Nat):∀(aX:List ((Nat->Bool)×Int×Int)) (r:Nat) (b:Int),jA b->(∀i,i<aX.length->jA (fi (r+i)))->
  jA (rM fi c aX r b)/\∀q,nP (rM fi c aX r b) q=true↔(nP b q=true\/∃i x,aX[i]?=some x/\(c<4/\x.1 c=true)/\nP (fi (r+i)) q=true)
 | [],r,b,hb,_=>⟨hb,λ q=>⟨λ h=> .inl h,λ h=>h.elim id (λ⟨i,x,h,_⟩=>by simp at h)⟩⟩
 | x::l,r,b,hb,hf=>by
  have C:=hf 0 (by simp);rw[MS]at C;have I:jA (G4 x.1 (fi r) c 4 b):=by
   rw[Nf];split
   ·exact uO hb C
   ·exact hb
  obtain⟨J,Q⟩:=Gl fi c l (r+1) (G4 x.1 (fi r) c 4 b) I (λ i hi=>by have:=hf (i+1) (by simp;omega);rw[show r+1+i=r+(i+1) by omega];exact this);rw[rM];refine⟨J,λ q=>?_⟩;rw[Q,Nf];constructor
  ·rintro(h|⟨i,y,o,F,D⟩)
   ·split at h
    ·rename_i U;rw[vA hb C,OY]at h;rcases h with h|h
     ·exact .inl h
     ·exact .inr ⟨0,x,rfl,U,h⟩
    ·exact .inl h
   ·exact .inr ⟨i+1,y,by rw[MD];exact o,F,by rw[show r+(i+1)=r+1+i by omega];exact D⟩
  ·rintro(h|⟨i,y,o,F,D⟩)
   ·left;split
    ·rw[vA hb C,h];rfl
    ·exact h
   ·cases i with
    | zero=>
     rw[MO]at o;injection o with o;subst o;left;rw[aB F,vA hb C];rw[MS]at D;rw[D,Bool.or_true]
    | succ j=>
     rw[MD]at o;exact .inr ⟨j,y,o,F,by rw[show r+1+j=r+(j+1) by omega];exact D⟩
theorem Te(b:Nat):∀(l:List (Nat->Bool)) (k:Nat) (a:Int),jA a->k+l.length<=10->jA (Er b l k a)/\∀p,nP (Er b l k a) p=true↔(nP a p=true\/(k<=p/\p<k+l.length/\l.getD (p-k) gJ b=true))
 | [],k,a,ha,_=>⟨ha,λ p=>⟨λ h=> .inl h,λ h=>h.elim id (λ h=>by simp at h;omega)⟩⟩
 | f::l,k,a,ha,hk=>by
  simp only[MB]at hk;have I:jA (if f b=true then An a (sK k)else a):=by
   split
   ·exact uO ha (tR (by omega))
   ·exact ha
  obtain⟨D,F⟩:=Te b l (k+1) _ I (by omega);rw[Er];refine⟨D,λ p=>?_⟩;rw[F];simp only[MB];constructor
  ·rintro(h|⟨J,C,o⟩)
   ·split at h
    ·rename_i Q;rw[vA ha (tR (by omega)),OY,E5,aE]at h;rcases h with h|h
     ·exact .inl h
     ·subst h;exact .inr ⟨lR,by omega,by rw[MW];exact Q⟩
    ·exact .inl h
   ·refine .inr ⟨by omega,by omega,?_⟩;rw[show p-k=(p-(k+1))+1 by omega,OM];exact o
  ·rintro(h|⟨J,C,o⟩)
   ·left;split
    ·rw[vA ha (tR (by omega)),h];rfl
    ·exact h
   ·by_cases e:p=k
    ·subst e;rw[MW,List.getD_cons_zero]at o;left;rw[aB o,vA ha (tR (by omega)),E5];simp
    ·right;refine⟨by omega,by omega,?_⟩;rw[show p-k=(p-(k+1))+1 by omega,OM]at o;exact o
theorem DS{aW:List (Nat->Bool)}(h:aW.length<=10)(b:Nat):jA (G2 aW b)/\∀p,nP (G2 aW b) p=true↔Za aW p b=true:=by
 obtain⟨C,D⟩:=Te b aW 0 0 sZ (by omega);refine⟨C,λ p=>?_⟩;unfold G2;rw[D,uE];unfold Za;constructor
 ·rintro(h|⟨_,_,h⟩)
  ·cases h
  ·rw[PC]at h;exact h
 ·intro o;refine .inr ⟨zL,?_,by rw[PC];exact o⟩;rw[MH];apply LP;intro F;rw[LF,MU (by omega)]at o
  cases o
section
def nF(A:Nat->Nat->Bool)(F:Nat->Nat->Prop):(Nat->Prop)->List Nat->Nat->Prop
 | P,[]=>P
 | P,b::u=>nF A F (λ q=>∃p,P p/\F p q/\A q b=true) u
theorem xC{A:Nat->Nat->Bool}{F C:Nat->Nat->Prop}(o:∀p q,F p q->C p q):∀(u:List Nat)(P P':Nat->Prop),(∀p,P p->P' p)->∀q,nF A F P u q->nF A C P' u q
 | [],_,_,h,q,hq=>h q hq
 | _::u,_,_,h,q,hq=>xC o u _ _ (λ q ⟨p,h1,h2,h3⟩=>⟨p,h p h1,o p q h2,h3⟩) q hq
theorem xP{A:Nat->Nat->Bool}{F:Nat->Nat->Prop}:∀(u:List Nat)(P:Nat->Prop),(∀p,¬P p)->∀q,¬nF A F P u q
 | [],_,h,q,hq=>h q hq
 | _::u,_,h,q,hq=>xP u _ (λ _ ⟨p,h1,_⟩=>h p h1) q hq
theorem Eg{A:Nat->Nat->Bool}{F:Nat->Nat->Prop}(u:List Nat){P P':Nat->Prop}(h:∀p,P p↔P' p)(q:Nat):nF A F P u q↔nF A F P' u q:=
 ⟨xC (λ _ _ h=>h) u P P' (λ p=>(h p).1) q,xC (λ _ _ h=>h) u P' P (λ p=>(h p).2) q⟩
theorem D2{A:Nat->Nat->Bool}(r:Rx)(k:Nat)(o:r.says A k):∀(u:List Nat)(P:Nat->Prop)(v:List Nat),lF 256 u->((∃p,P p/\r.rest k p (u++v))↔∃q,nF A (r.fol k) P u q/\r.rest k q v)
 | [],_,_,_=>Iff.rfl
 | b::u,P,v,hu=>by
  have X:=hu b LG;have F:=D2 r k o u (λ q=>∃p,P p/\r.fol k p q/\A q b=true) v (λ c V=>hu c (LI _ V));rw[nF,<-F];constructor
  ·rintro⟨p,C,D⟩;obtain⟨q,a1,Y,J,Q⟩:=(r.goes k o p b (u++v)).1 D;exact⟨q,⟨p,C,a1,J⟩,Q⟩
  ·rintro⟨q,⟨p,C,D,I⟩,U⟩;exact⟨p,C,(r.goes k o p b (u++v)).2 ⟨q,D,X,I,U⟩⟩
def Th(l:List gX)(p q:Nat):Prop:=∃y∈kW 0 l,y.1.fol y.2 p q
theorem Gk{l:List gX}{y z:Rx×Nat}{r' q:Nat}(C:(kW 0 l)[r]?=some y)(o:(kW 0 l)[r']?=some z)(D:y.2<=q/\q<y.2+y.1.np)(F:z.2<=q/\q<z.2+z.1.np):r=r':=by
 rcases OQ r r' with h|h|h
 ·have:=C4 l 0 r r' y z C o h;omega
 ·exact h
 ·have:=C4 l 0 r' r z y o C h;omega
theorem Af:∀(l:List gX)(k p:Nat),k<=p->p<k+mV l->∃(r:Nat)(y:Rx×Nat),(kW k l)[r]?=some y/\y.2<=p/\p<y.2+y.1.np
 | [],k,p,h1,o=>by have o:p<k+0:=o;omega
 | x::l,k,p,h1,o=>by
  have o:p<k+(x.2.2.np+mV l):=o;by_cases e:p<k+x.2.2.np
  ·exact⟨0,(x.2.2,k),rfl,h1,e⟩
  ·obtain⟨r,y,a,b⟩:=Af l (k+x.2.2.np) p (by omega) (by omega);exact⟨r+1,y,by rw[kW,MD];exact a,b⟩
theorem Dv{A:Nat->Nat->Bool}{l:List gX}{y:Rx×Nat}(D:(kW 0 l)[r]?=some y):∀(u:List Nat)(P P':Nat->Prop),(∀q,y.2<=q->q<y.2+y.1.np->(P q↔P' q))->(∀q,P' q->y.2<=q/\q<y.2+y.1.np)->
  ∀q,y.2<=q->q<y.2+y.1.np->(nF A (Th l) P u q↔nF A (y.1.fol y.2) P' u q)
 | [],P,P',h,_,q,h1,h2=>h q h1 h2
 | b::u,P,P',h,hin,q,h1,h2=>by
  refine Dv D u _ _ (λ q X Y=>?_) (λ q ⟨p,_,h5,_⟩=>(y.1.fol_in y.2 p q h5).2) q h1 h2;constructor
  ·rintro⟨p,a1,⟨z,U,C⟩,J⟩;obtain⟨r',I,V⟩:=NJ U;have o:(kW 0 l)[r']?=some z:=by rw[LC I,V]
   have F:=z.1.fol_in z.2 p q C;have:=Gk D o ⟨X,Y⟩ F.2;subst this;rw[D]at o;injection o with o;subst o;exact⟨p,(h p F.1.1 F.1.2).1 a1,C,J⟩
  ·rintro⟨p,a1,C,J⟩;have Q:=hin p a1;exact⟨p,(h p Q.1 Q.2).2 a1,⟨y,LZ D,C⟩,J⟩
theorem Kx{A:Nat->Nat->Bool}{r:Rx}:∀(u:List Nat)(P:Nat->Prop),(∀q,P q->k<=q/\q<k+r.np)->∀q,nF A (r.fol k) P u q->k<=q/\q<k+r.np
 | [],_,h,q,hq=>h q hq
 | _::u,_,_,q,hq=>Kx u _ (λ q ⟨p,_,h5,_⟩=>(r.fol_in k p q h5).2) q hq
structure KI(aW:List (Nat->Bool))(G:List Int)(of_:Nat->Nat):Prop where
 lt:∀b,b<256->of_ b<G.length
 al:∀b,b<256->G.getD (of_ b) 0=G2 aW b
 lo:∃lo:Nat->Nat,(∀g,g<G.length->lo g<256/\of_ (lo g)=g)/\(∀g g',g<g'->g'<G.length->lo g<lo g')/\∀b,b<256->lo (of_ b)<=b
structure GI(al:Nat->Int)(b:Nat)(bG:List Nat)(P:List Int)(lo:Nat->Nat):Prop where
 len:bG.length=b
 lt:∀i,i<b->bG.getD i 0<P.length/\P.getD (bG.getD i 0) 0=al i
 lo1:∀g,g<P.length->lo g<b/\bG.getD (lo g) 0=g
 lo2:∀g g',g<g'->g'<P.length->lo g<lo g'
 lo3:∀i,i<b->lo (bG.getD i 0)<=i
theorem Jc(al:Nat->Int):∀(d b:Nat)(bG:List Nat)(P:List Int)(lo:Nat->Nat),GI al b bG P lo->∃Q,GI al (b+d) (U9 al d b bG P).1 (U9 al d b bG P).2 Q
 | 0,b,bG,P,lo,h=>⟨lo,h⟩
 | d+1,b,bG,P,lo,h=>by
  rw[U9,show b+(d+1)=(b+1)+d by omega];by_cases C:jT P (al b)=P.length
  ·rw[aB C];refine Jc al d (b+1) _ _ (λ g=>if g=P.length then b else lo g) ⟨by simp[h.len],λ i hi=>?_,λ g hg=>?_,λ g V D U=>?_,λ i hi=>?_⟩
   ·by_cases e:i=b
    ·subst e;rw[C,<-h.len,rZ,LD,rZ,h.len];exact⟨by simp,rfl⟩
    ·have o:i<b:=by omega
     rw[sL (by rw[h.len];exact o),sL (h.lt i o).1];exact⟨by have:=(h.lt i o).1;rw[LD];simp only[LS];omega,(h.lt i o).2⟩
   ·simp at hg;by_cases e:g=P.length
    ·subst e;simp only[aB];rw[C,<-h.len,rZ];exact⟨by omega,rfl⟩
    ·simp only[aA e];have:=h.lo1 g (by omega);rw[sL (by rw[h.len];exact this.1)];exact⟨by omega,this.2⟩
   ·simp at U;by_cases e:V=P.length
    ·subst e;simp only[aB,aA (show¬g=P.length by omega)];exact(h.lo1 g D).1
    ·simp only[aA e,aA (show¬g=P.length by omega)];exact h.lo2 g V D (by omega)
   ·by_cases e:i=b
    ·subst e;rw[C];have:(bG++[P.length]).getD i 0=P.length:=by rw[<-h.len,rZ]
     rw[this,aB rfl];exact lR
    ·have o:i<b:=by omega
     rw[sL (by rw[h.len];exact o)];have:=(h.lt i o).1;rw[aA (by omega)];exact h.lo3 i o
  ·rw[aA C];have F:jT P (al b)<P.length:=by have:=L6 P (al b);omega
   have I:al b∈P:=by
    apply LP;intro X;exact C (Bm X)
   have J:P.getD (jT P (al b)) 0=al b:=by rw[LF,V2 I];rfl
   refine Jc al d (b+1) _ _ lo ⟨by simp[h.len],λ i hi=>?_,λ g hg=>?_,h.lo2,λ i hi=>?_⟩
   ·by_cases e:i=b
    ·subst e;have:(bG++[jT P (al i)]).getD i 0=jT P (al i):=by
      have:= @rZ Nat bG (jT P (al i)) 0;rw[h.len]at this;exact this
     rw[this];exact⟨F,J⟩
    ·have o:i<b:=by omega
     rw[sL (by rw[h.len];exact o)];exact h.lt i o
   ·have:=h.lo1 g hg;rw[sL (by rw[h.len];exact this.1)];exact⟨by omega,this.2⟩
   ·by_cases e:i=b
    ·subst e;have:(bG++[jT P (al i)]).getD i 0=jT P (al i):=by
      have:= @rZ Nat bG (jT P (al i)) 0;rw[h.len]at this;exact this
     rw[this];exact NS (h.lo1 _ F).1
    ·have o:i<b:=by omega
     rw[sL (by rw[h.len];exact o)];exact h.lo3 i o
theorem f7(aW:List (Nat->Bool)):KI aW (qG aW).2 (λ b=>(qG aW).1.getD b 0):=by
 obtain⟨lo,h⟩:=Jc (G2 aW) 256 0 [] [] (λ _=>0) ⟨rfl,λ i hi=>by omega,λ g hg=>by simp at hg,λ g C _ hg=>by simp at hg,λ i hi=>by omega⟩;rw[MH]at h;exact⟨λ b o=>(h.lt b o).1,λ b o=>(h.lt b o).2,lo,h.lo1,h.lo2,h.lo3⟩
def I0(l:List gX)(c:Nat)(w:List Nat)(v:Nat):Prop:=
 (v=0/\∀(r:Nat)(x:gX),l[r]?=some x->¬(x.1 c=true/\W x.2.2 w))\/
 ∃(r:Nat)(x:gX),v=r+1/\l[r]?=some x/\(x.1 c=true/\W x.2.2 w)/\∀(r':Nat)(o:gX),r'<r->l[r']?=some o->¬(o.1 c=true/\W o.2.2 w)
theorem Y1{l:List gX}{w:List Nat}{v D:Nat}(h:I0 l c w v)(k:I0 l c w D):v=D:=by
 rcases h with⟨Q,o⟩|⟨r,x,Q,o,F,V⟩<;>rcases k with⟨U,C⟩|⟨s,y,U,C,I,J⟩
 ·omega
 ·exact absurd I (o s y C)
 ·exact absurd F (C r x o)
 ·rcases OQ r s with e|e|e
  ·exact absurd F (J r x e o)
  ·omega
  ·exact absurd I (V s y e C)
structure nM(l:List gX)(c:Nat)(A:Nat->Nat->Bool)(aG:Nat->Int)(aP:Int)(la G:List Int)(of_:Nat->Nat):Prop where
 np:mV l<=10
 ns:∀p,jA (aG p)
 nf:∀p q,nP (aG p) q=true↔Th l p q
 bs:jA aP
 bf:∀q,nP aP q=true↔∃(r:Nat)(x:gX)(y:Rx×Nat),l[r]?=some x/\(kW 0 l)[r]?=some y/\x.1 c=true/\y.1.fst y.2 q
 ll:la.length=l.length
 ls:∀x∈la,jA x
 lf:∀(r:Nat)(y:Rx×Nat),(kW 0 l)[r]?=some y->∀p,nP (la.getD r 0) p=true↔y.1.lst y.2 p
 gs:∀g,g<G.length->jA (G.getD g 0)
 gl:∀b,b<256->of_ b<G.length
 gf:∀b,b<256->∀p,nP (G.getD (of_ b) 0) p=true↔A p b=true
 gn:∀g,g<G.length->∃b,b<256/\of_ b=g
 sy:∀y∈kW 0 l,y.1.says A y.2
 al:∀p,p<mV l->∃b,b<256/\A p b=true
 far:∀p b,b<256->A p b=true->p<mV l
section
variable {l:List gX}{c:Nat}{A:Nat->Nat->Bool}{aG:Nat->Int}{aP:Int}{la G:List Int}{of_:Nat->Nat}
theorem nM.bI(_h:nM l c A aG aP la G of_){s:Nat}(C:s<wW aG aP G):jA (rQ aG aP G s):=by
 have o:=(tU aG aP G).1;have:rQ aG aP G s∈(jF aG aP G).1:=by
  unfold rQ;rw[LF,LC C];exact ND C
 exact o.rg _ this
theorem nM.step(h:nM l c A aG aP la G of_){s b:Nat}(hs:s<wW aG aP G)(X:b<256)(P:Nat->Prop)(Z:∀q,nP (if s=0 then aP else Ee aG (rQ aG aP G s)) q=true↔P q):
  (wY aG aP G s (of_ b)= -1/\∀q,¬(P q/\A q b=true))\/
  ∃F:Nat,wY aG aP G s (of_ b)=(F:Int)/\0<F/\F<wW aG aP G/\(∀q,nP (rQ aG aP G F) q=true↔(P q/\A q b=true))/\0<rQ aG aP G F:=by
 have hg:=h.gl b X;have C:=FS aG aP G hs hg;have o:jA (if s=0 then aP else Ee aG (rQ aG aP G s)):=by
  split
  ·exact h.bs
  ·exact BN (λ p _=>h.ns p) _
 have U:=Gu o (h.gs _ hg);have I:∀q,nP (nS (if s=0 then aP else Ee aG (rQ aG aP G s)) (G.getD (of_ b) 0)) q=true↔(P q/\A q b=true):=λ q=>by
  rw[Iy o (h.gs _ hg),NW,Z,h.gf b X]
 rcases C with⟨Q,V⟩|⟨q,Q,V,J,h4,h5⟩
 ·left;refine⟨Q,λ q Y=>?_⟩;have:=(Ji U).2 ⟨q,(I q).2 Y⟩;have:=U.2;omega
 ·right;have D:rQ aG aP G q=nS (if s=0 then aP else Ee aG (rQ aG aP G s)) (G.getD (of_ b) 0):=J;refine⟨q,Q,?_,V,λ p=>?_,by rw[D];exact h4⟩
  ·rcases Nat.eq_zero_or_pos q with e|e
   ·exfalso;subst e;have h0:=(tU aG aP G).1.zero;rw[LF,h0]at J;have J:(0:Int)=_:=J;omega
   ·exact e
  ·rw[D];exact I p
theorem nM.run(h:nM l c A aG aP la G of_):∀(u:List Nat)(s:Nat),0<s->s<wW aG aP G->lF 256 u->
  (sH (wY aG aP G) s (u.map of_)=none/\∀q,¬nF A (Th l) (λ p=>nP (rQ aG aP G s) p=true) u q)\/
  ∃D,sH (wY aG aP G) s (u.map of_)=some D/\0<D/\D<wW aG aP G/\∀q,nP (rQ aG aP G D) q=true↔nF A (Th l) (λ p=>nP (rQ aG aP G s) p=true) u q
 | [],s,h0,hs,_=> .inr ⟨s,rfl,h0,hs,λ q=>Iff.rfl⟩
 | b::u,s,h0,hs,hu=>by
  have hb:=hu b LG;have V:lF 256 u:=λ d hd=>hu d (LI _ hd)
  have F:=h.step hs hb (λ q=>∃p,nP (rQ aG aP G s) p=true/\Th l p q) (λ q=>by
   rw[aA (by omega),IB (λ p _=>h.ns p) (h.bI hs)];constructor
   ·rintro⟨p,_,o,I⟩;exact⟨p,o,(h.nf p q).1 I⟩
   ·rintro⟨p,o,I⟩;refine⟨p,?_,o,(h.nf p q).2 I⟩;apply LP;intro hc;rw[Tq (h.bI hs) (by omega)]at o
    cases o)
  have C:∀q,(∃p,nP (rQ aG aP G s) p=true/\Th l p q/\A q b=true)↔((∃p,nP (rQ aG aP G s) p=true/\Th l p q)/\A q b=true):=λ q=>
   ⟨λ⟨p,a,b,c⟩=>⟨⟨p,a,b⟩,c⟩,λ⟨⟨p,a,b⟩,c⟩=>⟨p,a,b,c⟩⟩
  rw[NY,sH];rcases F with⟨J,o⟩|⟨D,J,o,I,h4,_⟩
  ·left;rw[aB J];exact⟨rfl,xP u _ (λ q Q=>o q ((C q).1 Q))⟩
  ·rw[aA (by rw[J];omega),J,NR];have hi:∀q,nF A (Th l) (λ p=>nP (rQ aG aP G D) p=true) u q↔nF A (Th l) (λ p=>nP (rQ aG aP G s) p=true) (b::u) q:=λ q=>by
    rw[nF];exact Eg u (λ p=>(h4 p).trans (C p).symm) q
   rcases nM.run h u D o I V with⟨U,X⟩|⟨Y,U,X,k3,Z⟩
   ·exact .inl ⟨U,λ q Q=>X q ((hi q).2 Q)⟩
   ·exact .inr ⟨Y,U,X,k3,λ q=>(Z q).trans (hi q)⟩
def G1(aG:Nat->Int)(aP:Int)(la G:List Int):Nat->Nat:=λ s=>yK la (rQ aG aP G s)
theorem nM.begun(h:nM l c A aG aP la G of_){r:Nat}{x:gX}{y:Rx×Nat}(V:l[r]?=some x)(J:(kW 0 l)[r]?=some y)(b:Nat)(u:List Nat)(q:Nat)(D:y.2<=q)(F:q<y.2+y.1.np):
  nF A (Th l) (λ p=>nP aP p=true/\A p b=true) u q↔(x.1 c=true/\nF A (y.1.fol y.2) (λ p=>y.1.fst y.2 p/\A p b=true) u q):=by
 have Q:∀q,y.2<=q->q<y.2+y.1.np->(nP aP q=true↔(x.1 c=true/\y.1.fst y.2 q)):=λ q D F=>by
  rw[h.bf];constructor
  ·rintro⟨r',Z,X,a1,C,U,I⟩;have:=Gk J C ⟨D,F⟩ (X.1.fst_in X.2 q I);subst this;rw[J]at C;rw[V]at a1;injection C with C;injection a1 with a1;subst a1 C;exact⟨U,I⟩
  ·rintro⟨U,I⟩;exact⟨r,x,y,V,J,U,I⟩
 rw[Dv J u (λ p=>nP aP p=true/\A p b=true) (λ p=>x.1 c=true/\(y.1.fst y.2 p/\A p b=true)) (λ q D F=>by rw[Q q D F,and_assoc]) (λ q o=>y.1.fst_in y.2 q o.2.1) q D F];by_cases Y:x.1 c=true
 ·simp only[Y,true_and]
 ·simp only[Y,false_and,ON];constructor
  ·intro o;exact absurd o (xP u _ (λ p Q=>Q) q)
  ·intro o;exact o.elim
theorem nM.tok(h:nM l c A aG aP la G of_)(b:Nat)(u:List Nat)(hw:lF 256 (b::u)):I0 l c (b::u) (jM (G1 aG aP la G) (wY aG aP G) 0 ((b::u).map of_)):=by
 have hb:=hw b LG;have hu:lF 256 u:=λ d hd=>hw d (LI _ hd)
 have hn:=(Bt aG aP G).pos;have F:∀(r:Nat)(x:gX)(y:Rx×Nat),l[r]?=some x->(kW 0 l)[r]?=some y->((x.1 c=true/\W x.2.2 (b::u))↔∃q,nF A (Th l) (λ p=>nP aP p=true/\A p b=true) u q/\y.1.lst y.2 q):=λ r x y C D=>by
  have bK:y.1=x.2.2:=by
   have:∀(l:List gX)(k r:Nat)(x:gX)(y:Rx×Nat),l[r]?=some x->(kW k l)[r]?=some y->y.1=x.2.2:=by
    intro l
    induction l with
    | nil=>intro k r x y h _;simp at h
    | cons z l ih=>
     intro k r x y Q V
     cases r with
     | zero=>
      rw[MO]at Q;rw[kW,MO]at V;injection Q with Q;injection V with V;rw[<-Q,<-V]
     | succ j=>
      rw[MD]at Q;rw[kW,MD]at V;exact ih _ _ _ _ Q V
   exact this l 0 r x y C D
  have aR:=h.sy y (LZ D);have U:=D2 y.1 y.2 aR u (λ p=>y.1.fst y.2 p/\A p b=true) [] hu;rw[MA]at U;have hW:W x.2.2 (b::u)↔∃q,nF A (y.1.fol y.2) (λ p=>y.1.fst y.2 p/\A p b=true) u q/\y.1.rest y.2 q []:=by
   rw[<-U,<-bK,y.1.begins y.2 aR b u];constructor
   ·rintro⟨p,a1,_,Y,a4⟩;exact⟨p,⟨a1,Y⟩,a4⟩
   ·rintro⟨p,⟨a1,Y⟩,a4⟩;exact⟨p,a1,hb,Y,a4⟩
  rw[hW];constructor
  ·rintro⟨a1,q,X,Y⟩;have Z:=Kx u _ (λ q Z=>y.1.fst_in y.2 q Z.1) q X;exact⟨q,(h.begun C D b u q Z.1 Z.2).2 ⟨a1,X⟩,(y.1.ends y.2 q).1 Y⟩
  ·rintro⟨q,X,Y⟩;have Z:=y.1.lst_in y.2 q Y;obtain⟨k1,k2⟩:=(h.begun C D b u q Z.1 Z.2).1 X;exact⟨k1,q,k2,(y.1.ends y.2 q).2 Y⟩
 have o:∀(r:Nat)(x:gX),l[r]?=some x->∃y,(kW 0 l)[r]?=some y:=λ r x C=>by
  have:r<(kW 0 l).length:=by rw[tH];exact(LN.1 C).1
  exact⟨_,LC this⟩
 have aL:=h.step hn hb (λ q=>nP aP q=true) (λ q=>by rw[aB rfl]);rw[NY];rcases aL with⟨Q,V⟩|⟨s',Q,V,h3,h4,_⟩
 ·rw[lS Q];refine .inl ⟨rfl,λ r x C I=>?_⟩;obtain⟨y,D⟩:=o r x C;obtain⟨q,a1,_⟩:=(F r x y C D).1 I;exact xP u _ (λ p hp=>V p hp) q a1
 ·rw[iT (by rw[Q];omega),Q,NR];have hi:∀q,nF A (Th l) (λ p=>nP (rQ aG aP G s') p=true) u q↔nF A (Th l) (λ p=>nP aP p=true/\A p b=true) u q:=λ q=>Eg u h4 q
  rcases h.run u s' V h3 hu with⟨k1,k2⟩|⟨s2,k1,k2,k3,k4⟩
  ·have:jM (G1 aG aP la G) (wY aG aP G) s' (u.map of_)=0:=by unfold jM;rw[k1]
   rw[this];refine .inl ⟨rfl,λ r x C I=>?_⟩;obtain⟨y,D⟩:=o r x C;obtain⟨q,a1,_⟩:=(F r x y C D).1 I;exact k2 q ((hi q).2 a1)
  ·have aT:jM (G1 aG aP la G) (wY aG aP G) s' (u.map of_)=yK la (rQ aG aP G s2):=by unfold jM;rw[k1];rfl
   rw[aT];have aO:=h.bI k3;have J:∀(r:Nat)(x:gX)(y:Rx×Nat),l[r]?=some x->(kW 0 l)[r]?=some y->((x.1 c=true/\W x.2.2 (b::u))↔∃p,nP (rQ aG aP G s2) p=true/\nP (la.getD r 0) p=true):=λ r x y C D=>by
    rw[F r x y C D];constructor
    ·rintro⟨q,a1,X⟩;exact⟨q,(k4 q).2 ((hi q).2 a1),(h.lf r y D q).2 X⟩
    ·rintro⟨q,a1,X⟩;exact⟨q,(hi q).1 ((k4 q).1 a1),(h.lf r y D q).1 X⟩
   rcases V3 aO la 0 h.ls with⟨t1,t2⟩|⟨r,t1,t2,t3,t4⟩
   ·refine .inl ⟨t1,λ r x C I=>?_⟩;obtain⟨y,D⟩:=o r x C;have hr:r<la.length:=by rw[h.ll];exact(LN.1 C).1
    refine t2 (la.getD r 0) ?_ ((J r x y C D).1 I);rw[LF,LC hr];exact ND hr
   ·have hr:r<l.length:=by rw[<-h.ll];exact t2
    obtain⟨y,D⟩:=o r _ (LC hr);refine .inr ⟨r,l[r],by show L5 la _ 0=_;omega,LC hr,(J r _ y (LC hr) D).2 t3,λ r' x' bC aW I=>?_⟩;obtain⟨y',bM⟩:=o r' x' aW;exact t4 r' bC ((J r' x' y' aW bM).1 I)
theorem nM.lively(h:nM l c A aG aP la G of_):Ck (wW aG aP G) G.length (G1 aG aP la G) (wY aG aP G):=by
 intro s g hs hg aO;obtain⟨b,hb,rfl⟩:=h.gn g hg;have J:=h.step hs hb (λ q=>nP (if s=0 then aP else Ee aG (rQ aG aP G s)) q=true) (λ q=>Iff.rfl);rcases J with⟨h1,_⟩|⟨s',h1,h2,h3,h4,X⟩
 ·exact absurd h1 aO
 ·rw[h1,NR];have Q:=h.bI h3;obtain⟨q,hq⟩:=(Ji Q).1 X;have aL:=((h4 q).1 hq).2;have aW:=h.far q b hb aL;obtain⟨r,y,Y,y1,y2⟩:=Af l 0 q zL (by omega);have F:=h.sy y (LZ Y);have aT:=Bz l 0 y (LZ Y);obtain⟨v,hv⟩:=y.1.alive y.2 F (λ p p1 p2=>h.al p (by omega)) q y1 y2;have o:=y.1.rest_lets y.2 F v q hv;have D:=(D2 y.1 y.2 F v (λ p=>p=q) [] o).1 ⟨q,rfl,by rw[MA];exact hv⟩;obtain⟨C,a1,Z⟩:=D;have Z:=(y.1.ends y.2 C).1 Z;have V:nF A (Th l) (λ p=>nP (rQ aG aP G s') p=true) v C:=xC (λ p q aR=>⟨y,LZ Y,aR⟩) v _ _ (λ p hp=>by rw[hp];exact hq) C a1;refine⟨v.map of_,λ d hd=>?_,?_⟩
  ·rw[LY]at hd;obtain⟨e,he,rfl⟩:=hd;exact h.gl e (o e he)
  ·rcases h.run v s' h2 h3 o with⟨_,k2⟩|⟨s2,k1,k2,k3,k4⟩
   ·exact absurd V (k2 C)
   ·have U:jM (G1 aG aP la G) (wY aG aP G) s' (v.map of_)=yK la (rQ aG aP G s2):=by unfold jM;rw[k1];rfl
    rw[U];have I:∃p,nP (rQ aG aP G s2) p=true/\nP (la.getD r 0) p=true:=⟨C,(k4 C).2 V,(h.lf r y Y C).2 Z⟩
    have hr:r<la.length:=by rw[h.ll,<-tH l 0];exact(LN.1 Y).1
    rcases V3 (h.bI k3) la 0 h.ls with⟨_,t2⟩|⟨r',t1,_⟩
    ·exact absurd I (t2 (la.getD r 0) (by rw[LF,LC hr];exact ND hr))
    ·show L5 la _ 0≠0;omega
theorem nM.zero(h:nM l c A aG aP la G of_):G1 aG aP la G 0=0:=by
 have C:=(tU aG aP G).1.zero;have e:rQ aG aP G 0=0:=by unfold rQ;rw[LF,C];rfl
 unfold G1;rw[e];rcases V3 sZ la 0 h.ls with⟨t1,_⟩|⟨r,_,_,⟨p,o,_⟩,_⟩
 ·exact t1
 ·rw[uE]at o;cases o
end
end
open Go.Proofs.YtgjgjgihceijnaaGreat (rY zD uZ pO)
theorem Cs{tr o:Nat->Nat->Int}(h:oT n L tr)(C:∀p b,p<n->b<L->tr p b=o p b):∀(w:List Nat)(p:Nat),p<n->lF L w->sH tr p w=sH o p w
 | [],_,_,_=>rfl
 | b::w,p,hp,hl=>by
  have D:=hl b LG;rw[sH,sH,<-C p b hp D];split
  ·rfl
  ·rename_i I;have:=h.rng p b hp D;exact Cs h C w _ (by omega) (λ c F=>hl c (LI _ F))
theorem yX{mk mk':Nat->Nat}{tr o:Nat->Nat->Int}(h:oT n L tr)(F:∀p,p<n->mk p=mk' p)(I:∀p b,p<n->b<L->tr p b=o p b)(w:List Nat)(p:Nat)(C:p<n)(D:lF L w):jM mk tr p w=jM mk' o p w:=by
 unfold jM;rw[<-Cs h I w p C D]
 cases e:sH tr p w with
 | none=>rfl
 | some q=>exact F q (vM h w p q C D e)
theorem uF.congr{mk mk':Nat->Nat}{tr U:Nat->Nat->Int}(h:uF n L mk tr)(hm:∀p,p<n->mk p=mk' p)(Q:∀p b,p<n->b<L->tr p b=U p b):uF n L mk' U:=by
 have Y:=λ w p o hl=>yX (mk:=mk) (mk':=mk') h.au hm Q w p o hl
 refine⟨⟨h.au.pos,λ p b o D=>by rw[<-Q p b o D];exact h.au.rng p b o D⟩,⟨λ p b q o D I V=>?_,λ q I Z=>?_⟩,λ p b o D C=>?_,λ p q o I C=>?_⟩
 ·rw[<-Q p b o D]at V;obtain⟨p',b',F,X,h3⟩:=h.od.d1 p b q o D I V;exact⟨p',b',F,X,by rw[<-Q p' b' (by omega) F];exact h3⟩
 ·obtain⟨p,b,F,X,h3⟩:=h.od.d2 q I Z;exact⟨p,b,F,X,by rw[<-Q p b (by omega) X];exact h3⟩
 ·rw[<-Q p b o D]at C ⊢;obtain⟨z,J,F⟩:=h.li p b o D C;have:=h.au.rng p b o D;exact⟨z,J,by rw[<-Y z _ (by omega) J];exact F⟩
 ·obtain⟨z,J,F⟩:=h.ap p q o I C;exact⟨z,J,by rw[<-Y z p o J,<-Y z q I J];exact F⟩
theorem sY.congr{tk o:Nat->Nat}{nx nx':Nat->Nat->Int}(h:oT n K nx)(D:∀p,p<n->tk p=o p)(C:∀p b,p<n->b<K->nx p b=nx' p b):∀(r s t:Nat),s<n->t<n->sY tk nx K r s t->sY o nx' K r s t
 | 0,_,_,_,_,_=>trivial
 | r+1,s,t,hs,ht,hE=>by
  refine⟨sY.congr h D C r s t hs ht hE.1,by rw[<-D s hs,<-D t ht];exact hE.2.1,λ g hg=>?_⟩;rw[<-C s g hs hg,<-C t g ht hg];obtain⟨F,J⟩:=hE.2.2 g hg;refine⟨F,λ e=>?_⟩;have U:=h.rng s g hs hg;have Q:=h.rng t g ht hg;have:nx t g≠ -1:=λ I=>e (F.2 I)
  exact sY.congr h D C r _ _ (by omega) (by omega) (J e)
def K4(n:Nat)(tk:Nat->Nat)(nx:Nat->Nat->Int)(K:Nat):Option (List Nat×List Nat):=tQ n tk nx K 102 (List.replicate n 0) 0
theorem CA(n:Nat)(tk:Nat->Nat)(nx:Nat->Nat->Int)(K:Nat):yZ n tk nx K=(K4 n tk nx K).map λ x=>nW tk nx K x.1 x.2:=by unfold yZ K4;rfl
theorem Jr{tk:Nat->Nat}{nx:Nat->Nat->Int}(hn:0<n)(o:∀s g,s<n->g<K->nx s g= -1\/(0<=nx s g/\nx s g<(n:Int))):
  (∀x,K4 n tk nx K=some x->∃r',kG n tk nx K x.1 x.2 r')/\(K4 n tk nx K=none->GJ n tk nx K):=by
 unfold K4;exact Jp hn o
theorem Po(aG:Nat->Int)(aP:Int)(G la:List Int):Ir aG aP G la=yZ (wW aG aP G) (G1 aG aP la G) (wY aG aP G) G.length:=by
 unfold Ir Tz wW G1 wY rQ
 dsimp only
theorem B9(mk:Nat->Nat)(tr:Nat->Nat->Int)(of_:Nat->Nat):∀(w:List Nat)(p:Nat),jM mk (λ p b=>tr p (of_ b)) p w=jM mk tr p (w.map of_)
 | [],_=>rfl
 | b::w,p=>by
  rw[NY];by_cases e:tr p (of_ b)= -1
  ·rw[lS e,lS (tr:=λ p b=>tr p (of_ b)) e]
  ·rw[iT e,iT (tr:=λ p b=>tr p (of_ b)) e];exact B9 mk tr of_ w _
theorem uF.bytes{mk:Nat->Nat}{tr:Nat->Nat->Int}(h:uF n K mk tr){of_:Nat->Nat}(Z:∀b,b<256->of_ b<K){lo:Nat->Nat}(U:∀g,g<K->lo g<256/\of_ (lo g)=g)(h3:∀g o,g<o->o<K->lo g<lo o)(h4:∀b,b<256->lo (of_ b)<=b):
  uF n 256 mk (λ p b=>tr p (of_ b)):=by
 have X:∀z,lF K z->∃w,lF 256 w/\w.map of_=z:=λ z X=>by
  refine⟨z.map lo,λ b D=>?_,?_⟩
  ·rw[LY]at D;obtain⟨g,hg,rfl⟩:=D;exact(U g (X g hg)).1
  ·rw[List.map_map];have:∀g∈z,(of_ ∘ lo) g=g:=λ g hg=>(U g (X g hg)).2
   rw[List.map_congr_left this,PE]
 have aO:∀g o,g<=o->o<K->lo g<=lo o:=λ g o Y hg=>by
  by_cases e:g=o
  ·rw[e];exact lR
  ·exact NS (h3 g o (by omega) hg)
 refine⟨⟨h.au.pos,λ p b I D=>h.au.rng p (of_ b) I (Z b D)⟩,⟨λ p b q I D V Y=>?_,λ q V aL=>?_⟩,λ p b I D Q=>?_,λ p q I V Q=>?_⟩
 ·obtain⟨p',o,a1,F,a3⟩:=h.od.d1 p (of_ b) q I (Z b D) V Y;refine⟨p',lo o,(U o a1).1,?_,by simp only[(U o a1).2];exact a3⟩;rcases F with F|⟨F,a4⟩
  ·exact .inl F
  ·exact .inr ⟨F,NT (aO o (of_ b) a4 (Z b D)) (h4 b D)⟩
 ·obtain⟨p,g,a1,F,a3⟩:=h.od.d2 q V aL;exact⟨p,lo g,a1,(U g F).1,by simp only[(U g F).2];exact a3⟩
 ·obtain⟨z,J,C⟩:=h.li p (of_ b) I (Z b D) Q;obtain⟨w,hw,e⟩:=X z J;exact⟨w,hw,by rw[B9,e];exact C⟩
 ·obtain⟨z,J,C⟩:=h.ap p q I V Q;obtain⟨w,hw,e⟩:=X z J;exact⟨w,hw,by rw[B9 mk tr of_ w p,B9 mk tr of_ w q,e];exact C⟩
def Bh(l:List gX)(b:Nat):Nat:=(qG (qB l)).1.getD b 0
def lJ(l:List gX):List Int:=(qG (qB l)).2
def pV(l:List gX)(c:Nat):Int:=rM (λ r=>(zD (fW jX l).aV (fW jX l).aX).getD r 0) c (fW jX l).aX 0 0
theorem Da:∀(l:List gX),(∀x∈l,tP x)->∀f∈qB l,Mr f
 | [],_,f,hf=>absurd hf LK
 | x::l,h,f,hf=>by
  rcases LM.1 hf with o|o
  ·exact(h x LG).g f o
  ·exact Da l (λ y C=>h y (LI _ C)) f o
theorem F3:∀(l:List gX),(qB l).length=mV l
 | []=>rfl
 | x::l=>by show(x.2.2.fns++qB l).length=x.2.2.np+mV l;rw[LD,Rx.fns_len,F3 l]
theorem Ky(l:List gX)(hl:∀x∈l,tP x)(hn:mV l<=10)(c:Nat)(hc:c<4):
  nM l c (Za (qB l)) (rY (fW jX l).aV) (pV l c) (uZ (fW jX l).aV (fW jX l).aX) (lJ l) (Bh l):=by
 obtain⟨o,Y⟩:=Ij l hn;have C:=f7 (qB l);have aO:(qB l).length<=10:=by rw[F3];exact hn
 have I:(fW jX l).aX.length=l.length:=by rw[qK];show 0+l.length=l.length;omega
 have aL:=λ b=>DS aO b
 obtain⟨lo,Q,aW,aT⟩:=C.lo;have J:∀g,g<(lJ l).length->jA ((lJ l).getD g 0):=λ g hg=>by
  obtain⟨D,U⟩:=Q g hg;have:=C.al (lo g) D;rw[U]at this;show jA ((qG (qB l)).2.getD g 0);rw[this];exact(aL _).1
 have F:=Gl (λ r=>(zD (fW jX l).aV (fW jX l).aX).getD r 0) c (fW jX l).aX 0 0 sZ (λ i hi=>by
  rw[MH];have X:i<(zD (fW jX l).aV (fW jX l).aX).length:=by rw[o.fl,<-I];exact hi
  refine o.fs _ ?_;rw[LF,LC X];exact ND X)
 refine⟨hn,o.s,o.f,F.1,λ q=>?_,o.ll,o.ls,o.lf,J,C.lt,λ b hb p=>?_,λ g hg=>⟨lo g,(Q g hg).1,(Q g hg).2⟩,λ y hy=>?_,λ p hp=>?_,λ p b hb hA=>?_⟩
 ·show nP (rM _ c _ 0 0) q=true↔_;rw[F.2,uE];constructor
  ·rintro(h|⟨i,x,D,U,h3⟩)
   ·cases h
   ·have hi:i<l.length:=by rw[<-I];exact(LN.1 D).1
    have Z:i<(kW 0 l).length:=by rw[tH];exact hi
    refine⟨i,l[i],(kW 0 l)[i],LC hi,LC Z,?_,?_⟩
    ·have:=congrArg (λ m=>m[i]?) Y;simp only[ME,D,LC hi,NO]at this;injection this with this;injection this with this _;rw[<-this];exact U.2
    ·rw[MH]at h3;exact(o.ff i _ (LC Z) q).1 h3
  ·rintro⟨r,x,y,D,U,h3,h4⟩;have hr:r<(fW jX l).aX.length:=by rw[I];exact(LN.1 D).1
   refine .inr ⟨r,(fW jX l).aX[r],LC hr,⟨hc,?_⟩,?_⟩
   ·have:=congrArg (λ m=>m[r]?) Y;simp only[ME,D,LC hr,NO]at this;injection this with this;injection this with this _;rw[this];exact h3
   ·rw[MH];exact(o.ff r y U q).2 h4
 ·have:=C.al b hb;show nP ((qG (qB l)).2.getD ((qG (qB l)).1.getD b 0) 0) p=true↔_;rw[this];exact(aL b).2 p
 ·have:=Cr l [] y hy;rw[OK]at this;exact this
 ·have V:p<(qB l).length:=by rw[F3];exact hp
  obtain⟨b,D,U⟩:=Da l hl _ (ND V);refine⟨b,D,?_⟩;unfold Za;rw[LF,LC V];exact U
 ·rw[<-F3];apply LP;intro aR;unfold Za at hA;rw[LF,MU (by omega)]at hA
  cases hA
structure IN(l:List gX)(c:Nat)(tab:List (Nat×List Int)):Prop where
 cn:uF tab.length (lJ l).length (λ s=>(tab.getD s (0,[])).1) (λ s g=>(tab.getD s (0,[])).2.getD g 0)
 few:tab.length<=100
 apr:∃r,r<=tab.length/\∀p q,p<tab.length->q<tab.length->p≠q->¬sY (λ s=>(tab.getD s (0,[])).1) (λ s g=>(tab.getD s (0,[])).2.getD g 0) (lJ l).length r p q
 z:(tab.getD 0 (0,[])).1=0
 tok:∀b u,lF 256 (b::u)->I0 l c (b::u) (jM (λ s=>(tab.getD s (0,[])).1) (λ s g=>(tab.getD s (0,[])).2.getD g 0) 0 ((b::u).map (Bh l)))
 len:∀x∈tab,x.2.length=(lJ l).length
 rul:∀x∈tab,x.1<=l.length
def E8(l:List gX)(c:Nat):Prop:=GJ (wW (rY (fW jX l).aV) (pV l c) (lJ l)) (G1 (rY (fW jX l).aV) (pV l c) (uZ (fW jX l).aV (fW jX l).aX) (lJ l)) (wY (rY (fW jX l).aV) (pV l c) (lJ l)) (lJ l).length
theorem Gc(l:List gX)(hl:∀x∈l,tP x)(hn:mV l<=10)(c:Nat)(hc:c<4):
  (∀X,pO (fW jX l).aV (fW jX l).aX (lJ l) c=some X->IN l c X)/\(pO (fW jX l).aV (fW jX l).aX (lJ l) c=none->E8 l c):=by
 have F:=Ky l hl hn c hc;have D:=Bt (rY (fW jX l).aV) (pV l c) (lJ l);have aW:=T6 (rY (fW jX l).aV) (pV l c) (lJ l);have aR:=Jr (tk:=G1 (rY (fW jX l).aV) (pV l c) (uZ (fW jX l).aV (fW jX l).aX) (lJ l)) D.pos D.rng;have aO:pO (fW jX l).aV (fW jX l).aX (lJ l) c=yZ (wW (rY (fW jX l).aV) (pV l c) (lJ l)) (G1 (rY (fW jX l).aV) (pV l c) (uZ (fW jX l).aV (fW jX l).aX) (lJ l)) (wY (rY (fW jX l).aV) (pV l c) (lJ l)) (lJ l).length:=by
  unfold Go.Proofs.YtgjgjgihceijnaaGreat.pO;rw[Po];unfold pV
  rfl
 rw[CA]at aO;rw[aO];have bC:=F.lively;have bK:=F.tok;have aT:=F.zero;have aL:∀s,G1 (rY (fW jX l).aV) (pV l c) (uZ (fW jX l).aV (fW jX l).aX) (lJ l) s<=l.length:=λ s=>by
  show L5 _ _ 0<=_;have:∀(m:List Int)(pl:Int)(k:Nat),L5 m pl k<=k+m.length:=by
   intro m
   induction m with
   | nil=>intro pl k;exact zL
   | cons a m ih=>
    intro pl k;rw[L5];split
    ·have:=ih pl (k+1);simp only[MB];omega
    ·simp only[MB];omega
  have h1:=this (uZ (fW jX l).aV (fW jX l).aX) (rQ (rY (fW jX l).aV) (pV l c) (lJ l) s) 0;rw[F.ll]at h1;omega
 unfold E8;generalize wW (rY (fW jX l).aV) (pV l c) (lJ l)=n at*;generalize G1 (rY (fW jX l).aV) (pV l c) (uZ (fW jX l).aV (fW jX l).aX) (lJ l)=tk at*;generalize wY (rY (fW jX l).aV) (pV l c) (lJ l)=nx at*;refine⟨λ X Q=>?_,λ Q=>?_⟩
 ·cases hm:K4 n tk nx (lJ l).length with
  | none=>rw[hm]at Q;cases Q
  | some x=>
   rw[hm]at Q;obtain⟨r,Z⟩:=aR.1 x hm;injection Q with Q;subst Q;have hz:=Z.zero D.pos;have C:(nW tk nx (lJ l).length x.1 x.2).length=x.2.length:=by simp[nW]
   have I:∀p,p<x.2.length->(nW tk nx (lJ l).length x.1 x.2).getD p (0,[])=(tk (x.2.getD p 0),(List.range (lJ l).length).map λ g=>pG (iY x.1) (nx (x.2.getD p 0) g)):=λ p o=>by
    unfold nW;rw[LF,ME,LC o,LF,LC o]
    rfl
   have V:∀p,p<x.2.length->KE tk x.2 p=((nW tk nx (lJ l).length x.1 x.2).getD p (0,[])).1:=λ p o=>by rw[I p o];rfl
   have U:∀p g,p<x.2.length->g<(lJ l).length->Gm nx x.1 x.2 p g=((nW tk nx (lJ l).length x.1 x.2).getD p (0,[])).2.getD g 0:=λ p g o hg=>by
    rw[I p o]
    dsimp only
    rw[LF,ME,List.getElem?_range hg]
    rfl
   have J:=Z.canon D aW bC;refine⟨?_,by rw[C];exact Z.few,⟨r,by rw[C];exact Z.rd,λ p q o hq bM hE=>?_⟩,?_,λ b u hw=>?_,λ y Y=>?_,λ y Y=>?_⟩
   ·rw[C];exact J.congr V U
   ·rw[C]at o hq;refine Z.qapart D o hq bM ?_;refine sY.congr (n:=x.2.length) ?_ (λ p o=>(V p o).symm) (λ p g o hg=>(U p g o hg).symm) r p q o hq hE;have:=(J.congr V U).au;exact this
   ·rw[I 0 hz.1,hz.2];exact aT
   ·have h1:=bK b u hw;have h2:lF (lJ l).length ((b::u).map (Bh l)):=λ d hd=>by
     rw[LY]at hd;obtain⟨e,he,rfl⟩:=hd;exact F.gl e (hw e he)
    have h3:=Z.qobs D ((b::u).map (Bh l)) 0 hz.1 h2;rw[hz.2]at h3;rw[<-yX J.au V U _ 0 hz.1 h2,h3];exact h1
   ·unfold nW at Y;rw[LY]at Y;obtain⟨s,_,rfl⟩:=Y;simp
   ·unfold nW at Y;rw[LY]at Y;obtain⟨s,_,rfl⟩:=Y;exact aL s
 ·cases hm:K4 n tk nx (lJ l).length with
  | none=>exact aR.2 hm
  | some x=>rw[hm]at Q;cases Q
theorem PJ.new{q:Nat->Nat->Bool}(h:PJ q s aK aN)(X:gW q aN s aN.length=aN.length):PJ q (s+1) (aK++[aN.length]) (aN++[s]):=by
 have Q:=C9 (q:=q) (l:=aN) (s:=s) aN.length lR X;have C:=h.pi.len;have I:(aK++[aN.length]).getD s 0=aN.length:=by have:= @jD aK aN.length;rw[C]at this;exact this
 refine⟨⟨by simp[C],λ x V=>?_,λ f o=>?_⟩,λ x V=>?_,λ f f' o D=>?_,λ f f' o D=>?_,λ _=>?_⟩
 ·by_cases e:x=s
  ·subst e;rw[I];exact⟨by simp,.inl jD⟩
  ·have F:x<s:=by omega
   obtain⟨J,U⟩:=h.pi.cl x F;rw[gV (l:=aK) (by rw[C];exact F),gV J];exact⟨MI J (by simp),U⟩
 ·simp at o;by_cases e:f=aN.length
  ·subst e;rw[jD,I];exact⟨by omega,rfl⟩
  ·have D:f<aN.length:=by omega
   obtain⟨J,U⟩:=h.pi.rep f D;rw[gV D,gV (by rw[C];exact J)];exact⟨by omega,U⟩
 ·by_cases e:x=s
  ·subst e;rw[I,jD];exact lR
  ·have F:x<s:=by omega
   rw[gV (l:=aK) (by rw[C];exact F),gV (h.pi.cl x F).1];exact h.le x F
 ·simp at D;by_cases e:f'=aN.length
  ·subst e;rw[jD,gV o];exact(h.pi.rep f o).1
  ·rw[gV (by omega),gV (by omega)];exact h.mono f f' o (by omega)
 ·simp at D;by_cases e:f'=aN.length
  ·subst e;rw[jD,gV o];exact Q f (by omega) o
  ·rw[gV (by omega),gV (by omega)];exact h.no f f' o (by omega)
 ·refine⟨by simp,?_⟩;by_cases e:s=0
  ·subst e;have:aN=[]:=by
    cases aN with
    | nil=>rfl
    | cons a r=>have:=(h.pi.rep 0 (by simp)).1;omega
   rw[this];rfl
  ·have:=h.zero (by omega);rw[gV this.1];exact this.2
theorem PJ.old{q:Nat->Nat->Bool}(h:PJ q s aK aN)(X:¬gW q aN s aN.length=aN.length):PJ q (s+1) (aK++[gW q aN s aN.length]) aN:=by
 have o:=h.pi.len;have D:gW q aN s aN.length<aN.length:=by have:=tF q aN s aN.length;omega
 have Q:=Li _ lR D;have F:(aK++[gW q aN s aN.length]).getD s 0=gW q aN s aN.length:=by have:= @jD aK (gW q aN s aN.length);rw[o]at this;exact this
 refine⟨⟨by simp[o],λ x J=>?_,λ f I=>?_⟩,λ x J=>?_,h.mono,h.no,λ _=>?_⟩
 ·by_cases e:x=s
  ·subst e;rw[F];exact⟨D,.inr Q⟩
  ·have C:x<s:=by omega
   rw[gV (l:=aK) (by rw[o];exact C)];exact h.pi.cl x C
 ·obtain⟨U,V⟩:=h.pi.rep f I;rw[gV (by rw[o];exact U)];exact⟨by omega,V⟩
 ·by_cases e:x=s
  ·subst e;rw[F];exact NS (h.pi.rep _ D).1
  ·have C:x<s:=by omega
   rw[gV (l:=aK) (by rw[o];exact C)];exact h.le x C
 ·have:0<s:=by have:=(h.pi.rep _ D).1;omega
  exact h.zero this
theorem EH{q:Nat->Nat->Bool}:∀d s aK aN,PJ q s aK aN->PJ q (s+d) (uX q d s aK aN).1 (uX q d s aK aN).2:=by
 intro d
 induction d with
 | zero=>intro s aK aN h;exact h
 | succ k ih=>
  intro s aK aN h;rw[uX,show s+(k+1)=s+1+k by omega];by_cases o:gW q aN s aN.length=aN.length
  ·rw[aB o];exact ih _ _ _ (h.new o)
  ·rw[aA o];exact ih _ _ _ (h.old o)
theorem EP(K:Nat)(q:Nat->Nat->Bool):PJ q K (mR K q).1 (mR K q).2:=by
 have:=EH (q:=q) K 0 [] [] ⟨⟨rfl,λ x C=>by omega,λ f o=>by simp at o⟩,λ x C=>by omega,λ f f' _ o=>by simp at o,λ f f' _ o=>by simp at o,λ h=>by omega⟩;rw[MH]at this;exact this
structure IP(K k:Nat)(q:Nat->Nat->Bool)(cls fi:Nat->Nat):Prop where
 pos:0<K->0<k
 le:k<=K
 lt:∀g,g<K->cls g<k
 eq:∀g g',g<K->g'<K->(cls g=cls g'↔q g g'=true)
 fi1:∀j,j<k->fi j<K/\cls (fi j)=j
 fi2:∀g,g<K->fi (cls g)<=g
 fi3:∀j j',j<j'->j'<k->fi j<fi j'
theorem IR(K:Nat)(q:Nat->Nat->Bool)(D:∀x,q x x=true)(I:∀x y,q x y=true->q y x=true)(F:∀x y z,q x y=true->q y z=true->q x z=true):
  IP K (mR K q).2.length q (λ g=>(mR K q).1.getD g 0) (λ j=>(mR K q).2.getD j 0):=by
 have h:=EP K q;have C:=K8 q K;exact⟨C.2.2.2.2,C.2.1,λ g hg=>(h.pi.cl g hg).1,λ g U hg o=>h.part D I F hg o,λ j J=>h.pi.rep j J,λ g hg=>h.le g hg,λ j Q=>h.mono j Q⟩
theorem Yr(ns:Nat->Nat)(nx:Nat->Nat->Nat->Int)(n g:Nat):mJ ns nx n g g=true:=Ed (λ _ _ _ _=>rfl)
theorem rF{ns:Nat->Nat}{nx:Nat->Nat->Nat->Int}{g h:Nat}:mJ ns nx n g h=true↔∀c,c<n->∀s,s<ns c->nx c s g=nx c s h:=by unfold mJ;rw[aE]
theorem Is(K:Nat)(ns:Nat->Nat)(nx:Nat->Nat->Nat->Int)(n:Nat):IP K (mR K (mJ ns nx n)).2.length (mJ ns nx n) (λ g=>(mR K (mJ ns nx n)).1.getD g 0) (λ j=>(mR K (mJ ns nx n)).2.getD j 0):=
 IR K _ (Yr ns nx n) (λ _ _ h=>rF.2 (λ c o s C=>(rF.1 h c o s C).symm)) (λ _ _ _ h k=>rF.2 (λ c o s C=>(rF.1 h c o s C).trans (rF.1 k c o s C)))
theorem E0{f:Nat->List UInt8}:∀n,(∀i,i<n->(f i).length=m)->(oS n f).length=n*m
 | 0,_=>by simp[oS]
 | n+1,h=>by
  rw[nZ,LD,E0 n (λ i hi=>h i (by omega)),h n (by omega),OJ]
theorem Q2{f:Nat->List UInt8}:∀n i j,(∀i,i<n->(f i).length=m)->i<n->j<m->(oS n f).getD (i*m+j) 0=(f i).getD j 0
 | 0,i,j,_,hi,_=>by omega
 | n+1,i,j,h,hi,hj=>by
  have o:=E0 n (λ i hi=>h i (show i<n+1 by omega));rw[nZ];by_cases e:i<n
  ·have:i*m+j<(oS n f).length:=by
    rw[o];have:=OB m (show i+1<=n from e);rw[OJ]at this;omega
   rw[LF,LO this,<-LF];exact Q2 n i j (λ i hi=>h i (by omega)) e hj
  ·have e:i=n:=by omega
   subst e;rw[LF,LU (by rw[o];omega),o,<-LF];congr 1;omega
def rN(ns:Nat->Nat)(k:Nat):Nat->Nat
 | 0=>0
 | c+1=>rN ns k c+1+ns c*(1+k)
theorem Hr{ns:Nat->Nat}{f:Nat->List UInt8}(h:∀c,(f c).length=1+ns c*(1+k)):∀n,(oS n f).length=rN ns k n
 | 0=>rfl
 | n+1=>by rw[nZ,LD,Hr h n,h n,rN];omega
theorem V1{ns:Nat->Nat}{d:Nat}(h:c<=d):rN ns k c<=rN ns k d:=by
 induction d with
 | zero=>
  have:c=0:=by omega
  subst this;exact lR
 | succ e ih=>
  by_cases o:c=e+1
  ·subst o;exact lR
  ·have:=ih (by omega);rw[rN];omega
theorem Y9{ns:Nat->Nat}{f:Nat->List UInt8}(h:∀c,(f c).length=1+ns c*(1+k)):∀n c j,c<n->j<1+ns c*(1+k)->(oS n f).getD (rN ns k c+j) 0=(f c).getD j 0
 | 0,c,j,hc,_=>by omega
 | n+1,c,j,hc,hj=>by
  have o:=Hr h n;rw[nZ];by_cases e:c<n
  ·have:rN ns k c+j<(oS n f).length:=by
    rw[o];have:=V1 (ns:=ns) (k:=k) (show c+1<=n from e);rw[rN]at this;omega
   rw[LF,LO this,<-LF];exact Y9 h n c j e hj
  ·have e:c=n:=by omega
   subst e;rw[LF,LU (by rw[o];omega),o,<-LF];congr 1;omega
theorem J5(h:A.length=n):(A++B).getD (n+i) 0=B.getD i 0:=by
 rw[LF,LU (by omega),<-LF,h];congr 1;omega
theorem uU(h:i<A.length):(A++B).getD i 0=A.getD i 0:=by
 rw[LF,LO h,<-LF]
theorem oW{x:Nat}(h:x<256):(LQ x).toNat=x:=by
 rw[UInt8.toNat_ofNat'];exact OI h
structure KV(s:tB)(R n k:Nat)(beh cls:Nat->Nat)(ns:Nat->Nat)(tk:Nat->Nat->Nat)(ld:Nat->Nat->Nat->Nat):Prop where
 ok:iF s=true
 fr:iR s=R
 fm:iM s=n
 fk:iK s=k
 fb:∀i,i<R->nA s i=beh i
 fc:∀b,b<256->tJ s b=cls b
 fn:∀c,c<n->qW s c=ns c
 ft:∀c st,c<n->st<ns c->jO s c st=tk c st
 fl:∀c st j,c<n->st<ns c->j<k->bt s (qD s c st+1+j)=ld c st j
 fz:s.size=262+R+rN ns k n
theorem Bo(aX:List ((Nat->Bool)×Int×Int))(n K:Nat)(bG ns:Nat->Nat)(tk:Nat->Nat->Nat)(nx:Nat->Nat->Nat->Int)
  (eT:1<=aX.length) (eM:aX.length<=8) (hE:1<=n) (hF:n<=4) (eX:0<K) (hK:K<=256) (bO:∀i,i<aX.length->tM aX i<=1+n) (cP:∀b,b<256->bG b<K) (Z:∀c,c<n->1<=ns c/\ns c<=100) (Y:∀c st,c<n->st<ns c->tk c st<=aX.length)
  (hA:∀c st g,c<n->st<ns c->g<K->nx c st g= -1\/(0<=nx c st g/\nx c st g<(ns c:Int))):
  KV ⟨(Jv aX n K bG ns tk nx).toArray⟩ aX.length n (mR K (mJ ns nx n)).2.length (tM aX) (λ b=>(mR K (mJ ns nx n)).1.getD (bG b) 0) ns tk (λ c st j=>G7 (nx c st ((mR K (mJ ns nx n)).2.getD j 0))):=by
 have F:=Is K ns nx n;obtain⟨fi,aT⟩:∃fi,fi=(mR K (mJ ns nx n)).2:=⟨_,rfl⟩
 obtain⟨cs,cN⟩:∃cs,cs=(mR K (mJ ns nx n)).1:=⟨_,rfl⟩
 have hL:Jv aX n K bG ns tk nx=(sX aX++oS aX.length (λ k=>[LQ (tM aX k)])++[LQ n,LQ (fi.length-1)]++oS 256 (λ b=>[LQ (cs.getD (bG b) 0)]))++oS n (λ c=>[LQ (ns c)]++oS (ns c) (S7 tk nx fi c)):=by
  rw[aT,cN];rfl
 rw[hL];rw[<-aT,<-cN]at F ⊢;clear hL aT cN;have gL:=F.pos eX;have hB:=F.le;obtain⟨R,hR⟩:=xE (aX.length)
 rw[hR]at eT eM bO Y ⊢;obtain⟨k,hk⟩:=xE (fi.length)
 rw[hk]at F gL hB ⊢;have l1:(sX aX).length=4:=rfl;have l2:(oS R (λ k=>[LQ (tM aX k)])).length=R:=by have:=E0 (m:=1) (f:=λ k=>[LQ (tM aX k)]) R (λ _ _=>rfl);omega
 have l4:(oS 256 (λ b=>[LQ (cs.getD (bG b) 0)])).length=256:=by have:=E0 (m:=1) (f:=λ b=>[LQ (cs.getD (bG b) 0)]) 256 (λ _ _=>rfl);omega
 have eO:∀c st,(S7 tk nx fi c st).length=1+k:=λ c st=>by
  unfold S7;rw[LD,E0 (m:=1) fi.length (λ _ _=>rfl),hk];simp
 have hc:∀c,([LQ (ns c)]++oS (ns c) (S7 tk nx fi c)).length=1+ns c*(1+k):=λ c=>by
  rw[LD,E0 (ns c) (λ st _=>eO c st)];simp
 have lH:(sX aX++oS R (λ k=>[LQ (tM aX k)])++[LQ n,LQ (k-1)]++oS 256 (λ b=>[LQ (cs.getD (bG b) 0)])).length=262+R:=by
  simp only[LD,l1,l2,l4,MB,NQ];omega
 obtain⟨s,hs⟩:∃s:tB,s=⟨((sX aX++oS R (λ k=>[LQ (tM aX k)])++[LQ n,LQ (k-1)]++oS 256 (λ b=>[LQ (cs.getD (bG b) 0)]))++oS n (λ c=>[LQ (ns c)]++oS (ns c) (S7 tk nx fi c))).toArray⟩:=⟨_,rfl⟩
 rw[<-hs];have Q:∀i,bt s i=(((sX aX++oS R (λ k=>[LQ (tM aX k)])++[LQ n,LQ (k-1)]++oS 256 (λ b=>[LQ (cs.getD (bG b) 0)]))++oS n (λ c=>[LQ (ns c)]++oS (ns c) (S7 tk nx fi c))).getD i 0).toNat:=λ i=>by
  rw[hs];rfl
 have J:s.size=262+R+rN ns k n:=by
  rw[hs];show(List.toArray _).size=_;rw[List.size_toArray,LD,lH,Hr hc]
 have b0:bt s 0=83/\bt s 1=84/\bt s 2=1/\bt s 3=R:=by
  refine⟨?_,?_,?_,?_⟩
  all_goals
   rw[Q];rw[uU (by rw[lH];omega),uU (by simp only[LD,l1,l2,MB,NQ];omega),uU (by simp only[LD,l1,l2];omega),uU (by rw[l1];omega)]
  ·rfl
  ·rfl
  ·rfl
  ·show(LQ aX.length).toNat=R;rw[hR];exact oW (by omega)
 have U:iR s=R:=b0.2.2.2;have eS:∀i,i<R->bt s (4+i)=tM aX i:=λ i hi=>by
  rw[Q,uU (by rw[lH];omega),uU (by simp only[LD,l1,l2,MB,NQ];omega),uU (by simp only[LD,l1,l2];omega),J5 l1];have:=Q2 (m:=1) (f:=λ k=>[LQ (tM aX k)]) R i 0 (λ _ _=>rfl) hi (by omega);rw[OL,MS]at this;rw[this];show(LQ (tM aX i)).toNat=_;exact oW (by have:=bO i hi;omega)
 have X:(sX aX++oS R (λ k=>[LQ (tM aX k)])).length=4+R:=by rw[LD,l1,l2]
 have bM:bt s (4+R)=n:=by
  rw[Q,uU (by rw[lH];omega),uU (by rw[LD,X];simp)];have:=J5 (i:=0) (B:= [LQ n,LQ (k-1)]) X;rw[MS]at this;rw[this];exact oW (by omega)
 have bK:bt s (5+R)=k-1:=by
  rw[Q,uU (by rw[lH];omega),uU (by rw[LD,X];simp;omega)];have:=J5 (i:=1) (B:= [LQ n,LQ (k-1)]) X;rw[show 5+R=4+R+1 by omega,this];exact oW (by omega)
 have eR:(sX aX++oS R (λ k=>[LQ (tM aX k)])++[LQ n,LQ (k-1)]).length=6+R:=by rw[LD,X];simp;omega
 have bC:∀b,b<256->bt s (6+R+b)=cs.getD (bG b) 0:=λ b hb=>by
  rw[Q,uU (by rw[lH];omega),J5 eR];have:=Q2 (m:=1) (f:=λ b=>[LQ (cs.getD (bG b) 0)]) 256 b 0 (λ _ _=>rfl) hb (by omega);rw[OL,MS]at this;rw[this];show(LQ (cs.getD (bG b) 0)).toNat=_;exact oW (by have:=F.lt (bG b) (cP b hb);omega)
 have bT:∀c j,c<n->j<1+ns c*(1+k)->bt s (262+R+(rN ns k c+j))=(([LQ (ns c)]++oS (ns c) (S7 tk nx fi c)).getD j 0).toNat:=λ c j C I=>by
  rw[Q,J5 lH,Y9 hc n c j C I]
 have bN:∀c,c<n->bt s (262+R+rN ns k c)=ns c:=λ c C=>by
  have:=bT c 0 C (by omega);rw[MS]at this;rw[this];exact oW (by have:=(Z c C).2;omega)
 have bS:∀c st j,c<n->st<ns c->j<1+k->bt s (262+R+rN ns k c+1+st*(1+k)+j)=((S7 tk nx fi c st).getD j 0).toNat:=λ c st j C o I=>by
  have hD:st*(1+k)+j<ns c*(1+k):=by
   have:=OB (1+k) (show st+1<=ns c from o);rw[OJ]at this;omega
  have:=bT c (1+(st*(1+k)+j)) C (by omega);rw[show 262+R+rN ns k c+1+st*(1+k)+j=262+R+(rN ns k c+(1+(st*(1+k)+j))) by omega,this,J5 (by rfl),Q2 (ns c) st j (λ st _=>eO c st) o I]
 have aW:∀c st,c<n->st<ns c->bt s (262+R+rN ns k c+1+st*(1+k))=tk c st:=λ c st C o=>by
  have:=bS c st 0 C o (by omega);rw[MS]at this;rw[this];show(LQ (tk c st)).toNat=_;exact oW (by have:=Y c st C o;omega)
 have cF:∀c st j,c<n->st<ns c->j<k->bt s (262+R+rN ns k c+1+st*(1+k)+(j+1))=G7 (nx c st (fi.getD j 0)):=λ c st j C o I=>by
  have:=bS c st (j+1) C o (by omega);rw[this];unfold S7;rw[Nat.add_comm j 1,J5 (by rfl)];have:=Q2 (m:=1) (f:=λ i=>[LQ (G7 (nx c st (fi.getD i 0)))]) fi.length j 0 (λ _ _=>rfl) (by omega) (by omega);rw[OL,MS]at this;rw[this];show(LQ (G7 (nx c st (fi.getD j 0)))).toNat=_;refine oW ?_;unfold G7;split
  ·omega
  ·exact Nat.mod_lt _ (by omega)
 have aR:∀c st j,c<n->st<ns c->j<k->G7 (nx c st (fi.getD j 0))<ns c\/G7 (nx c st (fi.getD j 0))=255:=λ c st j C o I=>by
  unfold G7;have hC:=(Z c C).2;rcases hA c st (fi.getD j 0) C o (F.fi1 j I).1 with e|e
  ·rw[aB e];exact .inr rfl
  ·rw[aA (by omega)];left;rw[OI (by omega)];omega
 have eN:iM s=n:=by unfold iM;rw[U];exact bM
 have aL:iK s=k:=by unfold iK;rw[U,bK];omega
 have aO:∀c,c<=n->pC s c=262+R+rN ns k c/\(c<n->rU s R k (pC s c)=true):=by
  intro c
  induction c with
  | zero=>
   intro _;have e0:pC s 0=262+R+rN ns k 0:=by show 262+iR s=262+R+0;omega
   refine⟨e0,λ D=>?_⟩;rw[e0];have V:=V1 (ns:=ns) (k:=k) (show 0+1<=n from D);rw[rN]at V;rw[nG,bN 0 D,J];have:=Z 0 D;refine⟨by omega,by omega,by omega,by omega,λ st o=>?_⟩;rw[qF];refine⟨by rw[aW 0 st D o];exact Y 0 st D o,λ j I=>?_⟩;rw[cF 0 st j D o I];exact aR 0 st j D o I
  | succ d ih=>
   intro hd;obtain⟨h1,h2⟩:=ih (by omega);have h2:=h2 (by omega);have e1:pC s (d+1)=262+R+rN ns k (d+1):=by
    show tY s (iR s) (iK s) (pC s d)=_;rw[U,aL,(Cl h2).2,h1,bN d (by omega),rN];omega
   refine⟨e1,λ D=>?_⟩;rw[e1];have V:=V1 (ns:=ns) (k:=k) (show d+1+1<=n from D);rw[rN]at V;rw[nG,bN (d+1) D,J];have:=Z (d+1) D;refine⟨by omega,by omega,by omega,by omega,λ st o=>?_⟩;rw[qF];refine⟨by rw[aW (d+1) st D o];exact Y (d+1) st D o,λ j I=>?_⟩;rw[cF (d+1) st j D o I];exact aR (d+1) st j D o I
 have eL:∀c st,c<n->qD s c st=262+R+rN ns k c+1+st*(1+k):=λ c st C=>by
  unfold qD;rw[(aO c (by omega)).1,aL]
 refine⟨?_,U,eN,aL,eS,λ b hb=>by unfold tJ;rw[U];exact bC b hb,λ c C=>by unfold qW;rw[(aO c (by omega)).1];exact bN c C,λ c st C o=>by unfold jO;rw[eL c st C];exact aW c st C o,λ c st j C o I=>?_,J⟩
 ·rw[mK,pK];unfold wZ zN yE;rw[U,eN,aL];refine⟨⟨by omega,⟨b0.1,b0.2.1,b0.2.2.1⟩,eT,eM⟩,?_,?_,?_,λ c C=>(aO c (by omega)).2 C,by rw[(aO n lR).1,J]⟩
  ·rw[NW,aE];refine⟨oD (by omega) (λ j I=>?_),by omega⟩;have:j=0:=by omega
   subst this;rw[MS,bM];omega
  ·rw[NW];refine⟨oD (by omega) (λ j I=>?_),oD (by omega) (λ j I=>?_)⟩
   ·rw[eS j I];have:=bO j I;omega
   ·have:=mT s (5+R+j);omega
  ·refine oD (by omega) (λ j I=>?_);rw[bC j I];have:=F.lt (bG j) (cP j I);omega
 ·rw[eL c st C,show 262+R+rN ns k c+1+st*(1+k)+1+j=262+R+rN ns k c+1+st*(1+k)+(j+1) by omega];exact cF c st j C o I
open Go.Proofs.YtgjgjgihceijnaaGreat (rY zD uZ pO pH)
theorem Ie(f:Nat->Bool):∀k c,c<=vS f k c/\vS f k c<=max c k/\∀j,j<k->f j=true->j+1<=vS f k c
 | 0,c=>⟨lR,by rw[vS];omega,λ j C=>by omega⟩
 | k+1,c=>by
  obtain⟨D,I,F⟩:=Ie f k c;rw[vS];split
  ·rename_i h;exact⟨by omega,by omega,λ j C _=>by omega⟩
  ·rename_i h;refine⟨D,by omega,λ j C o=>?_⟩;by_cases e:j=k
   ·subst e;apply LP;intro J;exact h ⟨o,by omega⟩
   ·exact F j (by omega) o
theorem FG(x:(Nat->Bool)×Int×Int)(c:Nat):c<=Q9 x c/\(x.2.1<=5->Q9 x c<=max c 4)/\x.2.1<=1+(Q9 x c:Int)/\∀j,j<4->x.1 j=true->j+1<=Q9 x c:=by
 obtain⟨C,D,o⟩:=Ie x.1 4 c;unfold Q9;split
 ·exact⟨by omega,λ h=>by omega,by omega,λ j I F=>by have:=o j I F;omega⟩
 ·exact⟨C,λ _=>D,by omega,o⟩
theorem P1:∀(l:List ((Nat->Bool)×Int×Int)) (c:Nat),c<=iP l c/\((∀x∈l,x.2.1<=5)->iP l c<=max c 4)/\∀x∈l,x.2.1<=1+(iP l c:Int)/\∀j,j<4->x.1 j=true->j+1<=iP l c
 | [],c=>⟨lR,λ _=>by rw[iP];omega,λ x D=>absurd D LK⟩
 | x::l,c=>by
  obtain⟨V,F,Y,U⟩:=FG x c;obtain⟨X,J,Q⟩:=P1 l (Q9 x c);rw[iP];refine⟨by omega,λ h=>?_,λ y o=>?_⟩
  ·have:=F (h x LG);have:=J (λ y o=>h y (LI _ o));omega
  ·rcases MF.1 o with e|e
   ·rw[e];exact⟨by omega,λ j C I=>by have:=U j C I;omega⟩
   ·exact Q y e
theorem Gs(cs:Nat->Option (List (Nat×List Int))):∀(d c:Nat)(aS:List (List (Nat×List Int))),(∀ls,xX cs d c aS=some ls->∃L,ls=aS++L/\L.length=d/\∀i,i<d->cs (c+i)=some (L.getD i []))/\(xX cs d c aS=none->∃i,i<d/\cs (c+i)=none)
 | 0,c,aS=>⟨λ ls h=>by rw[xX]at h;injection h with h;exact⟨[],by rw[h,MA],rfl,λ i hi=>by omega⟩,λ h=>by rw[xX]at h;cases h⟩
 | d+1,c,aS=>by
  cases e:cs c with
  | none=>
   refine⟨λ ls h=>?_,λ _=>⟨0,by omega,by rw[MS];exact e⟩⟩;rw[xX,e]at h;cases h
  | some x=>
   obtain⟨C,D⟩:=Gs cs d (c+1) (aS++[x]);refine⟨λ ls h=>?_,λ h=>?_⟩
   ·rw[xX,e]at h;obtain⟨L,a1,o,F⟩:=C ls h;refine⟨x::L,by rw[a1,LR];rfl,by simp[o],λ i hi=>?_⟩
    cases i with
    | zero=>rw[MS];exact e
    | succ j=>
     have:=F j (by omega);rw[show c+(j+1)=c+1+j by omega,this]
     rfl
   ·rw[xX,e]at h;obtain⟨i,a1,o⟩:=D h;exact⟨i+1,by omega,by rw[show c+(i+1)=c+1+i by omega];exact o⟩
def gU(l:List gX):Nat:=iP (fW jX l).aX 1
theorem wD(l:List gX)(X:∀x∈l,tP x)(hn:mV l<=10):1<=gU l/\gU l<=4/\(∀x∈l,x.2.1<=1+(gU l:Int))/\∀x∈l,∀c,x.1 c=true->c<gU l:=by
 obtain⟨Z,h2,Y⟩:=P1 (fW jX l).aX 1;have F:=zS l jX AM X (by show 0+mV l<=10;omega);have D:=(Ij l hn).2;have C:∀x∈l,∃y∈(fW jX l).aX,(y.1,y.2.1)=(x.1,x.2.1):=λ x o=>by
  have:(x.1,x.2.1)∈l.map (λ x=>(x.1,x.2.1)):=LY.2 ⟨x,o,rfl⟩;rw[<-D,LY]at this;exact this
 refine⟨Z,?_,λ x o=>?_,λ x o c I=>?_⟩
 ·have:=h2 (λ x o=>(F.be x o).2);unfold gU;omega
 ·obtain⟨y,J,e⟩:=C x o;injection e with U V;have:=(Y y J).1;rw[V]at this;exact this
 ·obtain⟨y,J,e⟩:=C x o;injection e with U V;have h4:c<4:=by
   apply LP;intro Q;have:=(X x o).c4 c (by omega);rw[this]at I;cases I
  have:=(Y y J).2 c h4 (by rw[U];exact I);unfold gU;omega
structure FP(l:List gX)(ls:List (List (Nat×List Int))):Prop where
 len:ls.length=gU l
 tab:∀c,c<gU l->IN l c (ls.getD c [])
theorem Hf{t:tB}(h:kC t=0){l:List gX}(J:vE t=some l):
  (∀ls,xX (pO (iB t).aV (iB t).aX (qG (iB t).aW).2) (iP (iB t).aX 1) 0 []=some ls->FP l ls)/\
  (xX (pO (iB t).aV (iB t).aX (qG (iB t).aW).2) (iP (iB t).aX 1) 0 []=none->∃c,c<gU l/\E8 l c):=by
 obtain⟨hs,l',o,I,Q,V,Z⟩:=L8 h;rw[J]at o;injection o with o;subst o;have C:=(wP J).1;have hm:=wD l C I;have U:(fW jX l).aW=qB l:=by rw[vJ];rfl
 rw[Q,V,Z,U];obtain⟨a1,X⟩:=Gs (pO (fW jX l).aV (fW jX l).aX (qG (qB l)).2) (iP (fW jX l).aX 1) 0 [];refine⟨λ ls D=>?_,λ D=>?_⟩
 ·obtain⟨L,F,b2,Y⟩:=a1 ls D;rw[OK]at F;subst F;refine⟨b2,λ c hc=>?_⟩;have:=Y c hc;rw[MH]at this;exact(Gc l C I c (by omega)).1 _ this
 ·obtain⟨c,F,b2⟩:=X D;rw[MH]at b2;exact⟨c,F,(Gc l C I c (by show c<4;have:c<gU l:=F;omega)).2 b2⟩
theorem DF(l:List gX):0<(lJ l).length/\(lJ l).length<=256:=by
 obtain⟨C,o,_⟩:=Dk (qB l);exact⟨C,o⟩
theorem t9{l:List gX}(h:FP l ls)(Y:l.length<=8)(Z:gU l<=4):Be (lJ l).length ls:=by
 have o:∀x∈ls,∃c,c<gU l/\x=ls.getD c []:=λ x D=>by
  obtain⟨c,C,e⟩:=NJ D;exact⟨c,by rw[<-h.len];exact C,by rw[LF,LC C,<-e];rfl⟩
 refine⟨by rw[h.len];omega,λ x D=>?_,λ x D z F=>?_,λ x D z F=>?_,λ x D z F y X=>?_⟩
 ·obtain⟨c,C,rfl⟩:=o x D;have:=(h.tab c C).few;omega
 ·obtain⟨c,C,rfl⟩:=o x D;have:=(h.tab c C).rul z F;omega
 ·obtain⟨c,C,rfl⟩:=o x D;exact(h.tab c C).len z F
 ·obtain⟨c,C,rfl⟩:=o x D;have I:=h.tab c C;obtain⟨s,Q,e⟩:=NJ F;obtain⟨g,hg,U⟩:=NJ X;have J:g<(lJ l).length:=by rw[<-I.len z F];exact hg
  have:=I.cn.au.rng s g Q J;have V:((ls.getD c []).getD s (0,[])).2.getD g 0=y:=by
   rw[show(ls.getD c []).getD s (0,[])=z by rw[LF,LC Q,<-e];rfl];rw[LF,LC hg,<-U];rfl
  simp only[V]at this;have:=I.few;omega
theorem I4(t:tB):(kC t≠0/\pH t=([],kC t))\/(kC t=0/\∃l,vE t=some l/\mV l<=10/\
  ((pH t=([],4)/\∃c,c<gU l/\E8 l c)\/
   ∃ls,FP l ls/\pH t=(Jv (fW jX l).aX (gU l) (lJ l).length (Bh l) (S4 ls) (Vj ls) (V7 ls),0))):=by
 by_cases h:kC t=0
 ·right;obtain⟨Z,l,C,Q,F,Y,V⟩:=L8 h;have I:(fW jX l).aW=qB l:=by rw[vJ];rfl
  refine⟨h,l,C,Q,?_⟩;obtain⟨a1,J⟩:=Hf h C;have D:∀X,xX (pO (iB t).aV (iB t).aX (qG (iB t).aW).2) (iP (iB t).aX 1) 0 []=X->pH t=match X with
    | none=>([],4)
    | some ls=>(Jv (iB t).aX ls.length (qG (iB t).aW).2.length (λ b=>(qG (iB t).aW).1.getD b 0) (S4 ls) (Vj ls) (V7 ls),0):=λ X U=>by
   unfold Go.Proofs.YtgjgjgihceijnaaGreat.pH;rw[aB h,U]
   cases X<;>rfl
  cases e:xX (pO (iB t).aV (iB t).aX (qG (iB t).aW).2) (iP (iB t).aX 1) 0 []with
  | none=>exact .inl ⟨D _ e,J e⟩
  | some ls=>
   have o:=a1 ls e;refine .inr ⟨ls,o,?_⟩;rw[D _ e];simp only;rw[o.len,F,V,I]
   rfl
 ·left;refine⟨h,?_⟩;unfold Go.Proofs.YtgjgjgihceijnaaGreat.pH;rw[aA h]
structure xK(l:List gX)(s:tB):Prop where
 ok:iF s=true
 sz:s.size<=120000
 fr:iR s=l.length
 fm:iM s=gU l
 fb:∀(i:Nat)(x:gX),l[i]?=some x->(nA s i:Int)=x.2.1
 cn:∀c,c<gU l->uF (qW s c) 256 (jO s c) (λ p b=>oN (iA s c p b))
 z:∀c,c<gU l->jO s c 0=0
 tok:∀c,c<gU l->∀b u,lF 256 (b::u)->I0 l c (b::u) (jM (jO s c) (λ p b=>oN (iA s c p b)) 0 (b::u))
 apr:∀c,c<gU l->∃r,r<=qW s c/\∀p q,p<qW s c->q<qW s c->p≠q->¬sY (jO s c) (λ p j=>oN (bt s (qD s c p+1+j))) (iK s) r p q
 cl:∃fb:Nat->Nat,(∀j,j<iK s->fb j<256/\tJ s (fb j)=j)/\(∀b,b<256->fb (tJ s b)<=b)/\(∀j j',j<j'->j'<iK s->fb j<fb j')
 ca:∀j j',j<iK s->j'<iK s->j≠j'->∃c p,c<gU l/\p<qW s c/\bt s (qD s c p+1+j)≠bt s (qD s c p+1+j')
theorem qI{x:Int}(hn:n<=100)(h:x= -1\/(0<=x/\x<(n:Int))):oN (G7 x)=x:=by
 unfold oN G7;rcases h with h|h
 ·rw[aB h,aB rfl,h]
 ·have o:¬x= -1:=by omega
  have C:x.toNat<256:=by omega
  have D:¬x.toNat=255:=by omega
  rw[aA o,OI C,aA D];omega
theorem sY.letters{tk:Nat->Nat}{nx nx':Nat->Nat->Int}(C:oT n K nx)(h:∀g,g<K->∃j,j<k/\∀p,p<n->nx p g=nx' p j):∀(r s t:Nat),s<n->t<n->sY tk nx' k r s t->sY tk nx K r s t
 | 0,_,_,_,_,_=>trivial
 | r+1,s,t,hs,ht,hE=>by
  refine⟨sY.letters C h r s t hs ht hE.1,hE.2.1,λ g hg=>?_⟩;obtain⟨j,J,e⟩:=h g hg;obtain⟨D,F⟩:=hE.2.2 j J;rw[<-e s hs,<-e t ht]at D F;refine⟨D,λ o=>?_⟩;have U:=C.rng s g hs hg;have Q:=C.rng t g ht hg;have:nx t g≠ -1:=λ I=>o (D.2 I)
  exact sY.letters C h r _ _ (by omega) (by omega) (F o)
theorem Lt{l:List gX}(bS:∀x∈l,tP x)(h1:0<l.length)(h8:l.length<=8)(hn:mV l<=10)(h:FP l ls):
  xK l ⟨(Jv (fW jX l).aX (gU l) (lJ l).length (Bh l) (S4 ls) (Vj ls) (V7 ls)).toArray⟩:=by
 obtain⟨m1,m4,mb,_⟩:=wD l bS hn;have aR:(fW jX l).aX.length=l.length:=by rw[qK];show 0+l.length=l.length;omega
 have eO:=(Ij l hn).2;have aL:=f7 (qB l);obtain⟨lo,eL,aW,bM⟩:=aL.lo;have hK:=DF l;have aT:∀(i:Nat)(x:gX),l[i]?=some x->(tM (fW jX l).aX i:Int)=x.2.1:=λ i x hx=>by
  have hi:i<(fW jX l).aX.length:=by rw[aR];exact(LN.1 hx).1
  have e:=congrArg (λ m=>m[i]?) eO;simp only[ME,hx,LC hi,NO]at e;injection e with e;injection e with _ e2;unfold tM;rw[LF,ME,LC hi];simp only[NO,OH];rw[e2];have:=(bS x (LZ hx)).b0;omega
 have X:∀c st g,c<gU l->st<S4 ls c->g<(lJ l).length->V7 ls c st g= -1\/(0<=V7 ls c st g/\V7 ls c st g<(S4 ls c:Int)):=λ c st g o F hg=>(h.tab c o).cn.au.rng st g F hg
 have J:∀c,c<gU l->1<=S4 ls c/\S4 ls c<=100:=λ c o=>⟨(h.tab c o).cn.au.pos,(h.tab c o).few⟩
 have I:=Bo (fW jX l).aX (gU l) (lJ l).length (Bh l) (S4 ls) (Vj ls) (V7 ls) (by omega) (by omega) m1 m4 hK.1 hK.2 (λ i hi=>by
   have bO:i<l.length:=by omega
   have e:=aT i l[i] (LC bO);have:=mb l[i] (ND bO);omega) aL.lt J (λ c st o F=>by
   rw[aR];refine(h.tab c o).rul _ ?_;have F:st<(ls.getD c []).length:=F;show(ls.getD c []).getD st (0,[])∈ls.getD c [];generalize ls.getD c []=tab at*;rw[LF,LC F];exact ND F) X
 have C:=Is (lJ l).length (S4 ls) (V7 ls) (gU l);generalize (⟨(Jv (fW jX l).aX (gU l) (lJ l).length (Bh l) (S4 ls) (Vj ls) (V7 ls)).toArray⟩:tB)=s at*;generalize hk:(mR (lJ l).length (mJ (S4 ls) (V7 ls) (gU l))).2.length=k at*;generalize (mR (lJ l).length (mJ (S4 ls) (V7 ls) (gU l))).2=fi at*;generalize (mR (lJ l).length (mJ (S4 ls) (V7 ls) (gU l))).1=cs at*;have aO:∀c st g,c<gU l->st<S4 ls c->g<(lJ l).length->V7 ls c st (fi.getD (cs.getD g 0) 0)=V7 ls c st g:=λ c st g o F hg=>by
  have U:=C.lt g hg;obtain⟨f1,f2⟩:=C.fi1 _ U;have:=(C.eq _ g f1 hg).1 f2;exact rF.1 this c o st F
 have Q:∀b,b<256->Bh l b<(lJ l).length:=λ b V=>aL.lt b V
 have Z:∀c st b,c<gU l->st<S4 ls c->b<256->oN (iA s c st b)=V7 ls c st (Bh l b):=λ c st b o F V=>by
  unfold iA;rw[I.fc b V,I.fl c st _ o F (C.lt _ (Q b V)),aO c st _ o F (Q b V)];exact qI (J c o).2 (X c st _ o F (Q b V))
 have cP:∀c,c<gU l->uF (S4 ls c) 256 (Vj ls c) (λ p b=>V7 ls c p (Bh l b)):=λ c o=>(h.tab c o).cn.bytes Q eL aW bM
 have bK:∀c,c<gU l->∀b u,lF 256 (b::u)->jM (jO s c) (λ p b=>oN (iA s c p b)) 0 (b::u)=jM (Vj ls c) (V7 ls c) 0 ((b::u).map (Bh l)):=λ c o b u eR=>by
  rw[<-B9];exact(yX (cP c o).au (λ p D=>(I.ft c p o D).symm) (λ p b D V=>(Z c p b o D V).symm) (b::u) 0 (J c o).1 eR).symm
 refine⟨I.ok,?_,by rw[I.fr,aR],I.fm,λ i x hx=>?_,λ c o=>?_,λ c o=>?_,λ c o b u bN=>?_,λ c o=>?_,?_,λ j j' U Y bC=>?_⟩
 ·rw[I.fz,aR];have:∀d,d<=gU l->rN (S4 ls) k d<=d*25801:=by
   intro d
   induction d with
   | zero=>intro _;exact zL
   | succ e ih=>
    intro he;have h1:=ih (by omega);have h2:=Nat.mul_le_mul (J e (by omega)).2 (show 1+k<=257 by have:=C.le;omega);rw[rN,OJ];omega
  have h2:=this (gU l) lR;have h3:=OB 25801 m4;omega
 ·rw[I.fb i (by rw[aR];exact(LN.1 hx).1)];exact aT i x hx
 ·rw[I.fn c o];exact(cP c o).congr (λ p D=>(I.ft c p o D).symm) (λ p b D V=>(Z c p b o D V).symm)
 ·rw[I.ft c 0 o (J c o).1];exact(h.tab c o).z
 ·rw[bK c o b u bN];exact(h.tab c o).tok b u bN
 ·obtain⟨r,hr,eS⟩:=(h.tab c o).apr;rw[I.fn c o];refine⟨r,hr,λ p q D hq bC hE=>eS p q D hq bC ?_⟩;have bT:=(h.tab c o).cn;refine sY.letters (nx':=λ p j=>V7 ls c p (fi.getD j 0)) (k:=k) bT.au (λ g hg=>⟨cs.getD g 0,C.lt g hg,λ p D=>(aO c p g o D hg).symm⟩) r p q D hq ?_;rw[I.fk]at hE;have eM:oT (S4 ls c) k (λ p j=>oN (bt s (qD s c p+1+j))):=⟨(J c o).1,λ p j D U=>by
   rw[I.fl c p j o D U,qI (J c o).2 (X c p _ o D (C.fi1 j U).1)];exact X c p _ o D (C.fi1 j U).1⟩
  exact sY.congr eM (λ p D=>I.ft c p o D) (λ p j D U=>by rw[I.fl c p j o D U,qI (J c o).2 (X c p _ o D (C.fi1 j U).1)]) r p q D hq hE
 ·refine⟨λ j=>lo (fi.getD j 0),λ j U=>?_,λ b V=>?_,λ j j' U Y=>?_⟩
  ·rw[I.fk]at U;obtain⟨f1,f2⟩:=C.fi1 j U;obtain⟨g1,g2⟩:=eL _ f1;refine⟨g1,?_⟩;rw[I.fc _ g1];show cs.getD (Bh l (lo (fi.getD j 0))) 0=j;rw[show Bh l (lo (fi.getD j 0))=fi.getD j 0 from g2];exact f2
  ·rw[I.fc b V];have h1:=C.fi2 (Bh l b) (Q b V);have h2:=bM b V;have h3:lo (fi.getD (cs.getD (Bh l b) 0) 0)<=lo (Bh l b):=by
    by_cases e:fi.getD (cs.getD (Bh l b) 0) 0=Bh l b
    ·rw[e];exact lR
    ·exact NS (aW _ _ (by omega) (Q b V))
   exact NT h3 h2
  ·rw[I.fk]at Y;exact aW _ _ (C.fi3 j j' U Y) (C.fi1 j' Y).1
 ·rw[I.fk]at U Y;obtain⟨f1,f2⟩:=C.fi1 j U;obtain⟨f3,f4⟩:=C.fi1 j' Y;have eN:¬mJ (S4 ls) (V7 ls) (gU l) (fi.getD j 0) (fi.getD j' 0)=true:=λ e=>by
   have:=(C.eq _ _ f1 f3).2 e;exact bC (f2.symm.trans (this.trans f4))
  apply LP;intro cF;refine eN (rF.2 (λ c o p D=>?_));apply LP;intro cN;refine cF ⟨c,p,o,by rw[I.fn c o];exact D,λ e=>cN ?_⟩;rw[I.fl c p j o D U,I.fl c p j' o D Y]at e;have e:=congrArg oN e;rw[qI (J c o).2 (X c p _ o D f1),qI (J c o).2 (X c p _ o D f3)]at e;exact e
section
section
variable {n:Nat}{mk:Nat->Nat}{ld:Nat->Nat->Nat}
def oK(mk:Nat->Nat)(o:Nat->Nat->Nat)(K:Nat)(d:Nat->Nat->Bool)(i j:Nat):Bool:=
 decide (mk i≠mk j\/∃k,k<K/\((¬(o i k=255↔o j k=255))\/(o i k≠255/\d (o i k) (o j k)=true)))
end
end
structure RN where
 k:Nat
 l:List Nat
 f:Nat->Bool
def rB(L:Nat->List Nat->Prop):List Nat->List Nat->Prop
 | [],w=>w=[]
 | m::l,w=>∃u v,w=u++v/\L m u/\rB L l v
theorem rB.congr{L L':Nat->List Nat->Prop}:∀(l:List Nat)(w:List Nat),(∀m,m∈l->∀u,L m u↔L' m u)->(rB L l w↔rB L' l w)
 | [],w,_=>Iff.rfl
 | m::l,w,h=>by
  have D:=λ v=>rB.congr (L:=L) (L':=L') l v (λ x F=>h x (LI _ F))
  constructor
  ·rintro⟨u,v,e,o,C⟩;exact⟨u,v,e,(h m LG u).1 o,(D v).1 C⟩
  ·rintro⟨u,v,e,o,C⟩;exact⟨u,v,e,(h m LG u).2 o,(D v).2 C⟩
theorem rB.app{L:Nat->List Nat->Prop}:∀(l D:List Nat)(w:List Nat),rB L (l++D) w↔∃u v,w=u++v/\rB L l u/\rB L D v
 | [],D,w=>by
  constructor
  ·intro h;exact⟨[],w,rfl,rfl,h⟩
  ·rintro⟨u,v,e,o,F⟩;have o:u=[]:=o;subst o;rw[e];exact F
 | m::l,D,w=>by
  constructor
  ·rintro⟨u,v,e,o,F⟩;obtain⟨C,v2,V,I,Q⟩:=(rB.app l D v).1 F;exact⟨u++C,v2,by rw[e,V,LR],⟨u,C,rfl,o,I⟩,Q⟩
  ·rintro⟨u,v,e,⟨U,C,J,o,F⟩,I⟩;exact⟨U,C++v,by rw[e,J,LR],o,(rB.app l D (C++v)).2 ⟨C,v,rfl,F,I⟩⟩
theorem uQ.congr{L L':List Nat->Prop}(h:∀u,L u->L' u){w:List Nat}(o:uQ L w):uQ L' w:=by
 induction o with
 | one hw=>exact .one (h _ hw)
 | more hu _ ih=>exact .more (h _ hu) ih
def Ek(N:List RN):Nat->Nat->List Nat->Prop
 | 0,_,_=>False
 | f+1,n,w=>∃x,N[n]?=some x/\
  ((x.k=0/\∃b,w=[b]/\b<256/\x.f b=true)\/(x.k=1/\rB (Ek N f) x.l w)\/(x.k=2/\∃m,m∈x.l/\Ek N f m w)\/
   (x.k=3/\(w=[]\/∃m,m∈x.l/\uQ (Ek N f m) w))\/(x.k=4/\(w=[]\/∃m,m∈x.l/\Ek N f m w)))
def gI(N:List RN):Prop:=∀(n:Nat)(x:RN),N[n]?=some x->∀m,m∈x.l->m<n
theorem M4{N:List RN}(U:gI N):∀(n f f':Nat),n<f->n<f'->∀w,Ek N f n w->Ek N f' n w:=by
 intro n
 induction n using MT with
 | ind n ih=>
  intro f f' V J w h;obtain⟨f,rfl⟩:∃g,f=g+1:=⟨f-1,by omega⟩
  obtain⟨f',rfl⟩:∃g,f'=g+1:=⟨f'-1,by omega⟩
  obtain⟨x,I,h⟩:=h;have F:∀m,m∈x.l->∀u,Ek N f m u↔Ek N f' m u:=λ m C u=>by
   have:=U n x I m C;exact⟨ih m this f f' (by omega) (by omega) u,ih m this f' f (by omega) (by omega) u⟩
  refine⟨x,I,?_⟩;rcases h with h|⟨D,o⟩|⟨D,m,C,o⟩|⟨D,o⟩|⟨D,o⟩
  ·exact .inl h
  ·exact .inr (.inl ⟨D,(rB.congr x.l w F).1 o⟩)
  ·exact .inr (.inr (.inl ⟨D,m,C,(F m C w).1 o⟩))
  ·refine .inr (.inr (.inr (.inl ⟨D,?_⟩)));rcases o with o|⟨m,C,o⟩
   ·exact .inl o
   ·exact .inr ⟨m,C,o.congr (λ u Q=>(F m C u).1 Q)⟩
  ·refine .inr (.inr (.inr (.inr ⟨D,?_⟩)));rcases o with o|⟨m,C,o⟩
   ·exact .inl o
   ·exact .inr ⟨m,C,(F m C w).1 o⟩
theorem BR{N M:List RN}(Q:gI N):∀(f n:Nat),n<N.length->∀w,Ek (N++M) f n w↔Ek N f n w:=by
 intro f
 induction f with
 | zero=>intro n _ w;exact Iff.rfl
 | succ f ih=>
  intro n U w;have I:(N++M)[n]?=N[n]? :=LO U;unfold Ek;rw[I];constructor
  ·rintro⟨x,I,h⟩;have F:∀m,m∈x.l->∀u,Ek (N++M) f m u↔Ek N f m u:=λ m C u=>ih m (by have:=Q n x I m C;omega) u
   refine⟨x,I,?_⟩;rcases h with h|⟨D,o⟩|⟨D,m,C,o⟩|⟨D,o⟩|⟨D,o⟩
   ·exact .inl h
   ·exact .inr (.inl ⟨D,(rB.congr x.l w F).1 o⟩)
   ·exact .inr (.inr (.inl ⟨D,m,C,(F m C w).1 o⟩))
   ·exact .inr (.inr (.inr (.inl ⟨D,o.imp id (λ⟨m,C,o⟩=>⟨m,C,o.congr (λ u J=>(F m C u).1 J)⟩)⟩)))
   ·exact .inr (.inr (.inr (.inr ⟨D,o.imp id (λ⟨m,C,o⟩=>⟨m,C,(F m C w).1 o⟩)⟩)))
  ·rintro⟨x,I,h⟩;have F:∀m,m∈x.l->∀u,Ek (N++M) f m u↔Ek N f m u:=λ m C u=>ih m (by have:=Q n x I m C;omega) u
   refine⟨x,I,?_⟩;rcases h with h|⟨D,o⟩|⟨D,m,C,o⟩|⟨D,o⟩|⟨D,o⟩
   ·exact .inl h
   ·exact .inr (.inl ⟨D,(rB.congr x.l w F).2 o⟩)
   ·exact .inr (.inr (.inl ⟨D,m,C,(F m C w).2 o⟩))
   ·exact .inr (.inr (.inr (.inl ⟨D,o.imp id (λ⟨m,C,o⟩=>⟨m,C,o.congr (λ u J=>(F m C u).2 J)⟩)⟩)))
   ·exact .inr (.inr (.inr (.inr ⟨D,o.imp id (λ⟨m,C,o⟩=>⟨m,C,(F m C w).2 o⟩)⟩)))
def WN(N:List RN)(n:Nat)(w:List Nat):Prop:=Ek N (n+1) n w
theorem J6{N:List RN}(U:gI N){n:Nat}{x:RN}(Q:N[n]?=some x)(w:List Nat):WN N n w↔
  ((x.k=0/\∃b,w=[b]/\b<256/\x.f b=true)\/(x.k=1/\rB (WN N) x.l w)\/(x.k=2/\∃m,m∈x.l/\WN N m w)\/
   (x.k=3/\(w=[]\/∃m,m∈x.l/\uQ (WN N m) w))\/(x.k=4/\(w=[]\/∃m,m∈x.l/\WN N m w))):=by
 have I:∀m,m∈x.l->∀u,Ek N n m u↔WN N m u:=λ m C u=>by
  have:=U n x Q m C;exact⟨M4 U m n (m+1) this (by omega) u,M4 U m (m+1) n (by omega) this u⟩
 show Ek N (n+1) n w↔_;constructor
 ·rintro⟨V,F,h⟩;rw[Q]at F;injection F with F;subst F;rcases h with h|⟨D,o⟩|⟨D,m,C,o⟩|⟨D,o⟩|⟨D,o⟩
  ·exact .inl h
  ·exact .inr (.inl ⟨D,(rB.congr x.l w I).1 o⟩)
  ·exact .inr (.inr (.inl ⟨D,m,C,(I m C w).1 o⟩))
  ·exact .inr (.inr (.inr (.inl ⟨D,o.imp id (λ⟨m,C,o⟩=>⟨m,C,o.congr (λ u J=>(I m C u).1 J)⟩)⟩)))
  ·exact .inr (.inr (.inr (.inr ⟨D,o.imp id (λ⟨m,C,o⟩=>⟨m,C,(I m C w).1 o⟩)⟩)))
 ·intro h;refine⟨x,Q,?_⟩;rcases h with h|⟨D,o⟩|⟨D,m,C,o⟩|⟨D,o⟩|⟨D,o⟩
  ·exact .inl h
  ·exact .inr (.inl ⟨D,(rB.congr x.l w I).2 o⟩)
  ·exact .inr (.inr (.inl ⟨D,m,C,(I m C w).2 o⟩))
  ·exact .inr (.inr (.inr (.inl ⟨D,o.imp id (λ⟨m,C,o⟩=>⟨m,C,o.congr (λ u J=>(I m C u).2 J)⟩)⟩)))
  ·exact .inr (.inr (.inr (.inr ⟨D,o.imp id (λ⟨m,C,o⟩=>⟨m,C,(I m C w).2 o⟩)⟩)))
theorem IF{N M:List RN}(o:gI N){n:Nat}(hn:n<N.length)(w:List Nat):WN (N++M) n w↔WN N n w:=BR o (n+1) n hn w
theorem gI.snoc{N:List RN}(F:gI N){x:RN}(D:∀m,m∈x.l->m<N.length):gI (N++[x]):=λ n y o m C=>by
 by_cases h:n<N.length
 ·rw[LO h]at o;exact F n y o m C
 ·have I:=(LN.1 o).1;rw[LD,LS]at I;have e:n=N.length:=by omega
  subst e;rw[LU lR,MW]at o;have e:=sJ o
  subst e;exact D m C
theorem mN{N:List RN}(x:RN):(N++[x])[N.length]?=some x:=by rw[LU lR,MW];rfl
def rA(N:List RN):Prop:=∀(n:Nat)(x:RN),N[n]?=some x->x.k<=4/\(x.k=3->∃m,x.l=[m])/\x.l.length<=200
theorem rA.snoc{N:List RN}(h:rA N){x:RN}(C:x.k<=4/\(x.k=3->∃m,x.l=[m])/\x.l.length<=200):rA (N++[x]):=λ n y o=>by
 by_cases e:n<N.length
 ·rw[LO e]at o;exact h n y o
 ·have D:=(LN.1 o).1;rw[LD,LS]at D;have e:n=N.length:=by omega
  subst e;rw[mN]at o;injection o with o;rw[<-o];exact C
def Au(N:List RN):Nat->Nat->Bool
 | 0,_=>false
 | f+1,n=>match N[n]? with
  | none=>false
  | some x=>if x.k=0 then false else if x.k=3\/x.k=4 then true else if x.k=1 then x.l.all (Au N f)else x.l.any (Au N f)
theorem R8{L:Nat->List Nat->Prop}:∀(l:List Nat),rB L l []↔∀m,m∈l->L m []
 | []=>⟨λ _ m I=>absurd I LK,λ _=>rfl⟩
 | m::l=>by
  constructor
  ·rintro⟨u,v,e,D,F⟩ k o;have C:=List.append_eq_nil_iff.1 e.symm;rw[C.1]at D;rw[C.2]at F;rcases MF.1 o with q|q
   ·rw[q];exact D
   ·exact(R8 l).1 F k q
  ·intro h;exact⟨[],[],rfl,h m LG,(R8 l).2 (λ k o=>h k (LI _ o))⟩
theorem Jd{N:List RN}(F:rA N):∀(f n:Nat),Au N f n=true↔Ek N f n []:=by
 intro f
 induction f with
 | zero=>intro n;exact⟨λ h=>(by cases h),λ h=>h.elim⟩
 | succ f ih=>
  intro n;unfold Au Ek
  cases hx:N[n]? with
  | none=>exact⟨λ h=>(by cases h),λ⟨x,h,_⟩=>by cases h⟩
  | some x=>
   have Q:=(F n x hx).1;have I:x.l.all (Au N f)=true↔rB (Ek N f) x.l []:=by
    rw[R8,MQ];exact⟨λ h m C=>(ih m).1 (h m C),λ h m C=>(ih m).2 (h m C)⟩
   have J:x.l.any (Au N f)=true↔∃m,m∈x.l/\Ek N f m []:=by
    rw[NK];exact⟨λ⟨m,C,h⟩=>⟨m,C,(ih m).1 h⟩,λ⟨m,C,h⟩=>⟨m,C,(ih m).2 h⟩⟩
   show(if x.k=0 then false else if x.k=3\/x.k=4 then true else if x.k=1 then x.l.all (Au N f)else x.l.any (Au N f))=true↔_;have D:x.k=0\/x.k=1\/x.k=2\/x.k=3\/x.k=4:=by omega
   rcases D with e|e|e|e|e
   ·rw[aB e];refine⟨λ h=>(by cases h),?_⟩;rintro⟨y,o,h⟩;injection o with o;subst o;rcases h with⟨_,b,h,_⟩|⟨h,_⟩|⟨h,_⟩|⟨h,_⟩|⟨h,_⟩
    ·cases h
    all_goals omega
   ·rw[aA (by omega),aA (by omega),aB e,I];refine⟨λ h=>⟨x,rfl,.inr (.inl ⟨e,h⟩)⟩,?_⟩;rintro⟨y,o,h⟩;injection o with o;subst o;rcases h with⟨h,_⟩|⟨_,h⟩|⟨h,_⟩|⟨h,_⟩|⟨h,_⟩
    ·omega
    ·exact h
    all_goals omega
   ·rw[aA (by omega),aA (by omega),aA (by omega),J];refine⟨λ h=>⟨x,rfl,.inr (.inr (.inl ⟨e,h⟩))⟩,?_⟩;rintro⟨y,o,h⟩;injection o with o;subst o;rcases h with⟨h,_⟩|⟨h,_⟩|⟨_,h⟩|⟨h,_⟩|⟨h,_⟩
    ·omega
    ·omega
    ·exact h
    all_goals omega
   ·rw[aA (by omega),aB (by omega)];exact⟨λ _=>⟨x,rfl,.inr (.inr (.inr (.inl ⟨e,.inl rfl⟩)))⟩,λ _=>rfl⟩
   ·rw[aA (by omega),aB (by omega)];exact⟨λ _=>⟨x,rfl,.inr (.inr (.inr (.inr ⟨e,.inl rfl⟩)))⟩,λ _=>rfl⟩
def xJ(N:List RN)(n:Nat):Bool:=Au N (n+1) n
theorem P7{N:List RN}(o:rA N)(n:Nat):xJ N n=true↔WN N n []:=Jd o (n+1) n
theorem JV{N:List RN}(J:rA N)(F:gI N){n:Nat}{x:RN}(I:N[n]?=some x):
  xJ N n=if x.k=0 then false else if x.k=3\/x.k=4 then true else if x.k=1 then x.l.all (xJ N)else x.l.any (xJ N):=by
 have D:∀m,m∈x.l->Au N n m=xJ N m:=λ m o=>by
  have C:=F n x I m o;rw[NG];unfold xJ;rw[Jd J,Jd J];exact⟨M4 F m n (m+1) C (by omega) [],M4 F m (m+1) n (by omega) C []⟩
 have Q:x.l.all (Au N n)=x.l.all (xJ N):=by
  rw[NG,MQ,MQ];exact⟨λ h m o=>by rw[<-D m o];exact h m o,λ h m o=>by rw[D m o];exact h m o⟩
 have U:x.l.any (Au N n)=x.l.any (xJ N):=by
  rw[NG,NK,NK];exact⟨λ⟨m,o,h⟩=>⟨m,o,by rw[<-D m o];exact h⟩,λ⟨m,o,h⟩=>⟨m,o,by rw[D m o];exact h⟩⟩
 show Au N (n+1) n=_;unfold Au;rw[I];show(if x.k=0 then false else if x.k=3\/x.k=4 then true else if x.k=1 then x.l.all (Au N n)else x.l.any (Au N n))=_;rw[Q,U]
theorem AD(p:Nat->Bool)(l:List Nat){i m:Nat}(h:l[i]?=some m):(l.take (i+1)).all p=((l.take i).all p&&p m):=by
 rw[OF,h,List.all_append];simp
theorem e8(p:Nat->Bool)(l:List Nat){i m:Nat}(h:l[i]?=some m):(l.take (i+1)).any p=((l.take i).any p||p m):=by
 rw[OF,h,List.any_append];simp
theorem vC{t:tB}{b:Int}(C:0<=b)(h:kU t b a=true):a<t.size:=by
 unfold kU at h;rw[aE]at h;apply LP;intro o;rw[jW (by omega)]at h;omega
theorem GN{t:tB}(h:nQ (gF t a)=true):a<t.size:=by
 apply LP;intro o;rw[jW (by omega)]at h
 cases h
theorem Vc{t sp:tB}(h:kV (gF t a) sp=true):a<t.size:=by
 apply LP;intro o;rw[jW (by omega)]at h
 cases h
def tC{α:Type}(t:tB)(ex:Nat->Option (α×Nat)):Prop:=∀a r a',ex a=some (r,a')->a<a'/\a'<=t.size
theorem JA(t:tB):tC t (K9 t):=λ a r a' h=>by
 unfold K9 at h;split at h
 ·rename_i e;have:=vC (by omega) e;injection h with h;injection h with _ h;omega
 ·split at h
  ·rename_i e;have:=vC (by omega) e;injection h with h;injection h with _ h;omega
  ·split at h
   ·rename_i e;have:=GN e.1;injection h with h;injection h with _ h;omega
   ·cases h
theorem F7(t sp:tB):tC t (jK t sp):=λ a r a' h=>by
 unfold jK at h;split at h
 ·have:=JA t _ _ _ h;omega
 ·split at h
  ·rename_i e;have:=Vc e;injection h with h;injection h with _ h;omega
  ·cases h
theorem F5(t:tB)(f:Nat->Bool):tC t (jP t f):=λ a r a' h=>by
 unfold jP at h
 cases e:jK t kJ a with
 | none=>rw[e]at h;cases h
 | some y=>
  obtain⟨x,a1⟩:=y;have C:=F7 _ _ _ _ _ e;rw[e]at h;simp only at h;split at h
  ·injection h with h;injection h with _ h;omega
  ·cases e2:jK t kJ (a1+1)with
   | none=>rw[e2]at h;cases h
   | some y2=>
    obtain⟨F,o⟩:=y2;have D:=F7 _ _ _ _ _ e2;rw[e2]at h;simp only at h;split at h
    ·cases h
    ·injection h with h;injection h with _ h;omega
theorem Re(t:tB):∀(n:Nat)(f:Nat->Bool),tC t (lL t n f):=by
 intro n
 induction n with
 | zero=>intro f a r a' h;cases h
 | succ n ih=>
  intro f a r a' h;rw[lL]at h;split at h
  ·rename_i e;have:=vC (by omega) e;injection h with h;injection h with _ h;omega
  ·cases e:jP t f a with
   | none=>rw[e]at h;cases h
   | some y=>
    obtain⟨x,a1⟩:=y;have o:=F5 _ _ _ _ _ e;rw[e]at h;have C:=ih _ _ _ _ h;omega
theorem Tn(t:tB):tC t (pY t):=λ a r a' h=>by
 unfold pY at h
 cases e:jP t gJ a with
 | none=>rw[e]at h;cases h
 | some y=>
  obtain⟨x,a1⟩:=y;have o:=F5 _ _ _ _ _ e;rw[e]at h;have C:=Re _ _ _ _ _ _ h;omega
theorem IY(t:tB):tC t (K1 t):=λ a r a' h=>by
 unfold K1 at h;split at h
 ·cases e:pY t (a+1)with
  | none=>rw[e]at h;cases h
  | some y=>
   obtain⟨x,a1⟩:=y;have o:=Tn _ _ _ _ e;rw[e]at h;injection h with h;injection h with _ h;omega
 ·exact Tn _ _ _ _ h
theorem Du(t:tB):tC t (jC t):=λ a r a' h=>by
 unfold jC at h;split at h
 ·have:=IY _ _ _ _ h;omega
 ·split at h
  ·rename_i e;have:=vC (by omega) e;injection h with h;injection h with _ h;omega
  ·cases e:jK t kI a with
   | none=>rw[e]at h;cases h
   | some y=>
    obtain⟨x,a1⟩:=y;have o:=F7 _ _ _ _ _ e;rw[e]at h;injection h with h;injection h with _ h;omega
theorem Ic{t:tB}{ex:Nat->Option (Rx×Nat)}(C:tC t ex):tC t (mC t ex):=λ a r a' h=>by
 unfold mC at h;split at h
 ·cases e:ex (a+1)with
  | none=>rw[e]at h;cases h
  | some y=>
   obtain⟨F,o⟩:=y;have D:=C _ _ _ e;rw[e]at h;simp only at h;split at h
   ·rename_i e;have:=vC (by omega) e;injection h with h;injection h with _ h;omega
   ·cases h
 ·cases e:jC t a with
  | none=>rw[e]at h;cases h
  | some y=>
   obtain⟨f,o⟩:=y;have D:=Du _ _ _ _ e;rw[e]at h;injection h with h;injection h with _ h;omega
theorem wS{t:tB}{ex:Nat->Option (Rx×Nat)}(D:tC t ex):tC t (iZ t ex):=λ a r a' h=>by
 unfold iZ at h
 cases e:mC t ex a with
 | none=>rw[e]at h;cases h
 | some y=>
  obtain⟨I,C⟩:=y;have hg:=Ic D _ _ _ e;rw[e]at h;simp only at h;split at h
  ·injection h with h;injection h with _ h;omega
  ·rename_i o;have:C<t.size:=by
    apply LP;intro F;rw[jW (by omega)]at o;exact o rfl
   injection h with h;injection h with _ h;omega
theorem Rn{t:tB}{ex:Nat->Option (Rx×Nat)}(o:tC t ex):∀(n:Nat)(r:Rx)(a:Nat)(r':Rx)(a':Nat),a<=t.size->lX t ex n r a=some (r',a')->a<=a'/\a'<=t.size:=by
 intro n
 induction n with
 | zero=>intro r a r' a' _ h;cases h
 | succ k ih=>
  intro r a r' a' F h;rw[lX]at h;split at h
  ·injection h with h;injection h with _ h;omega
  ·cases e:iZ t ex a with
   | none=>rw[e]at h;cases h
   | some y=>
    obtain⟨I,D⟩:=y;have C:=wS o _ _ _ e;rw[e]at h;have:=ih _ _ _ _ C.2 h;omega
theorem Jt{t:tB}{ex:Nat->Option (Rx×Nat)}(o:tC t ex):tC t (vQ t ex):=λ a r a' h=>by
 unfold vQ at h
 cases e:iZ t ex a with
 | none=>rw[e]at h;cases h
 | some y=>
  obtain⟨F,D⟩:=y;have C:=wS o _ _ _ e;rw[e]at h;have:=Rn o _ _ _ _ _ C.2 h;omega
theorem Lc{t:tB}{ex:Nat->Option (Rx×Nat)}(o:tC t ex):∀(n:Nat)(r:Rx)(a:Nat)(r':Rx)(a':Nat),a<=t.size->kO t ex n r a=some (r',a')->a<=a'/\a'<=t.size:=by
 intro n
 induction n with
 | zero=>intro r a r' a' _ h;cases h
 | succ k ih=>
  intro r a r' a' F h;rw[kO]at h;split at h
  ·injection h with h;injection h with _ h;omega
  ·cases e:vQ t ex (a+1)with
   | none=>rw[e]at h;cases h
   | some y=>
    obtain⟨I,D⟩:=y;have C:=Jt o _ _ _ e;rw[e]at h;have:=ih _ _ _ _ C.2 h;omega
theorem xQ(t:tB):∀f,tC t (kR t f):=by
 intro f
 induction f with
 | zero=>intro a r a' h;cases h
 | succ k ih=>
  intro a r a' h;rw[kR]at h
  cases e:vQ t (kR t k) a with
  | none=>rw[e]at h;cases h
  | some y=>
   obtain⟨D,C⟩:=y;have o:=Jt ih _ _ _ e;rw[e]at h;have:=Lc ih _ _ _ _ _ o.2 h;omega
def uN(t:tB)(a:Nat):Bool:=decide (t.size<=a\/bt t a=41)
def qN(t:tB)(ex:Nat->Option (Rx×Nat))(a:Nat):Option (Rx×Nat):=
 match ex a with
 | none=>none
 | some (r,a1)=>if uN t a1=true then some (r,a1)else none
theorem Sv{t:tB}{ex:Nat->Option (Rx×Nat)}(o:tC t ex):tC t (qN t ex):=λ a r a' h=>by
 unfold qN at h
 cases e:ex a with
 | none=>rw[e]at h;cases h
 | some y=>
  obtain⟨F,C⟩:=y;have D:=o _ _ _ e;rw[e]at h;simp only at h;split at h
  ·injection h with h;injection h with _ h;omega
  ·cases h
theorem Xq(t:tB)(ex:Nat->Option (Rx×Nat))(a:Nat):mC t (qN t ex) a=mC t ex a:=by
 unfold mC;split
 ·unfold qN
  cases e:ex (a+1)with
  | none=>rfl
  | some y=>
   obtain⟨r,a1⟩:=y;simp only;by_cases h:uN t a1=true
   ·rw[aB h]
   ·rw[aA h];have:¬kU t 41 a1=true:=λ C=>h (by
     have o:=vC (by omega) C;unfold kU at C;rw[aE,lK o]at C;unfold uN;rw[aE];omega)
    rw[aA this]
 ·rfl
def nU(B:Nat->List (List Nat))(N:List RN):List Nat->List (List Nat)
 | []=>[]
 | m::l=>(B m).map (·++l)++(if xJ N m=true then nU B N l else [])
def vH(N:List RN)(c:Nat):Nat->Nat->List (List Nat)
 | 0,_=>[]
 | f+1,n=>match N[n]? with
  | none=>[]
  | some x=>if x.k=0 then(if x.f c=true then [[]]else [])
   else if x.k=1 then nU (vH N c f) N x.l
   else if x.k=2\/x.k=4 then x.l.flatMap (vH N c f)
   else match x.l with
    | []=>[]
    | m::_=>(vH N c f m).map (·++[n])
theorem Sp{L:List Nat->Prop}{z w:List Nat}(o:z=c::w)(h:uQ L z):∃u v,w=u++v/\L (c::u)/\(v=[]\/uQ L v):=by
 induction h with
 | one h=>subst o;exact⟨w,[],by simp,h,.inl rfl⟩
 | @more u v hu hv ih=>
  cases u with
  | nil=>exact ih o
  | cons a u=>
   injection o with C D;subst C;exact⟨u,v,D.symm,hu,.inr hv⟩
theorem BY{L:List Nat->Prop}{u v:List Nat}(h:L (c::u))(o:v=[]\/uQ L v):uQ L (c::(u++v)):=by
 rcases o with e|e
 ·rw[e,MA];exact .one h
 ·exact .more (u:=c::u) h e
theorem N4{L:Nat->List Nat->Prop}{w:List Nat}:rB L [n] w↔L n w:=by
 constructor
 ·rintro⟨u,v,e,C,o⟩;have o:v=[]:=o;rw[e,o,MA];exact C
 ·intro h;exact⟨w,[],by simp,h,rfl⟩
def Qf(N:List RN)(c:Nat)(B:Nat->List (List Nat))(n:Nat):Prop:=∀w,(∃y,y∈B n/\rB (WN N) y w)↔WN N n (c::w)
theorem Jn{N:List RN}(J:rA N){c:Nat}{B:Nat->List (List Nat)}:∀(l:List Nat),(∀m,m∈l->Qf N c B m)->∀w,(∃y,y∈nU B N l/\rB (WN N) y w)↔rB (WN N) l (c::w)
 | [],_,w=>by
  constructor
  ·rintro⟨y,o,_⟩;exact absurd o LK
  ·intro h;exact absurd (show c::w=[] from h) (by simp)
 | m::l,hB,w=>by
  have U:=Jn J l (λ k hk=>hB k (LI _ hk)) w;have V:=hB m LG;constructor
  ·rintro⟨y,o,C⟩;rcases LM.1 o with h|h
   ·obtain⟨X,Q,rfl⟩:=LY.1 h;obtain⟨u,v,e,D,F⟩:=(rB.app X l w).1 C;exact⟨c::u,v,by rw[e];rfl,(V u).1 ⟨X,Q,D⟩,F⟩
   ·by_cases I:xJ N m=true
    ·rw[aB I]at h;exact⟨[],c::w,rfl,(P7 J m).1 I,U.1 ⟨y,h,C⟩⟩
    ·rw[aA I]at h;exact absurd h LK
  ·rintro⟨u,v,e,D,F⟩
   cases u with
   | nil=>
    have e:c::w=v:=e;obtain⟨y,o,C⟩:=U.2 (by rw[e];exact F);refine⟨y,LM.2 (.inr ?_),C⟩;rw[aB ((P7 J m).2 D)];exact o
   | cons a u=>
    injection e with Y Z;subst Y;obtain⟨y,o,C⟩:=(V u).2 D;exact⟨y++l,LM.2 (.inl (LY.2 ⟨y,o,rfl⟩)),(rB.app y l w).2 ⟨u,v,Z,C,F⟩⟩
theorem DU{N:List RN}(hs:rA N)(hc:gI N){c:Nat}(hb:c<256):∀(f n:Nat),n<f->n<N.length->Qf N c (vH N c f) n:=by
 intro f
 induction f with
 | zero=>intro n h;omega
 | succ f ih=>
  intro n hn hN w;obtain⟨x,U⟩:∃x,N[n]?=some x:=⟨N[n],LC hN⟩
  have I:∀m,m∈x.l->Qf N c (vH N c f) m:=λ m C=>by
   have:=hc n x U m C;exact ih m (by omega) (by omega)
  rw[J6 hc U];have Z:=hs n x U;have e0:vH N c (f+1) n=if x.k=0 then(if x.f c=true then [[]]else [])
   else if x.k=1 then nU (vH N c f) N x.l
   else if x.k=2\/x.k=4 then x.l.flatMap (vH N c f)
   else match x.l with
    | []=>[]
    | m::_=>(vH N c f m).map (·++[n]):=by
   show(match N[n]? with|none=>_|some x=>_)=_;rw[U]
  rw[e0];have h5:x.k=0\/x.k=1\/x.k=2\/x.k=3\/x.k=4:=by omega
  rcases h5 with e|e|e|e|e
  ·rw[aB e];constructor
   ·rintro⟨y,o,h⟩;by_cases hf:x.f c=true
    ·rw[aB hf,LH]at o;subst o;have h:w=[]:=h;exact .inl ⟨e,c,by rw[h],hb,hf⟩
    ·rw[aA hf]at o;exact absurd o LK
   ·rintro(⟨_,b,F,V,h3⟩|⟨h,_⟩|⟨h,_⟩|⟨h,_⟩|⟨h,_⟩)
    ·injection F with F h4;subst F;exact⟨[],by rw[aB h3];exact LH.2 rfl,h4⟩
    all_goals omega
  ·rw[aA (by omega),aB e,Jn hs x.l I w];constructor
   ·intro h;exact .inr (.inl ⟨e,h⟩)
   ·rintro(⟨h,_⟩|⟨_,h⟩|⟨h,_⟩|⟨h,_⟩|⟨h,_⟩)
    ·omega
    ·exact h
    all_goals omega
  ·rw[aA (by omega),aA (by omega),aB (.inl e)];constructor
   ·rintro⟨y,o,h⟩;obtain⟨m,C,o⟩:=ML.1 o;exact .inr (.inr (.inl ⟨e,m,C,(I m C w).1 ⟨y,o,h⟩⟩))
   ·rintro(⟨h,_⟩|⟨h,_⟩|⟨_,m,C,h⟩|⟨h,_⟩|⟨h,_⟩)
    ·omega
    ·omega
    ·obtain⟨y,o,J⟩:=(I m C w).2 h;exact⟨y,ML.2 ⟨m,C,o⟩,J⟩
    all_goals omega
  ·obtain⟨m,Y⟩:=Z.2.1 e;rw[aA (by omega),aA (by omega),aA (by omega),Y];have C:m∈x.l:=by rw[Y];exact LH.2 rfl
   have D:∀v,WN N n v↔(v=[]\/uQ (WN N m) v):=λ v=>by
    rw[J6 hc U];constructor
    ·rintro(⟨h,_⟩|⟨h,_⟩|⟨h,_⟩|⟨_,h⟩|⟨h,_⟩)
     ·omega
     ·omega
     ·omega
     ·rcases h with h|⟨k,Q,h⟩
      ·exact .inl h
      ·rw[Y,LH]at Q;subst Q;exact .inr h
     ·omega
    ·intro h;refine .inr (.inr (.inr (.inl ⟨e,?_⟩)));rcases h with h|h
     ·exact .inl h
     ·exact .inr ⟨m,C,h⟩
   simp only;constructor
   ·rintro⟨y,o,h⟩;obtain⟨y2,aL,rfl⟩:=LY.1 o;obtain⟨u,v,X,F,V⟩:=(rB.app y2 [n] w).1 h;have hu:=(I m C u).1 ⟨y2,aL,F⟩;have hv:=(D v).1 (N4.1 V);refine .inr (.inr (.inr (.inl ⟨e,.inr ⟨m,LH.2 rfl,?_⟩⟩)));rw[X];exact BY hu hv
   ·rintro(⟨h,_⟩|⟨h,_⟩|⟨h,_⟩|⟨_,h⟩|⟨h,_⟩)
    ·omega
    ·omega
    ·omega
    ·rcases h with h|⟨k,Q,h⟩
     ·exact absurd h (by simp)
     ·rw[LH]at Q;subst Q;obtain⟨u,v,X,F,V⟩:=Sp rfl h;obtain⟨y,o,J⟩:=(I k C u).2 F;exact⟨y++[n],LY.2 ⟨y,o,rfl⟩,(rB.app y [n] w).2 ⟨u,v,X,J,N4.2 ((D v).2 V)⟩⟩
    ·omega
  ·rw[aA (by omega),aA (by omega),aB (.inr e)];constructor
   ·rintro⟨y,o,h⟩;obtain⟨m,C,o⟩:=ML.1 o;exact .inr (.inr (.inr (.inr ⟨e,.inr ⟨m,C,(I m C w).1 ⟨y,o,h⟩⟩⟩)))
   ·rintro(⟨h,_⟩|⟨h,_⟩|⟨h,_⟩|⟨h,_⟩|⟨_,h⟩)
    ·omega
    ·omega
    ·omega
    ·omega
    ·rcases h with h|⟨m,C,h⟩
     ·exact absurd h (by simp)
     ·obtain⟨y,o,J⟩:=(I m C w).2 h;exact⟨y,ML.2 ⟨m,C,o⟩,J⟩
section
def bD(N:List RN)(c n:Nat):List (List Nat):=vH N c (n+1) n
def yH(P:Nat->List (List Nat)):List Nat->List (List Nat)
 | []=>[]
 | m::l=>(P m).map (·++l)++yH P l
def Ng(N:List RN):Nat->Nat->List (List Nat)
 | 0,_=>[]
 | f+1,n=>match N[n]? with
  | none=>[]
  | some x=>if x.k=0 then [[]]
   else if x.k=1 then yH (Ng N f) x.l
   else if x.k=2\/x.k=4 then x.l.flatMap (Ng N f)
   else match x.l with
    | []=>[]
    | m::_=>(Ng N f m).map (·++[n])
def pD(N:List RN)(n:Nat):List (List Nat):=Ng N (n+1) n
theorem tE{B B':Nat->List (List Nat)}{N N':List RN}:∀(l:List Nat),(∀m,m∈l->B m=B' m)->(∀m,m∈l->xJ N m=xJ N' m)->nU B N l=nU B' N' l
 | [],_,_=>rfl
 | m::l,h,k=>by
  unfold nU;rw[h m LG,k m LG,tE l (λ x o=>h x (LI _ o)) (λ x o=>k x (LI _ o))]
theorem zH{B B':Nat->List (List Nat)}:∀(l:List Nat),(∀m,m∈l->B m=B' m)->yH B l=yH B' l
 | [],_=>rfl
 | m::l,h=>by
  unfold yH;rw[h m LG,zH l (λ x o=>h x (LI _ o))]
theorem uH{B B':Nat->List (List Nat)}:∀(l:List Nat),(∀m,m∈l->B m=B' m)->l.flatMap B=l.flatMap B'
 | [],_=>rfl
 | m::l,h=>by
  rw[NH,NH,h m LG,uH l (λ x o=>h x (LI _ o))]
theorem l6{N M:List RN}(J:gI N):∀(f n:Nat),n<N.length->Au (N++M) f n=Au N f n:=by
 intro f
 induction f with
 | zero=>intro n _;rfl
 | succ f ih=>
  intro n D;unfold Au;rw[LO D]
  cases hx:N[n]? with
  | none=>rfl
  | some x=>
   have C:∀m,m∈x.l->Au (N++M) f m=Au N f m:=λ m o=>ih m (by have:=J n x hx m o;omega)
   have F:x.l.all (Au (N++M) f)=x.l.all (Au N f):=by
    rw[NG,MQ,MQ];exact⟨λ h m o=>by rw[<-C m o];exact h m o,λ h m o=>by rw[C m o];exact h m o⟩
   have I:x.l.any (Au (N++M) f)=x.l.any (Au N f):=by
    rw[NG,NK,NK];exact⟨λ⟨m,o,h⟩=>⟨m,o,by rw[<-C m o];exact h⟩,λ⟨m,o,h⟩=>⟨m,o,by rw[C m o];exact h⟩⟩
   simp only[F,I]
theorem Kb{N M:List RN}(o:gI N){n:Nat}(hn:n<N.length):xJ (N++M) n=xJ N n:=l6 o (n+1) n hn
theorem Ty{N N':List RN}(D:N[n]?=N'[n]?)(h:∀x,N[n]?=some x->∀m,m∈x.l->vH N c f m=vH N' c f' m/\xJ N m=xJ N' m):vH N c (f+1) n=vH N' c (f'+1) n:=by
 unfold vH;rw[<-D]
 cases e:N[n]? with
 | none=>rfl
 | some x=>
  have o:=λ m C=>(h x e m C).1
  have F:=λ m C=>(h x e m C).2
  simp only[tE x.l o F,uH x.l o]
  cases hl:x.l with
  | nil=>rfl
  | cons m l=>
   rw[hl]at o;simp only[o m LG]
theorem BC{N N':List RN}(C:N[n]?=N'[n]?)(h:∀x,N[n]?=some x->∀m,m∈x.l->Ng N f m=Ng N' f' m):Ng N (f+1) n=Ng N' (f'+1) n:=by
 unfold Ng;rw[<-C]
 cases e:N[n]? with
 | none=>rfl
 | some x=>
  have o:=h x e;simp only[zH x.l o,uH x.l o]
  cases hl:x.l with
  | nil=>rfl
  | cons m l=>
   rw[hl]at o;simp only[o m LG]
theorem Wr{N:List RN}(D:gI N){c:Nat}:∀(n f f':Nat),n<f->n<f'->vH N c f n=vH N c f' n:=by
 intro n
 induction n using MT with
 | ind n ih=>
  intro f f' I F;obtain⟨f,rfl⟩:∃g,f=g+1:=⟨f-1,by omega⟩
  obtain⟨f',rfl⟩:∃g,f'=g+1:=⟨f'-1,by omega⟩
  exact Ty rfl (λ x o m C=>by
   have:=D n x o m C;exact⟨ih m this f f' (by omega) (by omega),rfl⟩)
theorem Zn{N:List RN}(D:gI N):∀(n f f':Nat),n<f->n<f'->Ng N f n=Ng N f' n:=by
 intro n
 induction n using MT with
 | ind n ih=>
  intro f f' I F;obtain⟨f,rfl⟩:∃g,f=g+1:=⟨f-1,by omega⟩
  obtain⟨f',rfl⟩:∃g,f'=g+1:=⟨f'-1,by omega⟩
  exact BC rfl (λ x o m C=>by
   have:=D n x o m C;exact ih m this f f' (by omega) (by omega))
theorem Wc{N M:List RN}(C:gI N){c:Nat}:∀(f n:Nat),n<N.length->vH (N++M) c f n=vH N c f n:=by
 intro f
 induction f with
 | zero=>intro n _;rfl
 | succ f ih=>
  intro n D;have e:=LO (l₂:=M) D;exact Ty e (λ x o m F=>by
   rw[e]at o;have:=C n x o m F;exact⟨ih m (by omega),Kb C (by omega)⟩)
theorem Zk{N M:List RN}(F:gI N):∀(f n:Nat),n<N.length->Ng (N++M) f n=Ng N f n:=by
 intro f
 induction f with
 | zero=>intro n _;rfl
 | succ f ih=>
  intro n C;have e:=LO (l₂:=M) C;exact BC e (λ x o m D=>by
   rw[e]at o;have:=F n x o m D;exact ih m (by omega))
theorem E7{N M:List RN}(o:gI N){c n:Nat}(hn:n<N.length):bD (N++M) c n=bD N c n:=Wc o (n+1) n hn
theorem P2{N M:List RN}(o:gI N){n:Nat}(hn:n<N.length):pD (N++M) n=pD N n:=Zk o (n+1) n hn
theorem Q1{N:List RN}(D:gI N){c n:Nat}{x:RN}(C:N[n]?=some x):bD N c n=if x.k=0 then(if x.f c=true then [[]]else [])
   else if x.k=1 then nU (bD N c) N x.l
   else if x.k=2\/x.k=4 then x.l.flatMap (bD N c)
   else match x.l with
    | []=>[]
    | m::_=>(bD N c m).map (·++[n]):=by
 have o:∀m,m∈x.l->vH N c n m=bD N c m:=λ m F=>by
  have:=D n x C m F;exact Wr D m n (m+1) this (by omega)
 show vH N c (n+1) n=_;unfold vH;rw[C];simp only[tE (N:=N) (N':=N) x.l o (λ _ _=>rfl),uH x.l o]
 cases hl:x.l with
 | nil=>rfl
 | cons m l=>
  rw[hl]at o;simp only[o m LG]
theorem H8{N:List RN}(D:gI N){n:Nat}{x:RN}(C:N[n]?=some x):pD N n=if x.k=0 then [[]]
   else if x.k=1 then yH (pD N) x.l
   else if x.k=2\/x.k=4 then x.l.flatMap (pD N)
   else match x.l with
    | []=>[]
    | m::_=>(pD N m).map (·++[n]):=by
 have o:∀m,m∈x.l->Ng N n m=pD N m:=λ m F=>by
  have:=D n x C m F;exact Zn D m n (m+1) this (by omega)
 show Ng N (n+1) n=_;unfold Ng;rw[C];simp only[zH x.l o,uH x.l o]
 cases hl:x.l with
 | nil=>rfl
 | cons m l=>
  rw[hl]at o;simp only[o m LG]
def zQ(l:List (List Nat))(k:Nat):Prop:=∃S:List (List Nat),S.length<=k/\∀y,y∈l->y∈S
theorem zQ.nil:zQ [] 0:=⟨[],lR,λ _ o=>o⟩
theorem zQ.map{l:List (List Nat)}(h:zQ l k)(g:List Nat->List Nat):zQ (l.map g) k:=by
 obtain⟨S,o,C⟩:=h;refine⟨S.map g,by rw[NB];exact o,λ y F=>?_⟩;obtain⟨z,D,rfl⟩:=LY.1 F;exact LY.2 ⟨z,C z D,rfl⟩
theorem zQ.app{l m:List (List Nat)}(h:zQ l k)(D:zQ m j):zQ (l++m) (k+j):=by
 obtain⟨S,I,C⟩:=h;obtain⟨T,J,o⟩:=D;refine⟨S++T,by rw[LD];omega,λ y F=>?_⟩;rcases LM.1 F with e|e
 ·exact LM.2 (.inl (C y e))
 ·exact LM.2 (.inr (o y e))
theorem zQ.sub{l m:List (List Nat)}(h:zQ l k)(D:∀y,y∈m->y∈l):zQ m k:=by
 obtain⟨S,o,C⟩:=h;exact⟨S,o,λ y F=>C y (D y F)⟩
inductive K3 (N:List RN) (n:Nat):Nat->Prop
 | refl:K3 N n n
 | step {m j:Nat}{x:RN}:K3 N n m->N[m]?=some x->j∈x.l->K3 N n j
theorem K3.trans{N:List RN}(h:K3 N n m)(o:K3 N m k):K3 N n k:=by
 induction o with
 | refl=>exact h
 | step _ e hj ih=>exact .step ih e hj
theorem K3.less{N M:List RN}(D:gI N){n m:Nat}(hn:n<N.length)(h:K3 (N++M) n m):m<N.length/\K3 N n m:=by
 induction h with
 | refl=>exact⟨hn,.refl⟩
 | step _ e hj ih=>
  obtain⟨o,C⟩:=ih;rw[LO o]at e;have:=D _ _ e _ hj;exact⟨by omega,.step C e hj⟩
theorem K3.new{N:List RN}(F:gI N){x:RN}(J:∀m,m∈x.l->m<N.length){m:Nat}(h:K3 (N++[x]) N.length m):m=N.length\/∃j,j∈x.l/\m<N.length/\K3 N j m:=by
 induction h with
 | refl=>exact .inl rfl
 | @step m k y _ e hk o=>
  right;rcases o with o|⟨j,C,D,I⟩
  ·rw[o,mN]at e;injection e with e;subst e;exact⟨k,hk,J k hk,.refl⟩
  ·rw[LO D]at e;have:=F _ _ e _ hk;exact⟨j,C,by omega,.step I e hk⟩
theorem K3.lt{N:List RN}(o:gI N){n m:Nat}(hn:n<N.length)(h:K3 N n m):m<N.length:=(K3.less (M:= []) o hn (by rw[MA];exact h)).1
def Tr(N:List RN)(n k:Nat):Prop:=zQ (pD N n) k/\∀m,K3 N n m->∀c,(bD N c m).length<=k
inductive Zd (N:List RN):List Nat->Nat->Prop
 | nil:Zd N [] 0
 | cons {n k j:Nat}{l:List Nat}:Tr N n k->Zd N l j->Zd N (n::l) (k+j)
theorem Tr.more{N:List RN}(h:Tr N n k)(o:gI N)(M:List RN)(hn:n<N.length):Tr (N++M) n k:=by
 refine⟨by rw[P2 o hn];exact h.1,λ m C c=>?_⟩;obtain⟨D,F⟩:=C.less o hn;rw[E7 o D];exact h.2 m F c
theorem U5{N:List RN}(o:gI N){x:RN}(Q:∀m,m∈x.l->m<N.length){k:Nat}(h:∀j,j∈x.l->∀m,K3 N j m->∀c,(bD N c m).length<=k)(D:∀c,(bD (N++[x]) c N.length).length<=k):
  ∀m,K3 (N++[x]) N.length m->∀c,(bD (N++[x]) c m).length<=k:=λ m C c=>by
 rcases C.new o Q with e|⟨j,F,I,J⟩
 ·rw[e];exact D c
 ·rw[E7 o I];exact h j F m J c
theorem AV(N:List RN)(D:gI N)(f:Nat->Bool):Tr (N++[⟨0,[],f⟩]) N.length 1:=by
 refine⟨⟨[[]],lR,λ y C=>?_⟩,U5 D (λ m o=>absurd o LK) (λ m o=>absurd o LK) (λ c=>?_)⟩
 ·unfold pD Ng at C;rw[mN]at C;exact C
 ·unfold bD vH;rw[mN];simp only[if_true];split<;>simp
section
variable {N:List RN}
theorem Hd(C:gI N){M:List RN}{c:Nat}{l:List Nat}(D:∀m,m∈l->m<N.length):nU (bD (N++M) c) (N++M) l=nU (bD N c) N l:=
 tE l (λ m o=>E7 C (D m o)) (λ m o=>Kb C (D m o))
theorem Fv(C:gI N){M:List RN}{l:List Nat}(D:∀m,m∈l->m<N.length):yH (pD (N++M)) l=yH (pD N) l:=zH l (λ m o=>P2 C (D m o))
theorem EV(C:gI N){n k:Nat}(hn:n<N.length)(h:Tr N n k)(f:Nat->Bool):Tr (N++[⟨3,[n],f⟩]) N.length k:=by
 have o:=C.snoc (x:=⟨3,[n],f⟩) (λ m D=>by rw[LH.1 D];exact hn);refine⟨?_,U5 C (λ m D=>by rw[LH.1 D];exact hn) (λ j F=>by rw[LH.1 F];exact h.2) (λ c=>?_)⟩
 ·rw[H8 o (mN _)];simp only[show¬(3:Nat)=0 by decide,show¬(3:Nat)=1 by decide,show¬((3:Nat)=2\/(3:Nat)=4) by decide,if_false,P2 C hn];exact h.1.map _
 ·rw[Q1 o (mN _)];simp only[show¬(3:Nat)=0 by decide,show¬(3:Nat)=1 by decide,show¬((3:Nat)=2\/(3:Nat)=4) by decide,if_false,E7 C hn,NB];exact h.2 n .refl c
theorem JY(C:gI N){n k:Nat}(hn:n<N.length)(h:Tr N n k)(f:Nat->Bool):Tr (N++[⟨4,[n],f⟩]) N.length k:=by
 have o:=C.snoc (x:=⟨4,[n],f⟩) (λ m D=>by rw[LH.1 D];exact hn);refine⟨?_,U5 C (λ m D=>by rw[LH.1 D];exact hn) (λ j F=>by rw[LH.1 F];exact h.2) (λ c=>?_)⟩
 ·rw[H8 o (mN _)];simp only[show¬(4:Nat)=0 by decide,show¬(4:Nat)=1 by decide,if_false,NH,OU,MA,P2 C hn];exact h.1
 ·rw[Q1 o (mN _)];simp only[show¬(4:Nat)=0 by decide,show¬(4:Nat)=1 by decide,if_false,NH,OU,MA,E7 C hn];exact h.2 n .refl c
theorem Zd.row(h:Zd N l k):zQ (yH (pD N) l) k/\∀c,(nU (bD N c) N l).length<=k:=by
 induction h with
 | nil=>exact⟨zQ.nil,λ _=>lR⟩
 | cons h1 _ ih=>
  refine⟨(h1.1.map _).app ih.1,λ c=>?_⟩;unfold nU;rw[LD,NB];have a:=h1.2 _ .refl c;have b:=ih.2 c;split
  ·omega
  ·simp only[NQ];omega
theorem Zd.or(h:Zd N l k):zQ (l.flatMap (pD N)) k/\∀c,(l.flatMap (bD N c)).length<=k:=by
 induction h with
 | nil=>exact⟨zQ.nil,λ _=>lR⟩
 | cons h1 _ ih=>
  refine⟨by rw[NH];exact h1.1.app ih.1,λ c=>?_⟩;rw[NH,LD];have a:=h1.2 _ .refl c;have b:=ih.2 c;omega
theorem Zd.all(h:Zd N l k):∀j,j∈l->∀m,K3 N j m->∀c,(bD N c m).length<=k:=by
 induction h with
 | nil=>intro j C;exact absurd C LK
 | cons h1 _ ih=>
  intro j C m o c;rcases MF.1 C with e|e
  ·rw[e]at o;have:=h1.2 m o c;omega
  ·have:=ih j e m o c;omega
theorem JG(C:gI N){l:List Nat}{k:Nat}(D:∀m,m∈l->m<N.length)(h:Zd N l k)(f:Nat->Bool):Tr (N++[⟨1,l,f⟩]) N.length k:=by
 have o:=C.snoc (x:=⟨1,l,f⟩) D;refine⟨?_,U5 C D h.all (λ c=>?_)⟩
 ·rw[H8 o (mN _)];simp only[show¬(1:Nat)=0 by decide,if_false,if_true,Fv C D];exact h.row.1
 ·rw[Q1 o (mN _)];simp only[show¬(1:Nat)=0 by decide,if_false,if_true,Hd C D];exact h.row.2 c
theorem KP(C:gI N){l:List Nat}{k:Nat}(D:∀m,m∈l->m<N.length)(h:Zd N l k)(f:Nat->Bool):Tr (N++[⟨2,l,f⟩]) N.length k:=by
 have o:=C.snoc (x:=⟨2,l,f⟩) D;refine⟨?_,U5 C D h.all (λ c=>?_)⟩
 ·rw[H8 o (mN _)];simp only[show¬(2:Nat)=0 by decide,show¬(2:Nat)=1 by decide,if_false,uH l (λ m F=>P2 C (D m F))];exact h.or.1
 ·rw[Q1 o (mN _)];simp only[show¬(2:Nat)=0 by decide,show¬(2:Nat)=1 by decide,if_false,uH l (λ m F=>E7 C (D m F))];exact h.or.2 c
theorem DV(C:gI N){n s k:Nat}(hn:n<N.length)(h:Tr N n k)(V:s<N.length)(Y:Tr N s k)(I:∃f,N[s]?=some ⟨3,[n],f⟩)(U:xJ N n=false)(f:Nat->Bool):Tr (N++[⟨1,[n,s],f⟩]) N.length k:=by
 have F:∀m,m∈ [n,s]->m<N.length:=λ m X=>by
  rcases MF.1 X with e|e
  ·rw[e];exact hn
  ·rw[LH.1 e];exact V
 have o:=C.snoc (x:=⟨1,[n,s],f⟩) F;obtain⟨g,I⟩:=I;refine⟨?_,U5 C F (λ j Q=>by
  rcases MF.1 Q with e|e
  ·rw[e];exact h.2
  ·rw[LH.1 e];exact Y.2) (λ c=>?_)⟩
 ·rw[H8 o (mN _)];simp only[show¬(1:Nat)=0 by decide,if_false,if_true,Fv C F];refine(h.1.map (·++[s])).sub (λ y J=>?_);have D:=H8 C I;simp only[show¬(3:Nat)=0 by decide,show¬(3:Nat)=1 by decide,show¬((3:Nat)=2\/(3:Nat)=4) by decide,if_false]at D;simp only[yH,D,MA,PE]at J;rcases LM.1 J with e|e
  ·exact e
  ·exact e
 ·rw[Q1 o (mN _)];simp only[show¬(1:Nat)=0 by decide,if_false,if_true,Hd C F];unfold nU;rw[U];simp only[ON,if_false,MA,NB];exact h.2 n .refl c
theorem Ei{B P:Nat->List (List Nat)}:∀(l:List Nat),(∀m,m∈l->∀y,y∈B m->y∈P m)->∀y,y∈nU B N l->y∈yH P l
 | [],_,y,hy=>hy
 | m::l,h,y,hy=>by
  unfold nU at hy;unfold yH;rcases LM.1 hy with e|e
  ·obtain⟨z,C,rfl⟩:=LY.1 e;exact LM.2 (.inl (LY.2 ⟨z,h m LG z C,rfl⟩))
  ·split at e
   ·exact LM.2 (.inr (Ei l (λ x o=>h x (LI _ o)) y e))
   ·exact absurd e LK
theorem Cq(F:gI N){c:Nat}:∀n,n<N.length->∀y,y∈bD N c n->y∈pD N n:=by
 intro n
 induction n using MT with
 | ind n ih=>
  intro J y o;obtain⟨x,D⟩:∃x,N[n]?=some x:=⟨N[n],LC J⟩
  rw[Q1 F D]at o;rw[H8 F D];have C:∀m,m∈x.l->∀y,y∈bD N c m->y∈pD N m:=λ m C=>by
   have:=F n x D m C;exact ih m this (by omega)
  split at o
  ·rename_i e;rw[aB e];split at o
   ·exact o
   ·exact absurd o LK
  ·rename_i e;rw[aA e];split at o
   ·rename_i e;rw[aB e];exact Ei x.l C y o
   ·rename_i e;rw[aA e];split at o
    ·rename_i e;rw[aB e];obtain⟨m,I,Q⟩:=ML.1 o;exact ML.2 ⟨m,I,C m I y Q⟩
    ·rename_i e;rw[aA e]
     cases hl:x.l with
     | nil=>rw[hl]at o;exact o
     | cons m l=>
      rw[hl]at o;simp only at o⊢;obtain⟨z,U,rfl⟩:=LY.1 o;exact LY.2 ⟨z,C m (by rw[hl];exact LG) z U,rfl⟩
theorem Cp{B:Nat->List (List Nat)}:∀(a b:List Nat)(z:List Nat),z∈nU B N (a++b)->(∃o,o∈nU B N a/\z=o++b)\/z∈nU B N b
 | [],b,z,h=> .inr h
 | m::a,b,z,h=>by
  rw[OS]at h;unfold nU at h;rcases LM.1 h with e|e
  ·obtain⟨y,D,rfl⟩:=LY.1 e;refine .inl ⟨y++a,?_,by rw[LR]⟩;unfold nU;exact LM.2 (.inl (LY.2 ⟨y,D,rfl⟩))
  ·split at e
   ·rename_i I;rcases Cp a b z e with⟨o,C,F⟩|C
    ·refine .inl ⟨o,?_,F⟩;unfold nU;rw[aB I];exact LM.2 (.inr C)
    ·exact .inr C
   ·exact absurd e LK
theorem Hh{B P:Nat->List (List Nat)}:∀(l:List Nat),(∀m,m∈l->∀y,y∈B m->y∈P m)->(∀m,m∈l->∀y,y∈P m->∀z,z∈nU B N y->z∈P m)->∀y,y∈yH P l->∀z,z∈nU B N y->z∈yH P l
 | [],_,_,y,hy,z,_=>absurd hy LK
 | m::l,h,k,y,hy,z,hz=>by
  unfold yH at hy;unfold yH;rcases LM.1 hy with e|e
  ·obtain⟨F,D,rfl⟩:=LY.1 e;rcases Cp F l z hz with⟨I,C,J⟩|C
   ·rw[J];exact LM.2 (.inl (LY.2 ⟨I,k m LG F D I C,rfl⟩))
   ·exact LM.2 (.inr (Ei l (λ x o=>h x (LI _ o)) z C))
  ·exact LM.2 (.inr (Hh l (λ x o=>h x (LI _ o)) (λ x o=>k x (LI _ o)) y e z hz))
theorem DP(J:gI N){c:Nat}:∀n,n<N.length->∀y,y∈pD N n->∀z,z∈nU (bD N c) N y->z∈pD N n:=by
 intro n
 induction n using MT with
 | ind n ih=>
  intro hn y o z F;obtain⟨x,V⟩:∃x,N[n]?=some x:=⟨N[n],LC hn⟩
  have I:∀m,m∈x.l->∀y,y∈bD N c m->y∈pD N m:=λ m I=>by
   have:=J n x V m I;exact Cq J m (by omega)
  have U:∀m,m∈x.l->∀y,y∈pD N m->∀z,z∈nU (bD N c) N y->z∈pD N m:=λ m I=>by
   have:=J n x V m I;exact ih m this (by omega)
  have D:=Cq J (c:=c) n hn;rw[H8 J V]at o D⊢;split at o
  ·rename_i e;rw[LH.1 o]at F;exact absurd F LK
  ·rename_i e;rw[aA e]at D⊢;split at o
   ·rename_i e;rw[aB e];exact Hh x.l I U y o z F
   ·rename_i e;rw[aA e]at D⊢;split at o
    ·rename_i e;rw[aB e];obtain⟨m,C,X⟩:=ML.1 o;exact ML.2 ⟨m,C,U m C y X z F⟩
    ·rename_i e;rw[aA e]at D ⊢
     cases hl:x.l with
     | nil=>rw[hl]at o;exact absurd o LK
     | cons m l=>
      rw[hl]at o D;simp only at o D⊢;obtain⟨Y,Q,rfl⟩:=LY.1 o;rcases Cp Y [n] z F with⟨Z,C,X⟩|C
      ·rw[X];exact LY.2 ⟨Z,U m (by rw[hl];exact LG) Y Q Z C,rfl⟩
      ·have C:z∈bD N c n:=by
        unfold nU at C;rcases LM.1 C with e|e
        ·simpa using e
        ·unfold nU at e;split at e<;>exact absurd e LK
       exact D z C
theorem Ln{P:Nat->List (List Nat)}:∀(l:List Nat),(∀m,m∈l->K3 N n m)->(∀m,m∈l->∀y,y∈P m->∀k,k∈y->K3 N m k)->∀y,y∈yH P l->∀k,k∈y->K3 N n k
 | [],_,_,y,hy=>absurd hy LK
 | m::l,h,h2,y,hy=>λ k D=>by
  unfold yH at hy;rcases LM.1 hy with e|e
  ·obtain⟨F,C,rfl⟩:=LY.1 e;rcases LM.1 D with e|e
   ·exact(h m LG).trans (h2 m LG F C k e)
   ·exact h k (LI _ e)
  ·exact Ln l (λ x o=>h x (LI _ o)) (λ x o=>h2 x (LI _ o)) y e k D
theorem p7(V:gI N):∀n,n<N.length->∀y,y∈pD N n->∀k,k∈y->K3 N n k:=by
 intro n
 induction n using MT with
 | ind n ih=>
  intro Y y o k D;obtain⟨x,J⟩:∃x,N[n]?=some x:=⟨N[n],LC Y⟩
  have Q:∀m,m∈x.l->K3 N n m:=λ m C=> .step .refl J C
  have C:∀m,m∈x.l->∀y,y∈pD N m->∀k,k∈y->K3 N m k:=λ m C=>by
   have:=V n x J m C;exact ih m this (by omega)
  rw[H8 V J]at o;split at o
  ·rw[LH.1 o]at D;exact absurd D LK
  ·split at o
   ·exact Ln x.l Q C y o k D
   ·split at o
    ·obtain⟨m,U,Z⟩:=ML.1 o;exact(Q m U).trans (C m U y Z k D)
    ·cases hl:x.l with
     | nil=>rw[hl]at o;exact absurd o LK
     | cons m l=>
      rw[hl]at o;simp only at o;obtain⟨X,I,rfl⟩:=LY.1 o;have F:m∈x.l:=by rw[hl];exact LG
      rcases LM.1 D with e|e
      ·exact(Q m F).trans (C m F X I k e)
      ·rw[LH.1 e];exact .refl
theorem Lq{P:Nat->List (List Nat)}{B:Nat}:∀(l:List Nat),(∀m,m∈l->m<n)->(∀m,m∈l->∀y,y∈P m->(∀k,k∈y->k<=m)/\y.length<=B)->∀y,y∈yH P l->(∀k,k∈y->k<n)/\y.length<=B+l.length
 | [],_,_,y,hy=>absurd hy LK
 | m::l,h,k,y,hy=>by
  unfold yH at hy;rcases LM.1 hy with e|e
  ·obtain⟨F,C,rfl⟩:=LY.1 e;obtain⟨a,b⟩:=k m LG F C;refine⟨λ q D=>?_,by simp only[LD,MB];omega⟩;rcases LM.1 D with e|e
   ·have:=a q e;have:=h m LG;omega
   ·exact h q (LI _ e)
  ·obtain⟨a,b⟩:=Lq l (λ x o=>h x (LI _ o)) (λ x o=>k x (LI _ o)) y e;exact⟨a,by rw[MB];omega⟩
theorem Pc(Q:gI N)(hs:rA N):∀n,n<N.length->∀y,y∈pD N n->(∀k,k∈y->k<=n)/\y.length<=201*(n+1):=by
 intro n
 induction n using MT with
 | ind n ih=>
  intro Y y o;obtain⟨x,I⟩:∃x,N[n]?=some x:=⟨N[n],LC Y⟩
  have C:∀m,m∈x.l->∀y,y∈pD N m->(∀k,k∈y->k<=m)/\y.length<=201*n:=λ m F y o=>by
   have:=Q n x I m F;obtain⟨a,b⟩:=ih m this (by omega) y o;exact⟨a,by omega⟩
  have F:=Q n x I;have aL:=(hs n x I).2.2;rw[H8 Q I]at o;split at o
  ·rw[LH.1 o];exact⟨λ k C=>absurd C LK,by simp⟩
  ·split at o
   ·obtain⟨a,b⟩:=Lq x.l F C y o;exact⟨λ k C=>NS (a k C),by omega⟩
   ·split at o
    ·obtain⟨m,U,Z⟩:=ML.1 o;obtain⟨a,b⟩:=C m U y Z;have:=F m U;exact⟨λ k C=>by have:=a k C;omega,by omega⟩
    ·cases hl:x.l with
     | nil=>rw[hl]at o;exact absurd o LK
     | cons m l=>
      rw[hl]at o;simp only at o;obtain⟨X,J,rfl⟩:=LY.1 o;have D:m∈x.l:=by rw[hl];exact LG
      obtain⟨a,b⟩:=C m D X J;have:=F m D;refine⟨λ q V=>?_,by rw[LD,LS];omega⟩;rcases LM.1 V with e|e
      ·have:=a q e;omega
      ·rw[LH.1 e];exact lR
end
end
def C1(N:List RN)(n:Nat)(r:Rx):Prop:=n<N.length/\∀w,WN N n w↔W r w
theorem C1.more{N:List RN}(o:gI N){n:Nat}{r:Rx}(h:C1 N n r)(M:List RN):C1 (N++M) n r:=
 ⟨by rw[LD];have:=h.1;omega,λ w=>(IF o h.1 w).trans (h.2 w)⟩
theorem Rj{N:List RN}(D:gI N)(f:Nat->Bool):C1 (N++[⟨0,[],f⟩]) N.length (.pl f):=by
 have o:=D.snoc (x:=⟨0,[],f⟩) (λ m C=>absurd C LK);refine⟨by simp,λ w=>?_⟩;rw[J6 o (mN _)];constructor
 ·rintro(⟨_,h⟩|⟨h,_⟩|⟨h,_⟩|⟨h,_⟩|⟨h,_⟩)
  ·exact h
  ·cases h
  ·cases h
  ·cases h
  ·cases h
 ·intro h;exact .inl ⟨rfl,h⟩
theorem Wj{N:List RN}(I:gI N){n:Nat}{r:Rx}(h:C1 N n r)(f:Nat->Bool):C1 (N++[⟨3,[n],f⟩]) N.length (.star r):=by
 have F:=I.snoc (x:=⟨3,[n],f⟩) (λ m o=>by rw[LH.1 o];exact h.1);have o:=h.more I [⟨3,[n],f⟩];refine⟨by simp,λ w=>?_⟩;rw[J6 F (mN _)];constructor
 ·rintro(⟨h,_⟩|⟨h,_⟩|⟨h,_⟩|⟨_,h⟩|⟨h,_⟩)
  ·cases h
  ·cases h
  ·cases h
  ·rcases h with h|⟨m,D,h⟩
   ·exact .inl h
   ·rw[LH.1 D]at h;exact .inr (h.congr (λ u C=>(o.2 u).1 C))
  ·cases h
 ·intro h;refine .inr (.inr (.inr (.inl ⟨rfl,?_⟩)));rcases h with h|h
  ·exact .inl h
  ·exact .inr ⟨n,LH.2 rfl,h.congr (λ u C=>(o.2 u).2 C)⟩
theorem o5{N:List RN}(F:gI N){n:Nat}{r:Rx}(h:C1 N n r)(f:Nat->Bool):C1 (N++[⟨4,[n],f⟩]) N.length (.opt r):=by
 have D:=F.snoc (x:=⟨4,[n],f⟩) (λ m o=>by rw[LH.1 o];exact h.1);have o:=h.more F [⟨4,[n],f⟩];refine⟨by simp,λ w=>?_⟩;rw[J6 D (mN _)];constructor
 ·rintro(⟨h,_⟩|⟨h,_⟩|⟨h,_⟩|⟨h,_⟩|⟨_,h⟩)
  ·cases h
  ·cases h
  ·cases h
  ·cases h
  ·rcases h with h|⟨m,C,h⟩
   ·exact .inl h
   ·rw[LH.1 C]at h;exact .inr ((o.2 w).1 h)
 ·intro h;refine .inr (.inr (.inr (.inr ⟨rfl,?_⟩)));rcases h with h|h
  ·exact .inl h
  ·exact .inr ⟨n,LH.2 rfl,(o.2 w).2 h⟩
def yA:Rx->List Rx->Rx
 | r,[]=>r
 | r,r2::l=>yA (.cat r r2) l
def G0:Rx->List Rx->Rx
 | r,[]=>r
 | r,r2::l=>G0 (.alt r r2) l
inductive wI (N:List RN):List Nat->List Rx->Prop
 | nil:wI N [] []
 | cons {n:Nat}{r:Rx}{l:List Nat}{rs:List Rx}:C1 N n r->wI N l rs->wI N (n::l) (r::rs)
theorem wI.more{N:List RN}(o:gI N){l:List Nat}{rs:List Rx}(h:wI N l rs)(M:List RN):wI (N++M) l rs:=by
 induction h with
 | nil=>exact .nil
 | cons h1 _ ih=>exact .cons (h1.more o M) ih
theorem wI.lt{N:List RN}{rs:List Rx}(h:wI N l rs):∀m,m∈l->m<N.length:=by
 induction h with
 | nil=>intro m o;exact absurd o LK
 | cons h1 _ ih=>
  intro m o;rcases MF.1 o with e|e
  ·rw[e];exact h1.1
  ·exact ih m e
theorem b9:∀(rs:List Rx)(r:Rx)(w:List Nat),W (yA r rs) w↔∃u v,w=u++v/\W r u/\(rs.foldr (λ(x:Rx)(P:List Nat->Prop)=>λ z=>∃a b,z=a++b/\W x a/\P b) (λ z=>z=[])) v
 | [],r,w=>by
  constructor
  ·intro h;exact⟨w,[],by simp,h,rfl⟩
  ·rintro⟨u,v,e,C,o⟩;have o:v=[]:=o;subst o;rw[e,MA];exact C
 | r2::l,r,w=>by
  show W (yA (.cat r r2) l) w↔_;rw[b9 l];constructor
  ·rintro⟨u,v,e,⟨a,b,F,C,o⟩,D⟩;exact⟨a,b++v,by rw[e,F,LR],C,b,v,rfl,o,D⟩
  ·rintro⟨u,v,e,C,b,c,F,o,D⟩;exact⟨u++b,c,by rw[e,F,LR],⟨u,b,rfl,C,o⟩,D⟩
theorem wI.cat{N:List RN}{rs:List Rx}(h:wI N l rs):∀v,rB (WN N) l v↔(rs.foldr (λ(x:Rx)(P:List Nat->Prop)=>λ z=>∃a b,z=a++b/\W x a/\P b) (λ z=>z=[])) v:=by
 induction h with
 | nil=>intro v;exact Iff.rfl
 | cons h1 _ ih=>
  intro v;constructor
  ·rintro⟨a,b,e,x,y⟩;exact⟨a,b,e,(h1.2 a).1 x,(ih b).1 y⟩
  ·rintro⟨a,b,e,x,y⟩;exact⟨a,b,e,(h1.2 a).2 x,(ih b).2 y⟩
theorem Nq{N:List RN}(C:gI N){l:List Nat}{r:Rx}{rs:List Rx}(h:wI N l (r::rs))(f:Nat->Bool):C1 (N++[⟨1,l,f⟩]) N.length (yA r rs):=by
 have o:=C.snoc (x:=⟨1,l,f⟩) h.lt;have D:=h.more C [⟨1,l,f⟩];refine⟨by simp,λ w=>?_⟩;rw[J6 o (mN _),b9];have e:=D.cat w;constructor
 ·rintro(⟨h,_⟩|⟨_,h⟩|⟨h,_⟩|⟨h,_⟩|⟨h,_⟩)
  ·cases h
  ·exact e.1 h
  ·cases h
  ·cases h
  ·cases h
 ·intro h;exact .inr (.inl ⟨rfl,e.2 h⟩)
theorem l7:∀(rs:List Rx)(r:Rx)(w:List Nat),W (G0 r rs) w↔W r w\/∃x,x∈rs/\W x w
 | [],r,w=>by
  constructor
  ·intro h;exact .inl h
  ·rintro(h|⟨x,o,_⟩)
   ·exact h
   ·exact absurd o LK
 | r2::l,r,w=>by
  show W (G0 (.alt r r2) l) w↔_;rw[l7 l];constructor
  ·rintro((h|h)|⟨x,o,h⟩)
   ·exact .inl h
   ·exact .inr ⟨r2,LG,h⟩
   ·exact .inr ⟨x,LI _ o,h⟩
  ·rintro(h|⟨x,o,h⟩)
   ·exact .inl (.inl h)
   ·rcases MF.1 o with e|e
    ·subst e;exact .inl (.inr h)
    ·exact .inr ⟨x,e,h⟩
theorem wI.any{N:List RN}{rs:List Rx}(h:wI N l rs)(w:List Nat):(∃m,m∈l/\WN N m w)↔∃x,x∈rs/\W x w:=by
 induction h with
 | nil=>exact⟨λ⟨m,o,_⟩=>absurd o LK,λ⟨m,o,_⟩=>absurd o LK⟩
 | @cons n r l rs h1 _ ih=>
  constructor
  ·rintro⟨m,o,h⟩;rcases MF.1 o with e|e
   ·subst e;exact⟨r,LG,(h1.2 w).1 h⟩
   ·obtain⟨x,C,h⟩:=ih.1 ⟨m,e,h⟩;exact⟨x,LI _ C,h⟩
  ·rintro⟨m,o,h⟩;rcases MF.1 o with e|e
   ·subst e;exact⟨n,LG,(h1.2 w).2 h⟩
   ·obtain⟨x,C,h⟩:=ih.2 ⟨m,e,h⟩;exact⟨x,LI _ C,h⟩
theorem DW{N:List RN}(I:gI N){l:List Nat}{r:Rx}{rs:List Rx}(h:wI N l (r::rs))(f:Nat->Bool):C1 (N++[⟨2,l,f⟩]) N.length (G0 r rs):=by
 have D:=I.snoc (x:=⟨2,l,f⟩) h.lt;have J:=h.more I [⟨2,l,f⟩];refine⟨by simp,λ w=>?_⟩;rw[J6 D (mN _),l7];have e:=J.any w;constructor
 ·rintro(⟨h,_⟩|⟨h,_⟩|⟨_,h⟩|⟨h,_⟩|⟨h,_⟩)
  ·cases h
  ·cases h
  ·obtain⟨x,o,C⟩:=e.1 h;rcases MF.1 o with F|F
   ·rw[F]at C;exact .inl C
   ·exact .inr ⟨x,F,C⟩
  ·cases h
  ·cases h
 ·rintro(h|⟨x,o,h⟩)
  ·exact .inr (.inr (.inl ⟨rfl,e.2 ⟨r,LG,h⟩⟩))
  ·exact .inr (.inr (.inl ⟨rfl,e.2 ⟨x,LI _ o,h⟩⟩))
theorem AX{r:Rx}(h:W r [])(w:List Nat):W (.plus r) w↔W (.star r) w:=
 ⟨λ o=> .inr o,λ o=>by
  rcases o with o|o
  ·rw[o];exact .one h
  ·exact o⟩
theorem CD(r:Rx)(w:List Nat):W (.plus r) w↔W (.cat r (.star r)) w:=by
 constructor
 ·intro h;have h:uQ (W r) w:=h
  cases h with
  | one h=>exact⟨w,[],by simp,h,.inl rfl⟩
  | more hu hv=>exact⟨_,_,rfl,hu,.inr hv⟩
 ·rintro⟨u,v,e,C,o⟩;rcases o with o|o
  ·rw[e,o,MA];exact .one C
  ·rw[e];exact .more C o
theorem C1.congr{N:List RN}{r r':Rx}(h:C1 N n r)(o:∀w,W r w↔W r' w):C1 N n r':=⟨h.1,λ w=>(h.2 w).trans (o w)⟩
def Sem(N:List RN)(n:Nat)(r:Rx):Prop:=n<N.length/\(∀w,WN N n w↔W r w)/\Tr N n r.np
theorem Sem.w{N:List RN}{r:Rx}(h:Sem N n r):C1 N n r:=⟨h.1,h.2.1⟩
theorem C1.tr{N:List RN}{r:Rx}(h:C1 N n r)(o:Tr N n r.np):Sem N n r:=⟨h.1,h.2,o⟩
theorem Sem.more{N:List RN}(o:gI N){n:Nat}{r:Rx}(h:Sem N n r)(M:List RN):Sem (N++M) n r:=(h.w.more o M).tr (h.2.2.more o M h.1)
theorem Vk{N:List RN}(o:gI N)(f:Nat->Bool):Sem (N++[⟨0,[],f⟩]) N.length (.pl f):=(Rj o f).tr (AV N o f)
theorem Kg{N:List RN}(o:gI N){n:Nat}{r:Rx}(h:Sem N n r)(f:Nat->Bool):Sem (N++[⟨3,[n],f⟩]) N.length (.star r):=(Wj o h.w f).tr (EV o h.1 h.2.2 f)
theorem GS{N:List RN}(o:gI N){n:Nat}{r:Rx}(h:Sem N n r)(f:Nat->Bool):Sem (N++[⟨4,[n],f⟩]) N.length (.opt r):=(o5 o h.w f).tr (JY o h.1 h.2.2 f)
inductive sU (N:List RN):List Nat->List Rx->Prop
 | nil:sU N [] []
 | cons {n:Nat}{r:Rx}{l:List Nat}{rs:List Rx}:Sem N n r->sU N l rs->sU N (n::l) (r::rs)
theorem sU.w{N:List RN}{rs:List Rx}(h:sU N l rs):wI N l rs:=by
 induction h with
 | nil=>exact .nil
 | cons h1 _ ih=>exact .cons h1.w ih
theorem sU.more{N:List RN}(o:gI N){l:List Nat}{rs:List Rx}(h:sU N l rs)(M:List RN):sU (N++M) l rs:=by
 induction h with
 | nil=>exact .nil
 | cons h1 _ ih=>exact .cons (h1.more o M) ih
theorem sU.snoc{N:List RN}{rs:List Rx}(h:sU N l rs){n:Nat}{r:Rx}(hn:Sem N n r):sU N (l++[n]) (rs++[r]):=by
 induction h with
 | nil=>exact .cons hn .nil
 | cons h1 _ ih=>exact .cons h1 ih
theorem sU.lt{N:List RN}{rs:List Rx}(h:sU N l rs):∀m,m∈l->m<N.length:=h.w.lt
def CZ:List Rx->Nat
 | []=>0
 | r::l=>r.np+CZ l
theorem sU.tr{N:List RN}{rs:List Rx}(h:sU N l rs):Zd N l (CZ rs):=by
 induction h with
 | nil=>exact .nil
 | cons h1 _ ih=>exact .cons h1.2.2 ih
theorem Mx:∀(ps:List Rx)(p:Rx),(yA p ps).np=p.np+CZ ps
 | [],p=>by simp[CZ,yA]
 | x::ps,p=>by show(yA (.cat p x) ps).np=_;rw[Mx ps];show p.np+x.np+CZ ps=p.np+(x.np+CZ ps);omega
theorem Lh:∀(ps:List Rx)(p:Rx),(G0 p ps).np=p.np+CZ ps
 | [],p=>by simp[CZ,G0]
 | x::ps,p=>by show(G0 (.alt p x) ps).np=_;rw[Lh ps];show p.np+x.np+CZ ps=p.np+(x.np+CZ ps);omega
theorem Ud{N:List RN}(o:gI N){l:List Nat}{r:Rx}{rs:List Rx}(h:sU N l (r::rs))(f:Nat->Bool):Sem (N++[⟨1,l,f⟩]) N.length (yA r rs):=(Nq o h.w f).tr (by rw[Mx];exact JG o h.lt h.tr f)
theorem JD{N:List RN}(o:gI N){l:List Nat}{r:Rx}{rs:List Rx}(h:sU N l (r::rs))(f:Nat->Bool):Sem (N++[⟨2,l,f⟩]) N.length (G0 r rs):=(DW o h.w f).tr (by rw[Lh];exact KP o h.lt h.tr f)
theorem Sem.congr{N:List RN}{r r':Rx}(h:Sem N n r)(o:∀w,W r w↔W r' w)(hn:r.np=r'.np):Sem N n r':=⟨h.1,λ w=>(h.2.1 w).trans (o w),by rw[<-hn];exact h.2.2⟩
theorem Zt{N:List RN}(C:gI N){n s:Nat}{r:Rx}(h:Sem N n r)(o:Sem N s (.star r))(D:∃f,N[s]?=some ⟨3,[n],f⟩)(F:xJ N n=false)(f:Nat->Bool):Sem (N++[⟨1,[n,s],f⟩]) N.length (.plus r):=
 ((Nq (rs:= [.star r]) C (.cons h.w (.cons o.w .nil)) f).congr (λ u=>(CD r u).symm)).tr (DV C h.1 h.2.2 o.1 o.2.2 D F f)
section
theorem Hn:∀(ps:List Rx)(p q:Rx),yA p (ps++[q])=.cat (yA p ps) q
 | [],_,_=>rfl
 | x::ps,p,q=>Hn ps (.cat p x) q
theorem Hm:∀(ps:List Rx)(p q:Rx),G0 p (ps++[q])=.alt (G0 p ps) q
 | [],_,_=>rfl
 | x::ps,p,q=>Hm ps (.alt p x) q
def Y5:List Rx->Rx->Rx
 | [],r=>r
 | o::os,r=>G0 o (os++[r])
theorem Pv(ors:List Rx)(c r:Rx):Y5 (ors++[c]) r=.alt (Y5 ors c) r:=by
 cases ors with
 | nil=>rfl
 | cons o os=>
  show G0 o ((os++[c])++[r])=_;rw[Hm]
  rfl
theorem s9{ors:List Rx}{c o:Rx}{F:List Rx}(h:ors++[c]=o::F):Y5 ors c=G0 o F:=by
 cases ors with
 | nil=>
  injection h with C D;rw[<-C,<-D];rfl
 | cons x xs=>
  injection h with C D;rw[<-C,<-D];rfl
def yB:List Rx->Nat
 | []=>0
 | r::l=>r.np+yB l
theorem M0:∀(l:List Rx)(r:Rx),yB (l++[r])=yB l+r.np
 | [],r=>by simp[yB]
 | x::l,r=>by show x.np+yB (l++[r])=_;rw[M0 l r];show _=x.np+yB l+r.np;omega
theorem Jq:∀(ps:List Rx)(p:Rx),(yA p ps).np=p.np+yB ps
 | [],_=>rfl
 | x::ps,p=>by show(yA (.cat p x) ps).np=_;rw[Jq ps];show p.np+x.np+yB ps=p.np+(x.np+yB ps);omega
theorem Tw:∀(ps:List Rx)(p:Rx),(G0 p ps).np=p.np+yB ps
 | [],_=>rfl
 | x::ps,p=>by show(G0 (.alt p x) ps).np=_;rw[Tw ps];show p.np+x.np+yB ps=p.np+(x.np+yB ps);omega
theorem i9(ors:List Rx)(c:Rx):(Y5 ors c).np=yB ors+c.np:=by
 cases ors with
 | nil=>show c.np=0+c.np;omega
 | cons o os=>show(G0 o (os++[c])).np=o.np+yB os+c.np;rw[Tw,M0];omega
def l5(s:tB)(x:Option (Rx×Nat)):Option (Rx×Nat):=
 match x with
 | none=>none
 | some (r,a1)=>if uN s a1=true then some (r,a1)else none
theorem Vu(s:tB)(ex:Nat->Option (Rx×Nat))(a:Nat):qN s ex a=l5 s (ex a):=rfl
theorem Cu{s:tB}{ex:Nat->Option (Rx×Nat)}(h:mF s i=false):iZ s ex i=none:=by
 unfold mF at h;rw[Bool.or_eq_false_iff,aF]at h;obtain⟨o,I⟩:=h;have U:kU s 40 i=false:=by unfold kU;rw[aF];exact λ e=>o (.inl e)
 have b2:kU s 91 i=false:=by unfold kU;rw[aF];exact λ e=>o (.inr (.inl e))
 have F:kU s 46 i=false:=by unfold kU;rw[aF];exact λ e=>o (.inr (.inr (.inl e)))
 have D:kU s 92 i=false:=by unfold kU;rw[aF];exact λ e=>o (.inr (.inr (.inr e)))
 have C:jK s kI i=none:=by unfold jK;rw[D,I];rfl
 have Q:jC s i=none:=by unfold jC;rw[b2,F,C];rfl
 have J:mC s ex i=none:=by unfold mC;rw[U,Q];rfl
 unfold iZ;rw[J]
theorem Tm{s:tB}(h:uN s i=true):mF s i=false:=by
 unfold uN at h;rw[aE]at h;by_cases o:s.size<=i
 ·unfold mF;rw[jW o]
  rfl
 ·have e:=h.resolve_left o;unfold mF;rw[lK (by omega),e];decide
theorem Zg{s:tB}(hi:i<s.size)(h:bt s i=124):mF s i=false:=by
 unfold mF;rw[lK hi,h];decide
theorem Rg{s:tB}(hi:i<s.size):kU s 124 i=decide (bt s i=124):=by
 unfold kU;rw[lK hi,NG,aE,aE];omega
def Mi(s:tB)(ex:Nat->Option (Rx×Nat))(T:Option (Rx×Nat))(ors o:List Rx)(i:Nat):Prop:=
 match o with
 | []=>∃k,s.size<k+i/\T=match vQ s ex i with
  | none=>none
  | some (r,a)=>l5 s (kO s ex k (Y5 ors r) a)
 | p::ps=>∃k m,s.size<k+i/\s.size<m+i/\T=match lX s ex m (yA p ps) i with
  | none=>none
  | some (r,a)=>l5 s (kO s ex k (Y5 ors r) a)
theorem Mi.start(s:tB)(f i:Nat):Mi s (kR s f) (qN s (kR s (f+1)) i) [] [] i:=by
 refine⟨s.size+1,by omega,?_⟩;rw[Vu,kR]
 cases vQ s (kR s f) i with
 | none=>rfl
 | some y=>rfl
variable {s:tB}{ex:Nat->Option (Rx×Nat)}{T:Option (Rx×Nat)}{ors rs:List Rx}{i:Nat}
theorem Mi.none0(h:Mi s ex T ors [] i)(o:iZ s ex i=none):T=none:=by
 obtain⟨k,_,h⟩:=h;rw[h];unfold vQ;rw[o]
theorem Mi.bad(h:Mi s ex T ors rs i)(hi:i<s.size)(D:uN s i=false)(F:bt s i≠124)(o:iZ s ex i=none):T=none:=by
 cases rs with
 | nil=>exact h.none0 o
 | cons p ps=>
  obtain⟨k,m,I,J,h⟩:=h;rw[h];obtain⟨m,rfl⟩:∃n,m=n+1:=⟨m-1,by omega⟩
  obtain⟨k,rfl⟩:∃n,k=n+1:=⟨k-1,by omega⟩
  rw[lX];by_cases C:mF s i=false
  ·rw[aB C];simp only;have e:kU s 124 i=false:=by rw[Rg hi,aF];exact F
   rw[kO,aB e];unfold l5;simp only;rw[D,aA (by simp)]
  ·rw[aA C,o]
theorem Mi.piece(h:Mi s ex T ors rs i)(I:tC s ex){C:Rx}{D:Nat}(o:iZ s ex i=some (C,D)):Mi s ex T ors (rs++[C]) D:=by
 have U:=wS I _ _ _ o
 cases rs with
 | nil=>
  obtain⟨k,F,h⟩:=h;refine⟨k,s.size+1,by omega,by omega,?_⟩;rw[h];unfold vQ;rw[o]
  rfl
 | cons p ps=>
  obtain⟨k,m,F,Q,h⟩:=h;obtain⟨m,rfl⟩:∃n,m=n+1:=⟨m-1,by omega⟩
  refine⟨k,m,by omega,by omega,?_⟩;rw[h,lX];have J:¬mF s i=false:=λ e=>by rw[Cu e]at o;cases o
  rw[aA J,o,show ps.append [C]=ps++[C] from rfl,Hn]
theorem Mi.bar{p:Rx}{ps:List Rx}(h:Mi s ex T ors (p::ps) i)(hi:i<s.size)(o:bt s i=124):Mi s ex T (ors++[yA p ps]) [] (i+1):=by
 obtain⟨k,m,C,F,h⟩:=h;obtain⟨m,rfl⟩:∃n,m=n+1:=⟨m-1,by omega⟩
 obtain⟨k,rfl⟩:∃n,k=n+1:=⟨k-1,by omega⟩
 refine⟨k,by omega,?_⟩;rw[h,lX,aB (Zg hi o)];simp only;have e:¬kU s 124 i=false:=by rw[Rg hi,aF];exact λ h=>h o
 rw[kO,aA e]
 cases vQ s ex (i+1)with
 | none=>rfl
 | some y=>
  obtain⟨I,D⟩:=y;simp only;rw[Pv]
theorem Mi.aZ{p:Rx}{ps:List Rx}(h:Mi s ex T ors (p::ps) i)(hi:i<=s.size)(o:uN s i=true):T=some (Y5 ors (yA p ps),i):=by
 obtain⟨k,m,D,F,h⟩:=h;obtain⟨m,rfl⟩:∃n,m=n+1:=⟨m-1,by omega⟩
 obtain⟨k,rfl⟩:∃n,k=n+1:=⟨k-1,by omega⟩
 rw[h,lX,aB (Tm o)];simp only;have e:kU s 124 i=false:=by
  by_cases C:i<s.size
  ·rw[Rg C,aF];intro e;unfold uN at o;rw[aE]at o;omega
  ·unfold kU;rw[jW (by omega)]
   rfl
 rw[kO,aB e];unfold l5;simp only;rw[aB o]
end
def Xk(s:tB)(c:Nat):Nat->Nat->Nat->List (Nat×Nat)
 | 0,_,_=>[]
 | n+1,fr,i=>if i=s.size\/bt s i=c then(fr,i)::Xk s c n (i+1) (i+1)else Xk s c n fr (i+1)
def lT(s:tB)(c:Nat):List (Nat×Nat):=Xk s c (s.size+1) 0 0
theorem Jg{s:tB}(h:i=s.size\/bt s i=c):Xk s c (n+1) fr i=(fr,i)::Xk s c n (i+1) (i+1):=by
 show(if i=s.size\/bt s i=c then _ else _)=_;rw[aB h]
theorem Rb{s:tB}(h:¬(i=s.size\/bt s i=c)):Xk s c (n+1) fr i=Xk s c n fr (i+1):=by
 show(if i=s.size\/bt s i=c then _ else _)=_;rw[aA h]
theorem GZ(s:tB)(c:Nat):∀(n fr i:Nat),n+i=s.size+1->0<n->0<(Xk s c n fr i).length:=by
 intro n
 induction n with
 | zero=>intro fr i _ h;omega
 | succ n ih=>
  intro fr i h _;by_cases o:i=s.size\/bt s i=c
  ·rw[Jg o];simp
  ·rw[Rb o];exact ih fr (i+1) (by omega) (by omega)
theorem Pk(s:tB)(c:Nat):0<(lT s c).length:=GZ s c (s.size+1) 0 0 (by omega) (by omega)
def Hv(s:tB)(l:List (Nat×Nat)):List tV:=l.map (λ(p:Nat×Nat)=>Value.string (s.extract p.1 p.2))
theorem He(s:tB)(l:List (Nat×Nat))(a b:Nat):Hv s (l++[(a,b)])=Hv s l++[.string (s.extract a b)]:=by unfold Hv;simp
theorem AQ{s:tB}{l:List (Nat×Nat)}{b:Nat}(h:l[j]?=some (a,b)):(Hv s l)[j]?=some (.string (s.extract a b)):=by unfold Hv;rw[ME,h];rfl
end Go.Stn
namespace Go.Proofs.YtgjgjgihceijnaaGreat
open Go.RowKit Go.Stn
variable {ab n c i k a B z aJ fb nR pl cn gN g q lo a1 m rb gs B' r:Nat}{T:TypeId}{ns ms x:List Nat}{aZ:Int}{ob:Option Nat}{xs:List (List Nat)}
theorem AB(t:tB)(w:tW):QU MG 7 #[.string t] w λ e w'=>e=.returned (.tuple #[.string ⟨(pH t).1.toArray⟩,.int .i64 (pH t).2])/\Bl w w':=by
 refine Yd t w (λ h=>GC h) (λ h ls C=>?_);obtain⟨U,l,D,F,Q,V,J⟩:=L8 h;have I:(fW jX l).aW=qB l:=by rw[vJ];rfl
 have o:=wP D;have:=t9 ((Hf h D).1 ls C) o.2.2 (wD l o.1 F).2.1;rw[J,I];exact this
structure BA(w:tW)(ab n:Nat)(al:Nat->Bool):Prop where
 c:∀i,i<n->w.cell? ⟨ab,i,none⟩=some (.bool (al i))
 f:∀i,w.frozen? ⟨ab,i,none⟩=false
theorem BA.set{w:tW}{al:Nat->Bool}(h:BA w ab n al){s:Nat}(C:s<n)(v:Bool):BA (w.setCell ⟨ab,s,none⟩ (.bool v)) ab n (λ i=>if i=s then v else al i):=by
 refine⟨λ i hi=>?_,λ i=>by rw[MV];exact h.f i⟩;by_cases e:i=s
 ·subst e;rw[aB rfl];exact MN _ _ _ (h.c i hi)
 ·rw[aA e,MM (h:=by intro o;injection o;omega)];exact h.c i hi
theorem cV:(Tryz.prog.info? 4).map (λ i=>(i.zero,i.size,i.bytes))=some (some (.bool false),1,1):=by kernel_rfl
theorem BA.new{w:tW}{aH:Nat}{e:TypeId}(h:w.ownsRow aH e 1 (.slice (some ⟨ab,0,none⟩) n n) n (QS (PA false).cells (n*1)).toList):BA w ab n (λ _=>false):=by
 refine⟨λ i hi=>?_,λ i=>rX h i⟩;have hg:(QS (PA false).cells (n*1)).toList[i]?=some (.bool false):=by
  rw[OL,Array.getElem?_toList];exact Nm n i hi
 have:=h.cells rfl i _ hg;rw[wG]at this;exact this
theorem BA.below{w w':tW}{al:Nat->Bool}(h:BA w ab n al){B:Nat}(o:Below B w w')(C:ab<B):BA w' ab n al:=
 ⟨λ i hi=>(o.cell (p:=⟨ab,i,none⟩) C).trans (h.c i hi),λ i=>(o.frozen (p:=⟨ab,i,none⟩) C).trans (h.f i)⟩
structure LV(W wr:tW)(n:Nat)(al:Nat->Bool):Prop where
 bl:Bl W wr
 ba:BA wr W.heap.size n al
theorem LV.set{W wr:tW}{al:Nat->Bool}(h:LV W wr n al){s:Nat}(o:s<n)(v:Bool):LV W (wr.setCell ⟨W.heap.size,s,none⟩ (.bool v)) n (λ i=>if i=s then v else al i):=
 ⟨h.bl.setCell (p:=⟨W.heap.size,s,none⟩) lR _,h.ba.set o v⟩
theorem LV.draw{W wr:tW}{al:Nat->Bool}(h:LV W wr n al)(q:Nat):LV W (wr.drewN q) n al:=
 ⟨⟨h.bl.os,h.bl.tape,h.bl.output,h.bl.size,h.bl.block⟩,⟨h.ba.c,h.ba.f⟩⟩
theorem LV.congr{W wr:tW}{al al':Nat->Bool}(h:LV W wr n al)(o:∀i,i<n->al i=al' i):LV W wr n al':=
 ⟨h.bl,⟨λ i hi=>by rw[<-o i hi];exact h.ba.c i hi,h.ba.f⟩⟩
theorem Ul(h:c<256):(vB c).1<256:=by
 unfold vB;split<;>(try split)<;>simp<;>omega
theorem Nn{s:tB}{i:Nat}(h:(qS s i).2.2=true):i<(qS s i).2.1/\(qS s i).2.1<=s.size/\(qS s i).1<256:=by
 unfold qS at*;by_cases o:s.size<=i
 ·rw[aB o]at h;cases h
 ·rw[aA o]at h ⊢;by_cases C:bt s i=92
  ·rw[aB C]at h ⊢;by_cases D:s.size<=i+1
   ·rw[aB D]at h;cases h
   ·rw[aA D];exact⟨by simp,by simp;omega,Ul (mT s _)⟩
  ·rw[aA C];exact⟨by simp,by simp;omega,mT s _⟩
def Jo(s:tB)(k n:Nat)(f:Nat->Bool)(a:Nat):Option ((Nat->Bool)×Nat):=if k=0 then pY s a else lL s n f a
theorem Zi{s:tB}{f:Nat->Bool}(D:0<k)(hn:0<n)(C:a<s.size)(o:bt s a=93):Jo s k n f a=some (f,a+1):=by
 unfold Jo;rw[aA (by omega)];obtain⟨m,rfl⟩:∃m,n=m+1:=⟨n-1,by omega⟩
 unfold lL;have:kU s 93 a=true:=by have:=kB C 93;rw[show((93:Nat):Int)=93 from rfl]at this;rw[this];simp[o]
 rw[aB this]
theorem We{s:tB}{f:Nat->Bool}(U:k=0->f=gJ)(hn:0<k->s.size<n+a)(V:0<n)(C:¬(0<k/\a<s.size/\bt s a=93)):
  ∃m,s.size<m+(a+1)/\0<m/\Jo s k n f a=match jP s f a with
   | none=>none
   | some (g,a1)=>Jo s (k+1) m g a1:=by
 by_cases o:k=0
 ·subst o;rw[U rfl];refine⟨s.size+1,by omega,by omega,?_⟩;unfold Jo;rw[aB rfl];unfold pY
  rfl
 ·obtain⟨m,rfl⟩:∃m,n=m+1:=⟨n-1,by omega⟩
  have I:kU s 93 a=false:=by
   by_cases F:a<s.size
   ·have:=kB F 93;rw[show((93:Nat):Int)=93 from rfl]at this;rw[this,aF];exact λ e=>C ⟨by omega,F,e⟩
   ·exact wO (by omega) 93
  by_cases J:0<m
  ·refine⟨m,by have:=hn (by omega);omega,J,?_⟩;unfold Jo;rw[aA o]
   conv=>lhs;unfold lL
   rw[I,aA (by simp)]
   cases jP s f a with
   | none=>rfl
   | some p=>simp
  ·
   have Q:s.size<=a:=by have:=hn (by omega);omega
   refine⟨s.size+1,by omega,by omega,?_⟩;have D:jP s f a=none:=by
    unfold jP;rw[B6];have:(qS s a).2.2=false:=by unfold qS;rw[aB Q]
    unfold AK;rw[aA (by rw[this];simp)]
   unfold Jo;rw[aA o]
   conv=>lhs;unfold lL
   rw[I,aA (by simp),D]
def v8(w:tW)(G:Option ((Nat->Bool)×Nat))(e:Ending)(w':tW):Prop:=
 Bl w w'/\match G with
  | none=>∃a:Int,e=.returned (.tuple #[.slice none 0 0,.int .i64 a,.bool false])
  | some (f,a)=>e=.returned (.tuple #[.slice (some ⟨w.heap.size,0,none⟩) 256 256,.int .i64 (a:Int),.bool true])/\BA w' w.heap.size 256 f
theorem Ph(s:tB)(i:Nat)(w:tW)(hs:s.size<=500)(hi:i<s.size):
  QU MG 129 #[.string s,.int .i64 (i:Int)] w λ e w'=>v8 w (K1 s (i+1)) e w':=by
 obtain⟨i0,hE,gL,eS,eT⟩:=QQ cV;have HI:QP (Tryz.prog.info? 4=some i0/\i0.zero=some (.bool false)/\i0.size=1/\i0.bytes=1):=⟨hE,gL,eS,eT⟩
 clear hE gL eS eT;go_enter func129,ntmps129;go_upto_region 2 with(first|(at_make;refine QR w rfl _ _ 80 rfl w.heap.size 4 i0 (.bool false) 1 OG HI.o.1 HI.o.2.1 HI.o.2.2.1 .i64 .i64 _ 256 256 rfl rfl rfl rfl (by rw[HI.o.2.2.2];omega) (by unfold maxLen;omega) lR ?_;intro w1 bS hg;have F:QP (LV w w1 256 (λ _=>false)):=⟨⟨hg.os,hg.tape,hg.output,hg.size,λ k hk=>hg.block k hk (by simp)⟩,BA.new bS⟩;clear bS hg))
 have HS:QP (K1 s (i+1)=if kU s 94 (i+1)=true then(match pY s (i+1+1)with|none=>none|some (f,a1)=>some ((λ i=> !(f i)),a1))else pY s (i+1)):=rfl
 go_cut [8] from 17 to 28 (λ nb wc=>nb=.bool (kU s 94 (i+1))/\LV w wc 256 (λ _=>false))
 case first=>
  by_cases h1:i+1<s.size
  ·have hb:(s[i+1]'h1).toNat=bt s (i+1):=kM s (i+1) h1;have d1:decide ((i:Int)+1<(s.size:Int))=true:=by simp;omega
   have hS:(0:Int)<=(i:Int)+1/\(i:Int)+1<(s.size:Int):=by omega
   have HP:QP (kU s 94 (i+1)=decide (bt s (i+1)=94)):=kB h1 94;generalize bt s (i+1)=y at*;by_cases D:y=94
   ·have d2:((y:Int)==94)=true:=by rw[D];rfl
    have HQ:QP (kU s 94 (i+1)=true):=by unfold QP;rw[HP.o];simp[D]
    clear D;go_wp2;go_meet
    case rel=>exact⟨by rw[HQ.o],⟨F.o.bl,F.o.ba⟩⟩
   ·have d2:((y:Int)==94)=false:=by rw[aC];omega
    have HQ:QP (kU s 94 (i+1)=false):=by unfold QP;rw[HP.o];simp[D]
    clear D;go_wp2;go_meet
    case rel=>exact⟨by rw[HQ.o],⟨F.o.bl,F.o.ba⟩⟩
  ·have d1:decide ((i:Int)+1<(s.size:Int))=false:=by simp;omega
   have HQ:QP (kU s 94 (i+1)=false):=wO (by omega) 94;go_wp2;go_meet
   case rel=>exact⟨by rw[HQ.o],⟨F.o.bl,F.o.ba⟩⟩
 case rest=>
  obtain⟨rfl,aR⟩:=hcut;replace aR:=fV aR;clear F;generalize kU s 94 (i+1)=b at*;go_upto_if 31 with fail
  go_cut [1] from 32 to 33 (λ x wx=>∃a:Nat,x=.int .i64 (a:Int)/\a<=s.size+1/\LV w wx 256 (λ _=>false)/\K1 s (i+1)=if b=true then(match pY s a with|none=>none|some (f,a1)=>some ((λ i=> !(f i)),a1))else pY s a)
  case first=>
   cases b with
   | true=>
    go_wp2;go_meet
    case rel=>exact⟨i+1+1,by go_num,by omega,aR.o,HS.o⟩
   | false=>
    go_wp2;go_meet
    case rel=>exact⟨i+1,by go_num,by omega,aR.o,HS.o⟩
  case rest=>
   obtain⟨a0,rfl,hI,aL,C⟩:=hcut;replace aL:=fV aL;obtain⟨GX,eM⟩:=xE (K1 s (i+1))
   rw[eM]at C;replace C:=fV C;have bM:=fV eM;clear HS aR eM;obtain⟨G,hG⟩:=xE (pY s a0)
   have HG:=fV hG;rw[hG]at C;clear hG;go_upto_block 0 with fail
   go_cut [1,9,10,11,12,13,14] from 34 to 98 (λ x _ _ _ _ _ _ wx=>∃(f:Nat->Bool)(a:Nat),x=.int .i64 (a:Int)/\a<s.size/\LV w wx 256 f/\G=some (f,a+1))
   case first=>
    go_wp2_with fail
    go_loopw [1,9,10,11,12,13,14] (λ x kv _ _ _ _ _ wr=>∃(k n:Nat)(f:Nat->Bool)(a:Nat),kv=.int .i64 (k:Int)/\x=.int .i64 (a:Int)/\a<=s.size+1/\k<=a/\LV w wr 256 f/\G=Jo s k n f a/\(k=0->f=gJ)/\(0<k->s.size<n+a)/\0<n) (λ x _ _ _ _ _ _ _=>s.size+2-(QO x).toNat)
    case atStart=>exact⟨0,1,gJ,a0,rfl,rfl,hI,by omega,aL.o,HG.o.symm,λ _=>rfl,λ h=>by omega,by omega⟩
    case round=>
     obtain⟨k,n,f,a,rfl,rfl,ha,hW,V,hg,hz,hn,hC⟩:=hrel;replace V:=fV V;by_cases I:0<k/\a<s.size/\bt s a=93
     ·have HE:QP (G=some (f,a+1)):=hg.trans (Zi I.1 hC I.2.1 I.2.2);obtain⟨e1,X,e3⟩:=I;have hb:(s[a]'X).toNat=bt s a:=kM s a X;rw[e3]at hb;have d1:decide ((0:Int)<(k:Int))=true:=by simp;omega
      have d2:decide ((a:Int)<(s.size:Int))=true:=by simp;omega
      have hA:(0:Int)<=(a:Int)/\(a:Int)<(s.size:Int):=by omega
      clear e3 hz hn hg HG C aL;go_wp2;go_meet
      case rel=>exact⟨f,a,rfl,X,V.o,HE.o⟩
     ·obtain⟨m,hT,hK,hD⟩:=We hz hn hC I;have J:=fV (hg.trans hD);clear hg hD hz hn HG aL;have eO:=fV I;clear I;go_upto_region 8 with fail
      go_cut [49] from 36 to 48 (λ v wx=>v=.bool false/\LV w wx 256 f)
      case first=>
       by_cases hk:0<k
       ·have d1:decide ((0:Int)<(k:Int))=true:=by simp;omega
        by_cases X:a<s.size
        ·have hb:(s[a]'X).toNat=bt s a:=kM s a X;have d2:decide ((a:Int)<(s.size:Int))=true:=by simp;omega
         have hA:(0:Int)<=(a:Int)/\(a:Int)<(s.size:Int):=by omega
         have d3:((bt s a:Int)==93)=false:=by rw[aC];intro e3;exact eO.o ⟨hk,X,by omega⟩
         generalize bt s a=y at*;go_wp2;go_meet
         case rel=>exact⟨rfl,V.o⟩
        ·have d2:decide ((a:Int)<(s.size:Int))=false:=by simp;omega
         go_wp2;go_meet
         case rel=>exact⟨rfl,V.o⟩
       ·have d1:decide ((0:Int)<(k:Int))=false:=by simp;omega
        go_wp2;go_meet
        case rel=>exact⟨rfl,V.o⟩
      case rest=>
       obtain⟨rfl,bC⟩:=hcut;replace bC:=fV bC;clear V eO;go_wp2_with fail;refine(Gi s a _ (by omega) (by omega)).mono ?_;rintro e w5 ⟨rfl,q,rfl⟩;have bO:=fV (@B6 s a);have cP:=fV (@Nn s a);generalize qS s a=p at*;obtain⟨lo,nx,ok⟩:=p
       cases ok with
       | false=>
        have HN:QP (GX=none):=by
         have hm:jP s f a=none:=by unfold jP;rw[bO.o];rfl
         have aT:G=none:=by rw[J.o,hm]
         unfold QP;rw[C.o,aT];split<;>rfl
        have HB:=fV (bC.o.draw q).bl;clear bO cP J C;go_wp2;go_ret3;rw[bM.o,HN.o];exact⟨HB.o,_,rfl⟩
       | true=>
        obtain⟨hB,hF,eR⟩:=cP.o rfl;simp only at hB hF eR;clear cP;go_upto_region 13 with fail
        go_cut [70] from 61 to 69 (λ v wx=>v=.bool (kU s 45 nx)/\LV w wx 256 f)
        case first=>
         have HL:=fV (bC.o.draw q);by_cases X:nx<s.size
         ·have hb:(s[nx]'X).toNat=bt s nx:=kM s nx X;have d2:decide ((nx:Int)<(s.size:Int))=true:=by simp;omega
          have hA:(0:Int)<=(nx:Int)/\(nx:Int)<(s.size:Int):=by omega
          have HP:QP (kU s 45 nx=decide (bt s nx=45)):=kB X 45;generalize bt s nx=y at*;by_cases D:y=45
          ·have d3:((y:Int)==45)=true:=by rw[D];rfl
           have HQ:QP (kU s 45 nx=true):=by unfold QP;rw[HP.o];simp[D]
           clear D;go_wp2;go_meet
           case rel=>exact⟨by rw[HQ.o],HL.o⟩
          ·have d3:((y:Int)==45)=false:=by rw[aC];omega
           have HQ:QP (kU s 45 nx=false):=by unfold QP;rw[HP.o];simp[D]
           clear D;go_wp2;go_meet
           case rel=>exact⟨by rw[HQ.o],HL.o⟩
         ·have d2:decide ((nx:Int)<(s.size:Int))=false:=by simp;omega
          have HQ:QP (kU s 45 nx=false):=wO (by omega) 45;go_wp2;go_meet
          case rel=>exact⟨by rw[HQ.o],HL.o⟩
        case rest=>
         obtain⟨rfl,Y⟩:=hcut;replace Y:=fV Y;clear bC;have U:QP (jP s f a=if kU s 45 nx=false then some (jI f lo lo,nx)else match jK s kJ (nx+1)with|none=>none|some (y,a2)=>if y<(lo:Int)then none else some (jI f lo y,a2)):=by unfold QP jP;rw[bO.o];rfl
         clear bO;generalize kU s 45 nx=bb at*;go_upto_if 70 with fail
         go_cut [11,12,13] from 71 to 86 (λ nv _ hv wx=>∃D n2:Nat,hv=.int .u8 (D:Int)/\nv=.int .i64 (n2:Int)/\lo<=D/\D<256/\a<n2/\n2<=s.size/\LV w wx 256 f/\jP s f a=some (jI f lo D,n2))
         case first=>
          cases bb with
          | false=>
           go_wp2;go_meet
           case rel=>exact⟨lo,nx,rfl,rfl,lR,eR,hB,hF,Y.o,U.o⟩
          | true=>
           have aW:=λ w=>Gi s (nx+1) w (by omega) (by omega)
           rw[show((nx+1:Nat):Int)=(nx:Int)+1 by omega]at aW;have Z:=fV (@B6 s (nx+1));have eN:=fV (@Nn s (nx+1));generalize qS s (nx+1)=p2 at*;obtain⟨D,n2,hL⟩:=p2;go_wp2_with fail;refine(aW _).mono ?_;rintro e w6 ⟨rfl,q2,rfl⟩;have eL:=fV (Y.o.draw q2);clear aW Y
           cases hL with
           | false=>
            have HN:QP (GX=none):=by
             have hm:jP s f a=none:=by rw[U.o,aA (by simp),Z.o];rfl
             have aT:G=none:=by rw[J.o,hm]
             unfold QP;rw[C.o,aT];split<;>rfl
            clear U Z eN J C;go_wp2;go_ret3;rw[bM.o,HN.o];exact⟨eL.o.bl,_,rfl⟩
           | true=>
            obtain⟨y1,y2,y3⟩:=eN.o rfl;have y1:nx+1<n2:=y1;have y2:n2<=s.size:=y2;have y3:D<256:=y3;clear eN;by_cases cF:D<lo
            ·have dl:=dT D lo (by omega)
             have HN:QP (GX=none):=by
              have hm:jP s f a=none:=by
               rw[U.o,aA (by simp),Z.o];show(if((D:Nat):Int)<(lo:Int)then none else some (jI f lo (D:Int),n2))=none;rw[aB (by omega)]
              have aT:G=none:=by rw[J.o,hm]
              unfold QP;rw[C.o,aT];split<;>rfl
             clear U Z J C;go_wp2;go_ret3;rw[bM.o,HN.o];exact⟨eL.o.bl,_,rfl⟩
            ·have dl:=dF D lo (by omega)
             have hJ:QP (jP s f a=some (jI f lo D,n2)):=by
              unfold QP;rw[U.o,aA (by simp),Z.o];show(if((D:Nat):Int)<(lo:Int)then none else some (jI f lo (D:Int),n2))=_;rw[aA (by omega)]
             clear U Z J C;go_wp2;go_meet
             case rel=>exact⟨D,n2,rfl,rfl,by omega,y3,by omega,y2,eL.o,hJ.o⟩
         case rest=>
          obtain⟨D,n2,rfl,rfl,g1,g2,g3,g4,hH,bT⟩:=hcut;have eX:=fV hH;have hM:QP (G=Jo s (k+1) m (jI f lo D) n2):=by unfold QP;rw[J.o,bT]
          clear hH bT U J Y;go_upto_block 2 with fail
          go_cut [14] from 89 to 97 (λ _ wx=>LV w wx 256 (jI f lo D))
          case first=>
           go_wp2_with fail
           go_loopw [14] (λ cv wr=>∃(c:Nat)(f2:Nat->Bool),lo<=c/\c<=D+1/\cv=.int .i64 (c:Int)/\LV w wr 256 f2/\∀j,j<256->f2 j=(decide (lo<=j/\j<c)||f j)) (λ cv _=>D+1-(QO cv).toNat)
           case atStart=>exact⟨lo,f,lR,by omega,rfl,eX.o,λ j _=>by rw[decide_eq_false (by omega)];rfl⟩
           case round=>
            obtain⟨c,f2,hR,hV,rfl,Q,aO⟩:=hrel;have F:=fV Q;have bK:=fV aO;clear Q aO;by_cases hU:c<=D
            ·have dc:decide ((c:Int)<=(D:Int))=true:=by simp;omega
             have hP:(0:Int)<=(c:Int)/\(c:Int)<(256:Int):=by omega
             have z0:=F.o.ba.c c (by omega);have z1:=F.o.ba.f c;have cN:QP (∀j,j<256->(if j=c then true else f2 j)=(decide (lo<=j/\j<c+1)||f j)):=λ j hj=>by
              by_cases e:j=c
              ·rw[aB e,decide_eq_true (by omega)];rfl
              ·rw[aA e,bK.o j hj];congr 1;rw[decide_eq_decide];omega
             go_wp2;go_roundw
             case rel=>exact⟨c+1,_,by omega,by omega,by go_num,F.o.set (by omega) true,cN.o⟩
             case measure=>simp[QO];omega
            ·have dc:decide ((c:Int)<=(D:Int))=false:=by simp;omega
             have HE:QP (LV w wr 256 (jI f lo D)):=F.o.congr (λ j hj=>by
              rw[bK.o j hj];unfold jI;congr 1;rw[decide_eq_decide];omega)
             go_wp2;go_meet
             case rel=>exact HE.o
          case rest=>
           have hN:=fV hcut;clear hcut eX;go_wp2;go_roundw
           case rel=>exact⟨k+1,m,_,n2,by go_num,rfl,by omega,by omega,hN.o,hM.o,λ h=>by omega,λ _=>by omega,hK⟩
           case measure=>simp[QO];omega
   case rest=>
    obtain⟨f,a,rfl,ha,Q,hG⟩:=hcut;have F:=fV Q;have hQ:QP (GX=some ((λ j=>if b=true then !(f j)else f j),a+1)):=by
     unfold QP;rw[C.o,hG]
     cases b with
     | true=>rfl
     | false=>rfl
    clear Q hG C HG aL;go_wp2_with fail
    go_loopw [15] (λ cv wr=>∃(c:Nat)(f2:Nat->Bool),c<=256/\cv=.int .i64 (c:Int)/\LV w wr 256 f2/\∀j,j<256->f2 j=if j<c then(if b=true then !(f j)else f j)else f j) (λ cv _=>256-(QO cv).toNat)
    case atStart=>exact⟨0,f,zL,rfl,F.o,λ j _=>by rw[aA (by omega)]⟩
    case round=>
     obtain⟨c,f2,hc,rfl,Q,aO⟩:=hrel;have bN:=fV Q;have bK:=fV aO;clear Q aO F;by_cases cF:c<256
     ·have dc:decide ((c:Int)<(256:Int))=true:=by simp;omega
      have hP:(0:Int)<=(c:Int)/\(c:Int)<(256:Int):=by omega
      have z0:=bN.o.ba.c c cF;have z1:=bN.o.ba.f c;obtain⟨v,ev⟩:=xE (f2 c)
      rw[ev]at z0;have cN:QP (∀j,j<256->(if j=c then(v !=b)else f2 j)=if j<c+1 then(if b=true then !(f j)else f j)else f j):=λ j hj=>by
       have:=bK.o j hj;by_cases e:j=c
       ·subst e;rw[aA (show¬j<j by omega)]at this;rw[aB rfl,aB (show j<j+1 by omega),<-ev,this]
        cases b<;>cases f j<;>rfl
       ·rw[aA e,this];by_cases X:j<c
        ·rw[aB X,aB (show j<c+1 by omega)]
        ·rw[aA X,aA (show¬j<c+1 by omega)]
      clear ev;go_wp2;go_roundw
      case rel=>exact⟨c+1,_,by omega,by go_num,bN.o.set cF (v !=b),cN.o⟩
      case measure=>simp[QO];omega
     ·have dc:decide ((c:Int)<(256:Int))=false:=by simp;omega
      have HE:QP (LV w wr 256 (λ j=>if b=true then !(f j)else f j)):=bN.o.congr (λ j hj=>by rw[bK.o j hj,aB (by omega)]);go_wp2;go_ret3;rw[bM.o,hQ.o];exact⟨HE.o.bl,by go_num,HE.o.ba⟩
theorem Vn(c:Nat):kV (c:Int) kI=(nQ (c:Int) && !Hs c kI):=by
 unfold kV Hs;congr 1;rw[NG,aE,Bool.not_eq_true',aF];constructor
 ·rintro h ⟨i,hi,e⟩;exact h i hi (by omega)
 ·intro h i hi e;exact h ⟨i,hi,by omega⟩
theorem Nt{s:tB}{i:Nat}(h:i<s.size)(o:bt s i=91):jC s i=K1 s (i+1):=by
 unfold jC;have:kU s 91 i=true:=by have:=kB h 91;rw[show((91:Nat):Int)=91 from rfl]at this;rw[this];simp[o]
 rw[aB this]
theorem Kd{s:tB}{i:Nat}(h:i<s.size)(o:bt s i=46):jC s i=some ((λ i=> !(gJ i)),i+1):=by
 unfold jC;have C:kU s 91 i=false:=by have:=kB h 91;rw[show((91:Nat):Int)=91 from rfl]at this;rw[this];simp[o]
 have D:kU s 46 i=true:=by have:=kB h 46;rw[show((46:Nat):Int)=46 from rfl]at this;rw[this];simp[o]
 rw[C,aA (by simp),aB D]
theorem Lj{s:tB}{i:Nat}(h:i+1<s.size)(o:bt s i=92):jC s i=if(vB (bt s (i+1))).2=true then some (jI gJ ((vB (bt s (i+1))).1:Int) ((vB (bt s (i+1))).1:Int),i+2)else none:=by
 unfold jC;have C:kU s 91 i=false:=by have:=kB (show i<s.size by omega) 91;rw[show((91:Nat):Int)=91 from rfl]at this;rw[this];simp[o]
 have D:kU s 46 i=false:=by have:=kB (show i<s.size by omega) 46;rw[show((46:Nat):Int)=46 from rfl]at this;rw[this];simp[o]
 have F:kU s 92 i=true:=by have:=kB (show i<s.size by omega) 92;rw[show((92:Nat):Int)=92 from rfl]at this;rw[this];simp[o]
 rw[C,aA (by simp),D,aA (by simp)];unfold jK;rw[aB F,Ca,aA (by omega)];unfold AK
 cases (vB (bt s (i+1))).2 with
 | true=>rfl
 | false=>rfl
theorem El{s:tB}{i:Nat}(h:i<s.size)(I:bt s i≠91)(J:bt s i≠46)(U:¬(bt s i=92/\i+1<s.size)):jC s i=if(nQ (bt s i:Int) && !Hs (bt s i) kI)=true then some (jI gJ (bt s i:Int) (bt s i:Int),i+1)else none:=by
 unfold jC;have F:kU s 91 i=false:=by have:=kB h 91;rw[show((91:Nat):Int)=91 from rfl]at this;rw[this];simp[I]
 have Q:kU s 46 i=false:=by have:=kB h 46;rw[show((46:Nat):Int)=46 from rfl]at this;rw[this];simp[J]
 rw[F,aA (by simp),Q,aA (by simp)];unfold jK;have D:=kB h 92;rw[show((92:Nat):Int)=92 from rfl]at D;rw[D];by_cases C:bt s i=92
 ·have o:Hs (bt s i) kI=true:=by rw[C];decide+kernel
  rw[aB (by simp[C]),Ca,aB (by omega),o];simp
 ·rw[aA (by simp[C]),lK h,Vn]
  cases (nQ (bt s i:Int) && !Hs (bt s i) kI)with
  | true=>rfl
  | false=>rfl
theorem T8(c j:Nat):jI gJ (c:Int) (c:Int) j=decide (j=c):=by
 unfold jI gJ;rw[Bool.or_false,decide_eq_decide];omega
def BJ(w:tW)(G:Option ((Nat->Bool)×Nat))(e:Ending)(w':tW):Prop:=
 Bl w w'/\match G with
  | none=>∃(v:tV)(a:Int),e=.returned (.tuple #[v,.int .i64 a,.bool false])
  | some (f,a)=>∃g,e=.returned (.tuple #[.slice (some ⟨g,0,none⟩) 256 256,.int .i64 (a:Int),.bool true])/\w.heap.size<=g/\g<w'.heap.size/\BA w' g 256 f
theorem Pw(s:tB)(i:Nat)(w:tW)(hs:s.size<=500)(hi:i<s.size):
  QU MG 123 #[.string s,.int .i64 (i:Int)] w λ e w'=>BJ w (jC s i) e w':=by
 obtain⟨i0,eT,eR,I,bO⟩:=QQ cV;have HI:QP (Tryz.prog.info? 4=some i0/\i0.zero=some (.bool false)/\i0.size=1/\i0.bytes=1):=⟨eT,eR,I,bO⟩
 clear eT eR I bO;have hb:(s[i]'hi).toNat=bt s i:=kM s i hi;have aO:=mT s i;have hH:(0:Int)<=(i:Int)/\(i:Int)<(s.size:Int):=by omega
 have Y:=fV (@Nt s i hi);have U:=fV (@Kd s i hi);have X:=fV (@Lj s i);have V:=fV (@El s i hi);obtain⟨A,hA⟩:=xE (jC s i)
 rw[hA]at Y U X V;have HA:=fV hA;clear hA;obtain⟨y,hy⟩:=xE (bt s i)
 rw[hy]at hb aO Y U X V;clear hy;go_enter func123,ntmps123;go_upto_region 2 with(first|(at_make;refine QR w rfl _ _ 80 rfl w.heap.size 4 i0 (.bool false) 1 OG HI.o.1 HI.o.2.1 HI.o.2.2.1 .i64 .i64 _ 256 256 rfl rfl rfl rfl (by rw[HI.o.2.2.2];omega) (by unfold maxLen;omega) lR ?_;intro w1 aW hg;have I:=(aW.lt w.heap.size rfl).2;have F:QP (LV w w1 256 (λ _=>false)):=⟨⟨hg.os,hg.tape,hg.output,hg.size,λ k hk=>hg.block k hk (by simp)⟩,BA.new aW⟩;clear aW hg))
 by_cases k1:y=91
 ·have t1:((y:Int)==91)=true:=by rw[k1];rfl
  have HE:=fV (Y.o k1);clear k1 Y U X V;go_wp2_with fail;refine(Ph s i w1 hs hi).mono ?_;rintro e w2 ⟨bM,aL⟩;have eM:=fV (F.o.bl.trans (bM.mono (NS I)));have bO:=bM.size;rw[<-HE.o]at aL
  cases A with
  | none=>
   obtain⟨a,rfl⟩:=aL;clear bM;go_wp2;go_ret3;rw[HA.o];exact⟨eM.o,_,_,rfl⟩
  | some p=>
   obtain⟨f,a⟩:=p;obtain⟨rfl,cF⟩:=aL;have hE:=fV cF;have cP:w1.heap.size<w2.heap.size:=by
    have hc:=cF.c 0 (by omega);apply LP;intro hn;have:w2.heap[w1.heap.size]?=none:=by simp;omega
    unfold PG at hc;simp only[this]at hc
    cases hc
   clear bM cF;go_wp2;go_ret3;rw[HA.o];exact⟨eM.o,_,rfl,by omega,cP,hE.o⟩
 ·have t1:((y:Int)==91)=false:=by rw[aC];omega
  by_cases k2:y=46
  ·have t2:((y:Int)==46)=true:=by rw[k2];rfl
   have HE:=fV (U.o k2);clear k1 k2 Y U X V;go_wp2_with fail
   go_loopw [11] (λ cv wr=>∃(c:Nat)(f:Nat->Bool),c<=256/\cv=.int .i64 (c:Int)/\LV w wr 256 f/\∀j,j<c->f j=true) (λ cv _=>256-(QO cv).toNat)
   case atStart=>exact⟨0,_,zL,rfl,F.o,λ j h=>absurd h (by omega)⟩
   case round=>
    obtain⟨c,f,hc,rfl,eN,eO⟩:=hrel;have C:=fV eN;have eX:=fV eO;clear eN eO F;by_cases J:c<256
    ·have hI:(0:Int)<=(c:Int)/\(c:Int)<(256:Int):=by omega
     have z0:=C.o.ba.c c J;have z1:=C.o.ba.f c;have hD:QP (∀j,j<c+1->(if j=c then true else f j)=true):=λ j hj=>by
      by_cases e:j=c
      ·rw[aB e]
      ·rw[aA e];exact eX.o j (by omega)
     go_wp2;go_roundw
     case rel=>exact⟨c+1,_,by omega,by go_num,C.o.set J true,hD.o⟩
     case measure=>simp[QO];omega
    ·have dc:decide ((c:Int)<(256:Int))=false:=by simp;omega
     have bS:QP (LV w wr 256 (λ i=> !(gJ i))):=C.o.congr (λ j hj=>by rw[eX.o j (by omega)];rfl);have cP:w.heap.size<wr.heap.size:=by
      have hc:=bS.o.ba.c 0 (by omega);apply LP;intro hn;have:wr.heap[w.heap.size]?=none:=by simp;omega
      unfold PG at hc;simp only[this]at hc
      cases hc
     go_wp2;go_ret3;rw[HA.o,HE.o];exact⟨bS.o.bl,_,by go_num,lR,cP,bS.o.ba⟩
  ·have t2:((y:Int)==46)=false:=by rw[aC];omega
   by_cases k3:y=92/\i+1<s.size
   ·obtain⟨k4,k5⟩:=k3;have t3:((y:Int)==92)=true:=by rw[k4];rfl
    have d1:decide ((i:Int)+1<(s.size:Int))=true:=by simp;omega
    have hC:(s[i+1]'k5).toNat=bt s (i+1):=kM s (i+1) k5;have hG:(0:Int)<=(i:Int)+1/\(i:Int)+1<(s.size:Int):=by omega
    have HE:=fV (X.o k5 k4);have bC:=mT s (i+1);obtain⟨c,hc⟩:=xE (bt s (i+1))
    rw[hc]at hC HE bC;have J:=Ul bC;have cN:=λ W=>Am c W bC
    obtain⟨x,ok,hx⟩:∃x ok,vB c=(x,ok):=⟨_,_,rfl⟩
    rw[hx]at HE J cN;have gL:=fV cN;have J:x<256:=J;clear k1 k2 k4 Y U X V hc hx cN;go_wp2_with fail;refine(gL.o _).mono ?_;rintro e w2 ⟨rfl,q,rfl⟩;have C:=fV (F.o.draw q);have z0:=C.o.ba.c x J;have z1:=C.o.ba.f x;have eS:(0:Int)<=(x:Int)/\(x:Int)<(256:Int):=by omega
    have D:=fV ((C.o.set J true).congr (al':=jI gJ (x:Int) (x:Int)) (λ j _=>by rw[T8];by_cases e:j=x<;>simp[e]));have bK:w.heap.size<(w1.drewN q).heap.size:=I;clear F;go_wp2;go_ret3;rw[HA.o,HE.o]
    cases ok with
    | true=>exact⟨D.o.bl,_,by go_num,lR,by simpa[NC]using I,D.o.ba⟩
    | false=>exact⟨D.o.bl,_,_,rfl⟩
   ·have HE:=fV (V.o k1 k2 k3);have hB:=fV k3;have eL:=fV (λ W=>L2 y W aO);have bN:=fV (λ W=>K2 y kI W (by decide));have hF:QP (kI=⟨#[92,124,42,43,63,46,40,41,91,93]⟩):=rfl;generalize nQ (y:Int)=vs at*;generalize Hs y kI=am at*;rw[hF.o]at bN;clear k1 k2 Y U X V;by_cases k4:y=92
    ·have t3:((y:Int)==92)=true:=by rw[k4];rfl
     have d1:decide ((i:Int)+1<(s.size:Int))=false:=by
      have:¬i+1<s.size:=λ h=>hB.o ⟨k4,h⟩
      simp;omega
     clear k4;go_wp2_with fail;refine(bN.o _).mono ?_;rintro e w2 ⟨rfl,q,Z⟩;have aR:QP (LV w w2 256 (λ _=>false)):=by unfold QP;rw[Z];exact F.o.draw q
     have bT:w.heap.size<w2.heap.size:=by rw[Z];exact I
     clear Z;go_wp2_with fail;refine(eL.o _).mono ?_;rintro e w3 ⟨rfl,q2,Q⟩;have C:QP (LV w w3 256 (λ _=>false)):=by unfold QP;rw[Q];exact aR.o.draw q2
     have aT:w.heap.size<w3.heap.size:=by rw[Q];exact bT
     clear Q aR;have z0:=C.o.ba.c y aO;have z1:=C.o.ba.f y;have eS:(0:Int)<=(y:Int)/\(y:Int)<(256:Int):=by omega
     have D:=fV ((C.o.set aO true).congr (al':=jI gJ (y:Int) (y:Int)) (λ j _=>by rw[T8];by_cases e:j=y<;>simp[e]));have bK:w.heap.size<(w3.setCell ⟨w.heap.size,y,none⟩ (.bool true)).heap.size:=by simpa[NC]using aT
     clear F
     cases vs with
     | false=>
      go_wp2;go_ret3;rw[HA.o,HE.o];exact⟨D.o.bl,_,_,rfl⟩
     | true=>
      cases am with
      | true=>
       go_wp2;go_ret3;rw[HA.o,HE.o];exact⟨D.o.bl,_,_,rfl⟩
      | false=>
       go_wp2;go_ret3;rw[HA.o,HE.o];exact⟨D.o.bl,_,by go_num,lR,bK,D.o.ba⟩
    ·have t3:((y:Int)==92)=false:=by rw[aC];omega
     clear k4;go_wp2_with fail;refine(bN.o _).mono ?_;rintro e w2 ⟨rfl,q,Z⟩;have aR:QP (LV w w2 256 (λ _=>false)):=by unfold QP;rw[Z];exact F.o.draw q
     have bT:w.heap.size<w2.heap.size:=by rw[Z];exact I
     clear Z;go_wp2_with fail;refine(eL.o _).mono ?_;rintro e w3 ⟨rfl,q2,Q⟩;have C:QP (LV w w3 256 (λ _=>false)):=by unfold QP;rw[Q];exact aR.o.draw q2
     have aT:w.heap.size<w3.heap.size:=by rw[Q];exact bT
     clear Q aR;have z0:=C.o.ba.c y aO;have z1:=C.o.ba.f y;have eS:(0:Int)<=(y:Int)/\(y:Int)<(256:Int):=by omega
     have D:=fV ((C.o.set aO true).congr (al':=jI gJ (y:Int) (y:Int)) (λ j _=>by rw[T8];by_cases e:j=y<;>simp[e]));have bK:w.heap.size<(w3.setCell ⟨w.heap.size,y,none⟩ (.bool true)).heap.size:=by simpa[NC]using aT
     clear F
     cases vs with
     | false=>
      go_wp2;go_ret3;rw[HA.o,HE.o];exact⟨D.o.bl,_,_,rfl⟩
     | true=>
      cases am with
      | true=>
       go_wp2;go_ret3;rw[HA.o,HE.o];exact⟨D.o.bl,_,_,rfl⟩
      | false=>
       go_wp2;go_ret3;rw[HA.o,HE.o];exact⟨D.o.bl,_,by go_num,lR,bK,D.o.ba⟩
section
structure NV where
 x:RN
 l:tV
 i:tV
def NV.cells(t:NV):List tV:= [.int .i64 (t.x.k:Int),t.l,t.i]
def Zc(l:List NV):List tV:=l.flatMap NV.cells
def jB(l:List NV):List RN:=l.map NV.x
theorem FH(l:List NV)(t:NV):Zc (l++[t])=Zc l++t.cells:=by unfold Zc;simp
theorem nK(l:List NV)(t:NV):jB (l++[t])=jB l++[t.x]:=by unfold jB;simp
theorem lB(l:List NV):(jB l).length=l.length:=by unfold jB;simp
theorem Tc:∀(l:List NV)(j:Nat)(t:NV),l[j]?=some t->(Zc l)[j*3]?=some (.int .i64 (t.x.k:Int))/\(Zc l)[j*3+1]?=some t.l/\(Zc l)[j*3+2]?=some t.i
 | [],j,t,h=>by simp at h
 | x::l,0,t,h=>by
  have e:=sJ h
  subst e;exact⟨rfl,rfl,rfl⟩
 | x::l,j+1,t,h=>by
  have:=Tc l j t (by simpa using h);have e:Zc (x::l)=.int .i64 (x.x.k:Int)::x.l::x.i::Zc l:=rfl;rw[e,show(j+1)*3=j*3+1+1+1 by omega];refine⟨by simpa using this.1,?_,?_⟩
  ·rw[show j*3+1+1+1+1=(j*3+1)+1+1+1 by omega];simpa using this.2.1
  ·rw[show j*3+1+1+1+2=(j*3+2)+1+1+1 by omega];simpa using this.2.2
theorem Tt{w:tW}{a:Option Addr}{xs:List tV}(h:w.ownsRow B T z (.slice a n aJ) n xs):n<=aJ:=by
 rcases h.2 with⟨e,_⟩|⟨g,o,D,e,_,_,F,_⟩
 ·injection e with _ I C;omega
 ·injection e with _ _ C;omega
def U6(w:tW)(O:Nat->Nat)(t:NV):Prop:=
 (t.x.k=0/\t.x.l=[]/\t.l=.slice none 0 0/\∃g,t.i=.slice (some ⟨g,0,none⟩) 256 256/\O g=4/\g<w.heap.size/\BA w g 256 t.x.f)\/
 (t.x.k≠0/\t.i=.slice none 0 0/\∃g aJ,t.l=.slice (some ⟨g,0,none⟩) t.x.l.length aJ/\O g=4/\g<w.heap.size/\(∀(i m:Nat),t.x.l[i]?=some m->w.cell? ⟨g,i,none⟩=some (.int .i64 (m:Int)))/\t.x.l.length<=aJ)
variable {w w':tW}{O O':Nat->Nat}{fb nR pl cn:Nat}{L:List NV}{vN vR:tV}{rc:List tV}
theorem U6.keep{t:NV}(h:U6 w O t)(V:w.heap.size<=w'.heap.size)(X:∀k,k<w.heap.size->O k=4->w'.heap[k]?=w.heap[k]? /\O' k=O k):U6 w' O' t:=by
 rcases h with⟨J,Q,Y,g,U,D,C,o⟩|⟨J,Q,g,aJ,U,D,C,o⟩
 ·obtain⟨F,I⟩:=X g C D;exact .inl ⟨J,Q,Y,g,U,I.trans D,MI C V,⟨λ i hi=>(LJ (w:=w) (a:=⟨g,i,none⟩) F).trans (o.c i hi),λ i=>(MJ (w:=w) (a:=⟨g,i,none⟩) F).trans (o.f i)⟩⟩
 ·obtain⟨F,I⟩:=X g C D;exact .inr ⟨J,Q,g,aJ,U,I.trans D,MI C V,λ i m Z=>(LJ (w:=w) (a:=⟨g,i,none⟩) F).trans (o.1 i m Z),o.2⟩
structure FN(fb:Nat)(w:tW)(O:Nat->Nat)(L:List NV)(vN vR:tV)(rc:List tV)(nR pl cn:Nat):Prop where
 c0:w.cell? ⟨fb,0,none⟩=some vN
 c1:w.cell? ⟨fb,1,none⟩=some vR
 c2:w.cell? ⟨fb,2,none⟩=some (.int .i64 (pl:Int))
 c3:w.cell? ⟨fb,3,none⟩=some (.int .i64 (cn:Int))
 fz:∀i,w.frozen? ⟨fb,i,none⟩=false
 wt:O fb=1/\fb<w.heap.size
 rn:w.ownsRow (fb+1) 180 3 vN L.length (Zc L)
 rr:w.ownsRow (fb+1) 82 3 vR nR rc
 tn:∀k,vN.ownBlock=some k->O k=2
 tr:∀k,vR.ownBlock=some k->O k=3
 nd:∀t∈L,U6 w O t
 cl:gI (jB L)
 fr:∀k,w.heap.size<=k->O k=0
theorem FN.keep(h:FN fb w O L vN vR rc nR pl cn)(F:w.heap.size<=w'.heap.size)(C:∀k,k<w.heap.size->O k≠0->w'.heap[k]?=w.heap[k]? /\O' k=O k)(Q:∀k,w'.heap.size<=k->O' k=0):FN fb w' O' L vN vR rc nR pl cn:=by
 obtain⟨V,I⟩:=h.wt;obtain⟨D,U⟩:=C fb I (by omega);exact⟨(LJ (w:=w) (a:=⟨fb,0,none⟩) D).trans h.c0,(LJ (w:=w) (a:=⟨fb,1,none⟩) D).trans h.c1,(LJ (w:=w) (a:=⟨fb,2,none⟩) D).trans h.c2,(LJ (w:=w) (a:=⟨fb,3,none⟩) D).trans h.c3,
  λ i=>(MJ (w:=w) (a:=⟨fb,i,none⟩) D).trans (h.fz i),⟨U.trans V,MI I F⟩,
  iH h.rn (λ k o=>(C k (h.rn.lt k o).2 (by have:=h.tn k o;omega)).1),iH h.rr (λ k o=>(C k (h.rr.lt k o).2 (by have:=h.tr k o;omega)).1),
  λ k o=>(C k (h.rn.lt k o).2 (by have:=h.tn k o;omega)).2.trans (h.tn k o),λ k o=>(C k (h.rr.lt k o).2 (by have:=h.tr k o;omega)).2.trans (h.tr k o),
  λ t J=>(h.nd t J).keep F (λ k o X=>C k o (by omega)),h.cl,Q⟩
theorem FN.below(h:FN fb w O L vN vR rc nR pl cn)(C:Bl w w'):FN fb w' O L vN vR rc nR pl cn:=
 h.keep C.size (λ k o _=>⟨C.block k o,rfl⟩) (λ k o=>h.fr k (NT C.size o))
theorem FN.draw(h:FN fb w O L vN vR rc nR pl cn)(n:Nat):FN fb (w.drewN n) O L vN vR rc nR pl cn:=h.below ⟨rfl,rfl,rfl,lR,λ _ _=>rfl⟩
theorem FN.tag(h:FN fb w O L vN vR rc nR pl cn){g:Nat}(hg:O g=0)(D:g<w.heap.size):FN fb w (λ k=>if k=g then 4 else O k) L vN vR rc nR pl cn:=
 h.keep lR (λ k _ C=>⟨rfl,aA (λ e=>C (by rw[e];exact hg))⟩) (λ k o=>by
  simp only[aA (show k≠g by omega)];exact h.fr k o)
structure FK(w:tW)(O:Nat->Nat)(w':tW)(O':Nat->Nat):Prop where
 os:w'.os=w.os
 tape:w'.tape=w.tape
 output:w'.output=w.output
 size:w.heap.size<=w'.heap.size
 block:∀k,k<w.heap.size->O k≠1->O k≠2->O k≠3->w'.heap[k]?=w.heap[k]?
 own:∀k,k<w.heap.size->O' k=O k
theorem FK.refl(w:tW)(O:Nat->Nat):FK w O w O:=⟨rfl,rfl,rfl,lR,λ _ _ _ _ _=>rfl,λ _ _=>rfl⟩
theorem FK.trans{w2:tW}{O2:Nat->Nat}(h:FK w O w' O')(k:FK w' O' w2 O2):FK w O w2 O2:=
 ⟨k.os.trans h.os,k.tape.trans h.tape,k.output.trans h.output,NT h.size k.size,λ i hi o C D=>(k.block i (MI hi h.size) (by rw[h.own i hi];exact o) (by rw[h.own i hi];exact C) (by rw[h.own i hi];exact D)).trans (h.block i hi o C D),λ i hi=>(k.own i (MI hi h.size)).trans (h.own i hi)⟩
theorem FK.of_below(o:Bl w w')(O:Nat->Nat):FK w O w' O:=⟨o.os,o.tape,o.output,o.size,λ k C _ _ _=>o.block k C,λ _ _=>rfl⟩
theorem FN.add(h:FN fb w O L vN vR rc nR pl cn){w4:tW}{o:Obj}{g aJ n:Nat}{t:NV}{Y:tV}(hn:L.length=n)(aO:vN=Y)
  (I:w4.ownsRow (fb+1) 180 3 (.slice (some ⟨g,0,none⟩) (n+1) aJ) (n+1) (Zc L++t.cells))
  (F:(w.alloc o).grownBy w4 Y.ownBlock) (aT:Y.ownBlock=some g\/g=w.heap.size+1) (ht:U6 w O t) (aL:∀m,m∈t.x.l->m<n):
  FN fb (w4.setCell ⟨fb,0,none⟩ (.slice (some ⟨g,0,none⟩) (n+1) aJ)) (λ k=>if k=g then 2 else O k) (L++[t]) (.slice (some ⟨g,0,none⟩) (n+1) aJ) vR rc nR pl cn/\
  FK w O (w4.setCell ⟨fb,0,none⟩ (.slice (some ⟨g,0,none⟩) (n+1) aJ)) (λ k=>if k=g then 2 else O k):=by
 subst hn aO;obtain⟨o1,b1⟩:=h.wt;have bK:=F.size;have ez:(w.alloc o).heap.size=w.heap.size+1:=by simp
 have bM:=(I.lt g rfl).2;have bC:(w4.setCell ⟨fb,0,none⟩ (.slice (some ⟨g,0,none⟩) (L.length+1) aJ)).heap.size=w4.heap.size:=by simp[NC]
 have Q:g<w.heap.size->O g=2:=λ hg=>by
  rcases aT with e|e
  ·exact h.tn g e
  ·omega
 have D:∀k,k<w.heap.size->O k≠1->O k≠2->(w4.setCell ⟨fb,0,none⟩ (.slice (some ⟨g,0,none⟩) (L.length+1) aJ)).heap[k]?=w.heap[k]? /\(if k=g then 2 else O k)=O k:=λ k C Z U=>by
  have aR:k≠fb:=λ e=>Z (by rw[e];exact o1)
  have V:k≠g:=λ e=>U (by rw[e];exact Q (by omega))
  refine⟨(iC w4 fb 0 _ aR).trans ((F.block k (by omega) (λ e=>U (h.tn k e.symm))).trans (MC w o k C)),aA V⟩
 have J:w4.heap[fb]?=w.heap[fb]? :=(F.block fb (by omega) (λ e=>by have:=h.tn fb e.symm;omega)).trans (MC w o fb b1);have X:g≠fb:=by have:=(I.lt g rfl).1;omega
 have hc:∀i,i≠0->(w4.setCell ⟨fb,0,none⟩ (.slice (some ⟨g,0,none⟩) (L.length+1) aJ)).cell? ⟨fb,i,none⟩=w.cell? ⟨fb,i,none⟩:=λ i hi=>by
  rw[MM (h:=by intro e';injection e';omega)];exact LJ (w:=w) (a:=⟨fb,i,none⟩) J
 refine⟨⟨MN _ _ _ ((LJ (w:=w) (a:=⟨fb,0,none⟩) J).trans h.c0),(hc 1 (by omega)).trans h.c1,(hc 2 (by omega)).trans h.c2,(hc 3 (by omega)).trans h.c3,λ i=>by rw[MV];exact(MJ (w:=w) (a:=⟨fb,i,none⟩) J).trans (h.fz i),⟨(aA (Ne.symm X)).trans o1,by omega⟩,?_,?_,λ k C=>?_,λ k C=>?_,λ u hu=>?_,?_,λ k C=>?_⟩,?_⟩
 ·rw[FH,LD,LS];exact QN I (show fb<fb+1 by omega) _
 ·exact iH h.rr (λ k C=>(D k (h.rr.lt k C).2 (by have:=h.tr k C;omega) (by have:=h.tr k C;omega)).1)
 ·have aW:g=k:=by simpa[NE]using C
  exact aB aW.symm
 ·have:=h.tr k C;rw[(D k (h.rr.lt k C).2 (by omega) (by omega)).2];exact this
 ·rcases LM.1 hu with e|e
  ·exact(h.nd u e).keep (by omega) (λ k C ho=>D k C (by omega) (by omega))
  ·rw[LH]at e;rw[e];exact ht.keep (by omega) (λ k C ho=>D k C (by omega) (by omega))
 ·rw[nK];exact h.cl.snoc (λ m hm=>by rw[lB];exact aL m hm)
 ·rw[aA (by omega)];exact h.fr k (by omega)
 ·have hs:=(OE 0 w4).setCell (p:=⟨fb,0,none⟩) zL (.slice (some ⟨g,0,none⟩) (L.length+1) aJ);refine⟨hs.os.trans F.os,hs.tape.trans F.tape,hs.output.trans F.output,by omega,λ k C h1 h2 _=>(D k C h1 h2).1,λ k C=>?_⟩;by_cases e:k=g
  ·simp only[e,if_true];exact(Q (by omega)).symm
  ·simp only[aA e]
end
section
theorem eQ:(Tryz.prog.info? 180).map (λ i=>(i.zero,i.size,i.bytes))=some (some (.agg #[.int .i64 0,.slice none 0 0,.slice none 0 0]),3,56):=by kernel_rfl
attribute [local go_sem ↓] Go.wp_at_zero Go.wp_at_succ
def KH(fb:Nat)(w:tW)(O:Nat->Nat)(L:List NV)(t:NV)(vR:tV)(rc:List tV)(nR pl cn:Nat)(e:Ending)(w':tW):Prop:=
 e=.returned (.int .i64 (L.length:Int))/\∃O' o,FN fb w' O' (L++[t]) o vR rc nR pl cn/\FK w O w' O'
theorem uP{w:tW}{O:Nat->Nat}{L:List NV}{vN vR:tV}{rc:List tV}(h:FN fb w O L vN vR rc nR pl cn)(k:Nat)(la I:Option Addr)(D J n2 F:Nat)(x:RN)(Z:x.k=k)(ht:U6 w O ⟨x,.slice la D J,.slice I n2 F⟩)(aO:∀m,m∈x.l->m<L.length)(hn:L.length<=100000):
  QU MG 103 #[.pointer (some ⟨fb,0,none⟩),.agg #[.int .i64 (k:Int),.slice la D J,.slice I n2 F]] w (KH fb w O L ⟨x,.slice la D J,.slice I n2 F⟩ vR rc nR pl cn):=by
 have hB:Bl w (w.alloc (.cells #[.int .i64 (k:Int),.slice la D J,.slice I n2 F] 180)):=bR.alloc lR _;have HF:=fV (h.below hB);have HT:=fV (ht.keep (w':=w.alloc (.cells #[.int .i64 (k:Int),.slice la D J,.slice I n2 F] 180)) (O':=O) hB.size (λ k Z _=>⟨hB.block k Z,rfl⟩));have bS:=fV (FK.of_below hB O);have g0:(w.alloc (.cells #[.int .i64 (k:Int),.slice la D J,.slice I n2 F] 180)).cell? ⟨w.heap.size,0,none⟩=some (.int .i64 (k:Int)):=by rw[NF];rfl
 have g1:(w.alloc (.cells #[.int .i64 (k:Int),.slice la D J,.slice I n2 F] 180)).cell? ⟨w.heap.size,1,none⟩=some (.slice la D J):=by rw[NF];rfl
 have g2:(w.alloc (.cells #[.int .i64 (k:Int),.slice la D J,.slice I n2 F] 180)).cell? ⟨w.heap.size,2,none⟩=some (.slice I n2 F):=by rw[NF];rfl
 have cN:fb<(w.alloc (.cells #[.int .i64 (k:Int),.slice la D J,.slice I n2 F] 180)).heap.size:=HF.o.wt.2;have c0:=HF.o.c0;have f0:=HF.o.fz 0;have U:=fV HF.o.rn;obtain⟨a0,q0,e0⟩:=gA h.rn;have bT:=fV e0;obtain⟨n,en⟩:=xE (L.length)
 rw[e0]at c0 U;rw[en]at c0 U hn;have V:=fV en;have aL:QP (∀k,(OC a0 n q0).ownBlock=some k->fb+1<=k):=λ k Z=>(U.o.lt k Z).1
 have bK:=fV aO;have bC:=fV Z;clear h hB ht aO e0 en Z;go_enter func103,ntmps103;go_upto_region 1 with fail;generalize w.alloc (.cells #[.int .i64 (k:Int),.slice la D J,.slice I n2 F] 180)=W at*;go_region_law ((refine qJ W.drew rfl (.tmp 9) (.tmp 11) 62 rfl (fb+1) 180 (.agg #[.int .i64 0,.slice none 0 0,.slice none 0 0]) 3 56 underlying62 eQ rfl (by decide) (by decide) (.slice a0 n q0) n (Zc L) [.int .i64 (k:Int),.slice la D J,.slice I n2 F] _ rfl U.o W.heap.size rfl rfl rfl (by simp[NM]) (by omega) (by show fb+1<=W.heap.size;omega) ?_;intro g4 cap4 w4 Q C X cF;have m3:=((gH C (k:=fb) (by show fb<W.heap.size;omega) (λ e=>by have:=aL.o fb e.symm;omega)).1 0).trans c0;have n3:=((gH C (k:=fb) (by show fb<W.heap.size;omega) (λ e=>by have:=aL.o fb e.symm;omega)).2 0).trans f0;have bO:=fV Q;have aW:=fV C;have bM:=fV X;clear Q C X))
 all_goals
  obtain⟨Y,aR⟩:=(HF.o.draw 1).add (t:=⟨x,.slice la D J,.slice I n2 F⟩) V.o (by rw[bT.o,V.o]) (by unfold NV.cells;rw[bC.o];exact bO.o) aW.o bM.o (HT.o.keep lR (λ _ _ _=>⟨rfl,rfl⟩)) (λ m hm=>by rw[<-V.o];exact bK.o m hm);have aT:=fV Y;have bN:=fV (bS.o.trans ((FK.of_below (w:=W) (w':=W.drewN 1) ⟨rfl,rfl,rfl,lR,λ _ _=>rfl⟩ O).trans aR));have d0:=Y.c0;have wn:IntKind.i64.wrap ((n:Int)+1-1)=(n:Int):=by rw[show(n:Int)+1-1=(n:Int) by omega];exact IntWalk.i64_in _ (by omega)
  clear Y aR c0 f0 g0 g1 g2 m3 n3;generalize w4.setCell ⟨fb,0,none⟩ (.slice (some ⟨g4,0,none⟩) (n+1) cap4)=W5 at*;go_wp2;go_ret;exact⟨by rw[V.o];first|rfl|(simp;done)|(congr 2;omega),_,_,aT.o,bN.o⟩
end
def KD(w:tW)(t:NV):Prop:=
 (t.x.k=0/\t.x.l=[]/\t.l=.slice none 0 0/\∃g,t.i=.slice (some ⟨g,0,none⟩) 256 256/\g<w.heap.size/\∀i,i<256->w.cell? ⟨g,i,none⟩=some (.bool (t.x.f i)))\/
 (t.x.k≠0/\t.i=.slice none 0 0/\∃g aJ,t.l=.slice (some ⟨g,0,none⟩) t.x.l.length aJ/\g<w.heap.size/\(∀(i m:Nat),t.x.l[i]?=some m->w.cell? ⟨g,i,none⟩=some (.int .i64 (m:Int)))/\t.x.l.length<=aJ)
theorem U6.read{w:tW}{O:Nat->Nat}{t:NV}(h:U6 w O t):KD w t:=by
 rcases h with⟨C,D,J,g,o,_,F,I⟩|⟨C,D,g,aJ,o,_,F,I⟩
 ·exact .inl ⟨C,D,J,g,o,F,I.c⟩
 ·exact .inr ⟨C,D,g,aJ,o,F,I⟩
theorem KD.below{w w':tW}{t:NV}(h:KD w t)(D:Below B w w')(X:w.heap.size<=B):KD w' t:=by
 have V:=D.size;rcases h with⟨C,F,J,g,I,U,o⟩|⟨C,F,g,aJ,I,U,o⟩
 ·exact .inl ⟨C,F,J,g,I,by omega,λ i hi=>(D.cell (p:=⟨g,i,none⟩) (by show g<B;omega)).trans (o i hi)⟩
 ·exact .inr ⟨C,F,g,aJ,I,by omega,λ i m Q=>(D.cell (p:=⟨g,i,none⟩) (by show g<B;omega)).trans (o.1 i m Q),o.2⟩
structure FR(fb:Nat)(w:tW)(L:List NV)(gN aJ:Nat):Prop where
 c0:w.cell? ⟨fb,0,none⟩=some (.slice (some ⟨gN,0,none⟩) L.length aJ)
 nd:∀(j:Nat)(t:NV),L[j]?=some t->w.rangeAt gN (j*3) t.cells/\KD w t
 b0:fb<w.heap.size
 b1:gN<w.heap.size
theorem FR.below{w w':tW}{L:List NV}(h:FR fb w L gN aJ)(o:Below B w w')(F:w.heap.size<=B):FR fb w' L gN aJ:=by
 have J:=o.size;have Q:=h.b0;have I:=h.b1;exact⟨(o.cell (p:=⟨fb,0,none⟩) (by show fb<B;omega)).trans h.c0,λ j t C=>⟨λ i v D=>(o.cell (p:=⟨gN,j*3+i,none⟩) (by show gN<B;omega)).trans ((h.nd j t C).1 i v D),(h.nd j t C).2.below o F⟩,by omega,by omega⟩
theorem FN.read{w:tW}{O:Nat->Nat}{L:List NV}{vN vR:tV}{rc:List tV}(h:FN fb w O L vN vR rc nR pl cn)(hL:0<L.length):∃gN aJ,vN=.slice (some ⟨gN,0,none⟩) L.length aJ/\FR fb w L gN aJ:=by
 have C:=h.rn;rcases iL C with e|⟨g,aJ,e⟩
 ·exfalso;obtain⟨a,c,I⟩:=gA C;rw[e]at I;injection I with _ e3 _;omega
 ·refine⟨g,aJ,e,by rw[<-e];exact h.c0,λ j t F=>⟨λ i v o=>?_,(h.nd t (LZ F)).read⟩,h.wt.2,(C.lt g (by rw[e];rfl)).2⟩;have Y:=C.cells (g:=g) (by rw[e];rfl);obtain⟨U,Q,V⟩:=Tc L j t F;have D:∀u,(Zc L)[j*3+i]?=some u->w.cell? ⟨g,j*3+i,none⟩=some u:=λ u X=>by
   have:=Y (j*3+i) u X;have Z:(⟨g,0,none⟩:Addr).add (j*3+i)=⟨g,j*3+i,none⟩:=by
    unfold Addr.add;split
    ·rename_i J;rw[J]
    ·rw[MH]
   rw[Z]at this;exact this
  match i,o with
  | 0,o=>exact D v (by rw[MS,U];exact o)
  | 1,o=>exact D v (by rw[Q];exact o)
  | 2,o=>exact D v (by rw[V];exact o)
  | i+3,o=>exact absurd o (by simp[NV.cells])
theorem cK:(Tryz.prog.info? 180).map (λ i=>i.size)=some 3:=by kernel_rfl
theorem NV.one{w:tW}{t:NV}(h:KD w t):∀v∈t.cells,v.oneCell'=true:=by
 intro v o;have o:v=.int .i64 (t.x.k:Int)\/v=t.l\/v=t.i:=by simpa[NV.cells]using o
 rcases h with⟨_,_,F,g,C,_⟩|⟨_,D,g,aJ,C,_⟩
 ·rcases o with e|e|e
  ·rw[e];rfl
  ·rw[e,F];rfl
  ·rw[e,C];rfl
 ·rcases o with e|e|e
  ·rw[e];rfl
  ·rw[e,C];rfl
  ·rw[e,D];rfl
theorem N2{L:List NV}{t:NV}(h:L[n]?=some t):(jB L)[n]?=some t.x:=by unfold jB;rw[ME,h];rfl
theorem I8{L:List NV}(hs:rA (jB L))(hc:gI (jB L))(_hL:L.length<=100000):∀(n:Nat),n<L.length->∀(w:tW),FR fb w L gN aJ->
  QU MG 109 #[.pointer (some ⟨fb,0,none⟩),.int .i64 (n:Int)] w λ e w'=>e=.returned (.bool (xJ (jB L) n))/\Bl w w':=by
 intro n
 induction n using MT with
 | ind n ih=>
  intro hn w h;obtain⟨t,Z⟩:∃t,L[n]?=some t:=⟨L[n],LC hn⟩
  have HE:=fV (JV hs hc (N2 Z));have F:=hs n t.x (N2 Z);have HC:=fV (hc n t.x (N2 Z));have bT:=fV ih;have aL:=fV (h.nd n t Z).1;have X:=fV (h.nd n t Z).2;have eL:(0:Int)<=(n:Int)/\(n:Int)<(L.length:Int):=by omega
  have c0:=h.c0;have HF:=fV h;have C:QP (Bl w ((w.alloc (.cells #[.int .i64 0,.slice none 0 0,.slice none 0 0] 180)).setCells w.heap.size 0 t.cells)):=fX _ 0 _ _ (bR.alloc lR _) lR;have Q:QP ((w.alloc (.cells #[.int .i64 0,.slice none 0 0,.slice none 0 0] 180)).there w.heap.size 0 3):=iD _ _ _ _ _ rfl rfl;have V:QP (((w.alloc (.cells #[.int .i64 0,.slice none 0 0,.slice none 0 0] 180)).setCells w.heap.size 0 t.cells).rangeAt w.heap.size 0 t.cells):=World.rangeAt_setCells_same _ _ _ _ Q.o;have aW:w.heap.size<((w.alloc (.cells #[.int .i64 0,.slice none 0 0,.slice none 0 0] 180)).setCells w.heap.size 0 t.cells).heap.size:=by
   have:=(fX t.cells 0 (w.alloc (.cells #[.int .i64 0,.slice none 0 0,.slice none 0 0] 180)) w.heap.size (OE 0 _) zL).size;simp at this;omega
  have aO:=fV (NV.one X.o);clear ih h Z;go_enter func109,ntmps109;go_upto_region 2 with(first
   | (refine wpList_load_mid rfl 180 (.tmp 15) rfl gN (n*3) rfl t.cells _ aL.o underlying180 rfl cK ?_)
   | (refine wpList_store_mid rfl 180 (.tmp 5) (.tmp 16) rfl w.heap.size 0 t.cells.toArray rfl rfl Q.o cK (all_oneCell_toArray aO.o) ?_))
  generalize (w.alloc (.cells #[.int .i64 0,.slice none 0 0,.slice none 0 0] 180)).setCells w.heap.size 0 t.cells=W at*;have bO:=fV (HF.o.below C.o lR);have bK:=fV (X.o.below C.o lR);have n0:W.cell? ⟨w.heap.size,0,none⟩=some (.int .i64 (t.x.k:Int)):=by have:=V.o 0 _ rfl;exact this
  have n1:W.cell? ⟨w.heap.size,1,none⟩=some t.l:=by have:=V.o 1 _ rfl;exact this
  clear Q aL c0 V aO HF X;have h5:t.x.k=0\/t.x.k=3\/t.x.k=4\/(t.x.k=1\/t.x.k=2):=by omega
  rcases h5 with e|e|e|e
  ·have J:QP (xJ (jB L) n=false):=by unfold QP;rw[HE.o,aB e]
   rw[e]at n0;clear e F;go_wp2;go_ret;exact⟨by rw[J.o];rfl,C.o⟩
  ·have J:QP (xJ (jB L) n=true):=by unfold QP;rw[HE.o,aA (by omega),aB (by omega)]
   rw[e]at n0;clear e F;go_wp2;go_ret;exact⟨by rw[J.o];rfl,C.o⟩
  ·have J:QP (xJ (jB L) n=true):=by unfold QP;rw[HE.o,aA (by omega),aB (by omega)]
   rw[e]at n0;clear e F;go_wp2;go_ret;exact⟨by rw[J.o];rfl,C.o⟩
  ·obtain⟨g,lc,hl,hg,HG⟩:∃g lc,t.l=.slice (some ⟨g,0,none⟩) t.x.l.length lc/\g<W.heap.size/\QP (∀(i m:Nat),t.x.l[i]?=some m->W.cell? ⟨g,i,none⟩=some (.int .i64 (m:Int))):=by
    rcases bK.o with⟨h0,_⟩|⟨_,_,g,lc,h1,h2,h3⟩
    ·omega
    ·exact⟨g,lc,h1,h2,fV h3.1⟩
   rw[hl]at n1;have bN:=F.2.2;have J:QP (xJ (jB L) n=if t.x.k=1 then t.x.l.all (xJ (jB L))else t.x.l.any (xJ (jB L))):=by unfold QP;rw[HE.o,aA (by omega),aA (by omega)]
   have d0:((t.x.k:Int)==0)=false:=by rw[aC];omega
   have d3:((t.x.k:Int)==3)=false:=by rw[aC];omega
   have d4:((t.x.k:Int)==4)=false:=by rw[aC];omega
   have bS:=fV e;clear e F hl HE bK;generalize t.x.k=kk at*;generalize t.x.l=l at*;obtain⟨N,eN⟩:=xE (l.length)
   rw[eN]at n1 bN;have aT:=fV eN;clear eN;go_wp2
   go_loopw [6,7,8] (λ x y z wr=>∃(i:Nat)(a b:Bool),i<=N/\z=.int .i64 (i:Int)/\x=.bool a/\y=.bool b/\QP (a=(l.take i).all (xJ (jB L)))/\QP (b=(l.take i).any (xJ (jB L)))/\Bl W wr) (λ _ _ z _=>N-(QO z).toNat)
   case atStart=>exact⟨0,true,false,by omega,rfl,rfl,rfl,fV (by simp),fV (by simp),bR⟩
   case round=>
    obtain⟨i,a,b,hi,rfl,rfl,rfl,Ha,Hb,D⟩:=hrel;have I:=fV D;have m0:wr.cell? ⟨w.heap.size,0,none⟩=some (.int .i64 (kk:Int)):=(D.cell (p:=⟨w.heap.size,0,none⟩) aW).trans n0;have m1:wr.cell? ⟨w.heap.size,1,none⟩=some (.slice (some ⟨g,0,none⟩) N lc):=(D.cell (p:=⟨w.heap.size,1,none⟩) aW).trans n1;by_cases aR:i<N
    ·obtain⟨m,hm⟩:∃m,l[i]?=some m:=⟨l[i]'(by rw[aT.o];exact aR),LC _⟩
     have cN:=HC.o m (LZ hm);have m2:wr.cell? ⟨g,i,none⟩=some (.int .i64 (m:Int)):=(D.cell (p:=⟨g,i,none⟩) hg).trans (HG.o i m hm);have cP:=iI i N (by omega)
     have HA:=fV (AD (xJ (jB L)) l hm);have HY:=fV (e8 (xJ (jB L)) l hm);have bM:=fV (bO.o.below D lR);clear D n0 n1 hm
     cases a<;>cases b
     all_goals
      go_wp2_with (go_at_call 109;refine(bT.o m cN (by omega) _ (bM.o.below ⟨rfl,rfl,rfl,lR,λ _ _=>rfl⟩ lR)).mono ?_;rintro e w5 ⟨rfl,bC⟩;have cF:=fV bC;clear bC)
      all_goals
      go_roundw
      case rel=>exact⟨i+1,_,_,aR,by go_num,rfl,rfl,fV (by rw[HA.o,<-Ha.o];simp),fV (by rw[HY.o,<-Hb.o];simp),I.o.trans (cF.o.mono I.o.size)⟩
      case measure=>simp[QO];omega
    ·have ei:i=N:=by omega
     have HT:QP (l.take i=l):=by unfold QP;rw[ei,<-aT.o];exact OV
     have dl:=dF i N (by omega)
     clear ei D n0 n1;rcases bS.o with Y|Y
     ·have U:QP (xJ (jB L) n=(l.take i).all (xJ (jB L))):=by unfold QP;rw[J.o,aB Y,HT.o]
      rw[Y]at m0;clear Y;go_wp2;go_ret;exact⟨by rw[U.o,<-Ha.o];rfl,C.o.trans (I.o.mono C.o.size)⟩
     ·have U:QP (xJ (jB L) n=(l.take i).any (xJ (jB L))):=by unfold QP;rw[J.o,aA (by omega),HT.o]
      rw[Y]at m0;clear Y;go_wp2;go_ret;exact⟨by rw[U.o,<-Hb.o];rfl,C.o.trans (I.o.mono C.o.size)⟩
section
variable {w w':tW}{O O':Nat->Nat}{fb nR pl cn:Nat}{L:List NV}{vN vR:tV}{rc:List tV}
def Et(L:List NV)(pl:Nat):Prop:=rA (jB L)/\((jB L).filter (λ x=>x.k==0)).length=pl
theorem Et.le(h:Et L pl):pl<=L.length:=by
 rw[<-h.2,<-lB L];exact List.length_filter_le _ _
theorem Et.place(h:Et L pl){t:NV}(o:t.x.k=0)(C:t.x.l=[]):Et (L++[t]) (pl+1):=by
 refine⟨by rw[nK];exact h.1.snoc ⟨by omega,λ e=>by omega,by rw[C];simp⟩,?_⟩;rw[nK,OO,LD,h.2];simp[o]
theorem Et.more(h:Et L pl){t:NV}(o:0<t.x.k/\t.x.k<=4)(C:t.x.k=3->∃m,t.x.l=[m])(D:t.x.l.length<=200):Et (L++[t]) pl:=by
 refine⟨by rw[nK];exact h.1.snoc ⟨o.2,C,D⟩,?_⟩;rw[nK,OO,LD,h.2];have:(t.x.k==0)=false:=by rw[aC];omega
 simp[this]
theorem FN.pls(h:FN fb w O L vN vR rc nR pl cn)(p:Nat):FN fb (w.setCell ⟨fb,2,none⟩ (.int .i64 (p:Int))) O L vN vR rc nR p cn/\FK w O (w.setCell ⟨fb,2,none⟩ (.int .i64 (p:Int))) O:=by
 obtain⟨D,Y⟩:=h.wt;have C:∀k,k≠fb->(w.setCell ⟨fb,2,none⟩ (.int .i64 (p:Int))).heap[k]?=w.heap[k]? :=λ k o=>iC w fb 2 _ o
 have X:(w.setCell ⟨fb,2,none⟩ (.int .i64 (p:Int))).heap.size=w.heap.size:=by simp[NC]
 have I:∀i,i≠2->(w.setCell ⟨fb,2,none⟩ (.int .i64 (p:Int))).cell? ⟨fb,i,none⟩=w.cell? ⟨fb,i,none⟩:=λ i hi=>MM _ _ _ _ (by intro Q;injection Q;omega)
 have F:=(OE 0 w).setCell (p:=⟨fb,2,none⟩) zL (.int .i64 (p:Int));refine⟨⟨(I 0 (by omega)).trans h.c0,(I 1 (by omega)).trans h.c1,MN _ _ _ h.c2,(I 3 (by omega)).trans h.c3,λ i=>by rw[MV];exact h.fz i,⟨D,by omega⟩,
  iH h.rn (λ k o=>C k (by have:=(h.rn.lt k o).1;omega)),iH h.rr (λ k o=>C k (by have:=(h.rr.lt k o).1;omega)),h.tn,h.tr,
  λ t U=>(h.nd t U).keep (by omega) (λ k o J=>⟨C k (λ e=>by rw[e,D]at J;cases J),rfl⟩),h.cl,λ k o=>h.fr k (by omega)⟩,
  ⟨F.os,F.tape,F.output,by omega,λ k o V _ _=>C k (λ e=>V (by rw[e];exact D)),λ _ _=>rfl⟩⟩
theorem FK.tag(h:FK w O w' O')(hg:w.heap.size<=g):FK w O w' (λ k=>if k=g then 4 else O' k):=
 ⟨h.os,h.tape,h.output,h.size,h.block,λ k o=>by
  simp only[aA (show k≠g by omega)];exact h.own k o⟩
def uL(q fb:Nat)(w:tW)(O:Nat->Nat)(L:List NV)(vR:tV)(rc:List tV)(nR pl cn i:Nat)(x:Option (Rx×Nat))(e:Ending)(w':tW):Prop:=
 match x with
 | none=>∃(a b:Int)(O':Nat->Nat),e=.returned (.tuple #[.int .i64 a,.int .i64 b,.bool false])/\FK w O w' O'
 | some (r,a)=>∃(n:Nat)(M:List NV)(o:tV)(O':Nat->Nat),e=.returned (.tuple #[.int .i64 (n:Int),.int .i64 (a:Int),.bool true])/\FN fb w' O' (L++M) o vR rc nR (pl+r.np) cn/\FK w O w' O'/\Stn.Sem (jB (L++M)) n r/\Et (L++M) (pl+r.np)/\M.length+q<=3*(a-i)
def Qp(F:FuncId)(s:tB)(q p lo:Nat)(ex:Nat->Option (Rx×Nat)):Prop:=
 ∀(fb:Nat)(w:tW)(O:Nat->Nat)(L:List NV)(vN vR:tV)(rc:List tV)(nR pl cn i:Nat),FN fb w O L vN vR rc nR pl cn->Et L pl->lo<=i->i+p<=s.size->L.length+3*(s.size-i)<=5000->
  QU MG F #[.pointer (some ⟨fb,0,none⟩),.string s,.int .i64 (i:Int)] w (uL q fb w O L vR rc nR pl cn i (ex i))
end
theorem uL.bad{w w':tW}{O O':Nat->Nat}{L:List NV}{vR:tV}{rc:List tV}{a b:Int}(h:FK w O w' O'):uL q fb w O L vR rc nR pl cn i none (.returned (.tuple #[.int .i64 a,.int .i64 b,.bool false])) w':=⟨a,b,O',rfl,h⟩
theorem uL.good{w w':tW}{O O':Nat->Nat}{L M:List NV}{vN' vR:tV}{rc:List tV}{r:Rx}(F:FN fb w' O' (L++M) vN' vR rc nR (pl+r.np) cn)(o:FK w O w' O')(D:Stn.Sem (jB (L++M)) n r)(I:Et (L++M) (pl+r.np))(C:M.length+q<=3*(a-i)):
  uL q fb w O L vR rc nR pl cn i (some (r,a)) (.returned (.tuple #[.int .i64 (n:Int),.int .i64 (a:Int),.bool true])) w':=⟨n,M,vN',O',rfl,F,o,D,I,C⟩
theorem Wt{s:tB}{ex:Nat->Option (Rx×Nat)}(hi:i<s.size)(h:bt s i=40):mC s ex i=match qN s ex (i+1)with
  | none=>none
  | some (r,a1)=>if kU s 41 a1=true then some (r,a1+1)else none:=by
 rw[<-Xq];unfold mC;have e:kU s 40 i=true:=by have:=kB hi 40;rw[show((40:Nat):Int)=40 from rfl]at this;rw[this];simp[h]
 rw[aB e]
 rfl
theorem Sg{s:tB}{ex:Nat->Option (Rx×Nat)}(hi:i<s.size)(h:bt s i≠40):mC s ex i=match jC s i with
  | none=>none
  | some (f,a1)=>some (.pl f,a1):=by
 unfold mC;have e:¬kU s 40 i=true:=by have:=kB hi 40;rw[show((40:Nat):Int)=40 from rfl]at this;rw[this];simp[h]
 rw[aA e]
 rfl
theorem Vy{s:tB}{ex:Nat->Option (Rx×Nat)}{i a:Nat}{r:Rx}(h:qN s ex i=some (r,a)):s.size<=a\/bt s a=41:=by
 unfold qN at h
 cases e:ex i with
 | none=>rw[e]at h;cases h
 | some y=>
  obtain⟨D,C⟩:=y;rw[e]at h;simp only at h;split at h
  ·rename_i o;injection h with h;injection h with _ h;rw[<-h];unfold uN at o;rw[aE]at o;exact o
  ·cases h
theorem Wy{s:tB}{ex:Nat->Option (Rx×Nat)}(hs:s.size<=500)(hx:Qp 76 s 0 0 lo (qN s ex))(hb:tC s ex):Qp 116 s 2 1 (lo-1) (mC s ex):=by
 intro fb w O L vN vR rc nR pl cn i h Q hB hi hL;have hp:pl<=5000:=by have:=Q.le;omega
 have hi:i<s.size:=hi;have hy:(s[i]'hi).toNat=bt s i:=kM s i hi;have eM:=mT s i;have hA:(0:Int)<=(i:Int)/\(i:Int)<(s.size:Int):=by omega
 have aL:(i:Int)+1=((i+1:Nat):Int):=by omega
 by_cases k1:bt s i=40
 ·have HE:=fV (Wt (ex:=ex) hi k1);rw[k1]at hy;have HX:QP (∀W,FN fb W O L vN vR rc nR pl cn->QU MG 76 #[.pointer (some ⟨fb,0,none⟩),.string s,.int .i64 ((i:Int)+1)] W (uL 0 fb W O L vR rc nR pl cn (i+1) (qN s ex (i+1)))):=λ W hW=>by
   rw[aL];exact hx fb W O L vN vR rc nR pl cn (i+1) hW Q (by omega) (by omega) (by omega)
  have V:=fV h;have aW:=fV (λ r a=>Sv hb (i+1) r a);have aT:=fV (λ r a=> @Vy s ex (i+1) a r);clear hx hb h k1 aL eM;generalize qN s ex (i+1)=A at*
  cases A with
  | none=>
   go_enter OD,NZ;go_wp2_with fail;refine(HX.o _ (V.o.below ⟨rfl,rfl,rfl,lR,λ _ _=>rfl⟩)).mono ?_;rintro e w1 ⟨a,b,O',rfl,J⟩;have HK:=fV J;clear J;go_wp2;go_ret3;rw[HE.o];exact uL.bad HK.o
  | some y=>
   obtain⟨r,a1⟩:=y;have eX:=aW.o r a1 rfl;have Z:=aT.o r a1 rfl;clear aW aT;by_cases ha:a1<s.size
   ·have Y:bt s a1=41:=Z.resolve_left (by omega);have hz:(s[a1]'ha).toNat=41:=by rw[kM s a1 ha];exact Y
    have X:QP (mC s ex i=some (r,a1+1)):=by
     unfold QP;rw[HE.o];have e:kU s 41 a1=true:=by have:=kB ha 41;rw[show((41:Nat):Int)=41 from rfl]at this;rw[this];simp[Y]
     simp only;rw[aB e]
    have hC:(0:Int)<=(a1:Int)/\(a1:Int)<(s.size:Int):=by omega
    clear Y Z;go_enter OD,NZ;go_wp2_with fail;refine(HX.o _ (V.o.below ⟨rfl,rfl,rfl,lR,λ _ _=>rfl⟩)).mono ?_;rintro e w1 ⟨n,M,eL,O',rfl,hf,J,U,D,hM⟩;have F:=fV hf;have HK:=fV J;have eO:=fV U;have aR:=fV D;clear hf J U D;go_wp2;go_ret3;rw[X.o];exact uL.good F.o HK.o eO.o aR.o (by omega)
   ·have X:QP (mC s ex i=none):=by
     unfold QP;rw[HE.o];have e:¬kU s 41 a1=true:=by rw[show(41:Int)=((41:Nat):Int) from rfl,wO (by omega)];simp
     simp only;rw[aA e]
    clear Z;go_enter OD,NZ;go_wp2_with fail;refine(HX.o _ (V.o.below ⟨rfl,rfl,rfl,lR,λ _ _=>rfl⟩)).mono ?_;rintro e w1 ⟨n,M,eL,O',rfl,hf,J,U,D,hM⟩;have HK:=fV J;clear hf J U D;go_wp2;go_ret3;rw[X.o];exact uL.bad HK.o
 ·have HE:=fV (Sg (ex:=ex) hi k1);have t1:((bt s i:Int)==40)=false:=by rw[aC];omega
  have V:=fV h;have bO:=fV (λ f a=>Du s i f a);have aR:=fV Q;have HP:=fV (λ W=>Pw s i W hs hi);generalize bt s i=y at*;clear hx hb h k1 aL Q;generalize jC s i=A at*
  cases A with
  | none=>
   go_enter OD,NZ;go_wp2_with fail;refine(HP.o _).mono ?_;rintro e w1 ⟨C,v,a,rfl⟩;have HK:=fV (FK.of_below C O);clear C;go_wp2;go_ret3;rw[HE.o];exact uL.bad HK.o
  | some p=>
   obtain⟨f,a1⟩:=p;have eT:=bO.o f a1 rfl;clear bO;go_enter OD,NZ;go_wp2_with fail;refine(HP.o _).mono ?_;rintro e w1 ⟨C,g,rfl,aO,bM,bT⟩;have hw:=V.o.wt;have eS:=C.size;have F:=fV (V.o.below C);have bN:=fV (F.o.tag (g:=g) (V.o.fr g aO) bM);have cN:=fV ((FK.of_below C O).tag aO);have I:=fV (bN.o.pls (pl+1));have eN:QP (U6 w1 (λ k=>if k=g then 4 else O k) ⟨⟨0,[],f⟩,.slice none 0 0,.slice (some ⟨g,0,none⟩) 256 256⟩):= .inl ⟨rfl,rfl,rfl,g,rfl,aB rfl,bM,bT⟩;have bS:QP (U6 (w1.setCell ⟨fb,2,none⟩ (.int .i64 ((pl+1:Nat):Int))) (λ k=>if k=g then 4 else O k) ⟨⟨0,[],f⟩,.slice none 0 0,.slice (some ⟨g,0,none⟩) 256 256⟩):=eN.o.keep I.o.2.size (λ k J ho=>⟨iC w1 fb 2 _ (λ e=>by
    have:=bN.o.wt.1;rw[e]at ho;omega),rfl⟩)
   have c2:=F.o.c2;have f2:=F.o.fz 2;have bK:((pl+1:Nat):Int)=(pl:Int)+1:=by omega
   rw[bK]at I bS;clear C bT aO bK;go_wp2_with fail;generalize w1.setCell ⟨fb,2,none⟩ (.int .i64 ((pl:Int)+1))=W2 at*;refine(uP (I.o.1) 0 none (some ⟨g,0,none⟩) 0 0 256 256 ⟨0,[],f⟩ rfl bS.o (λ m hm=>absurd hm LK) (by omega)).mono ?_;rintro e w3 ⟨rfl,O3,gL,bC,cF⟩;have eR:=fV bC;have cP:=fV (cN.o.trans (I.o.2.trans cF));clear bC cF c2 f2;go_wp2;go_ret3;rw[HE.o];refine uL.good (r:= .pl f) eR.o cP.o ?_ (aR.o.place rfl rfl) (by simp;omega);rw[nK,<-lB L];exact Vk V.o.cl f
def kK(ns:List Nat):List tV:=ns.map (λ(m:Nat)=>Value.int .i64 (m:Int))
theorem FN.list{w:tW}{O:Nat->Nat}{L:List NV}{vN vR:tV}{rc:List tV}(h:FN fb w O L vN vR rc nR pl cn)(k:Nat)(C:k≠0)(ns:List Nat)(T:TypeId)(f:Nat->Bool):
  FN fb (w.alloc (.cells (kK ns).toArray T)) (λ j=>if j=w.heap.size then 4 else O j) L vN vR rc nR pl cn/\FK w O (w.alloc (.cells (kK ns).toArray T)) (λ j=>if j=w.heap.size then 4 else O j)/\
  U6 (w.alloc (.cells (kK ns).toArray T)) (λ j=>if j=w.heap.size then 4 else O j) ⟨⟨k,ns,f⟩,.slice (some ⟨w.heap.size,0,none⟩) ns.length ns.length,.slice none 0 0⟩:=by
 have o:Bl w (w.alloc (.cells (kK ns).toArray T)):=bR.alloc lR _;have F:(w.alloc (.cells (kK ns).toArray T)).heap.size=w.heap.size+1:=by simp
 refine⟨(h.below o).tag (h.fr _ lR) (by omega),(FK.of_below o O).tag lR,.inr ⟨C,rfl,w.heap.size,ns.length,rfl,aB rfl,by omega,λ i m D=>?_,lR⟩⟩;rw[NF];have:(kK ns)[i]?=some (.int .i64 (m:Int)):=by
  unfold kK;rw[ME,D]
  rfl
 simpa using this
theorem Rt{s:tB}{ex:Nat->Option (Rx×Nat)}{r:Rx}(h:mC s ex i=some (r,a1))(o:mE (gF s a1)=0):iZ s ex i=some (r,a1):=by
 unfold iZ;rw[h];simp only;rw[aB o]
theorem Pu{s:tB}{ex:Nat->Option (Rx×Nat)}{r:Rx}(h:mC s ex i=some (r,a1))(o:mE (gF s a1)≠0):iZ s ex i=some (R5 (mE (gF s a1)) r,a1+1):=by
 unfold iZ;rw[h];simp only;rw[aA o]
theorem Ru{s:tB}{ex:Nat->Option (Rx×Nat)}(h:mC s ex i=none):iZ s ex i=none:=by
 unfold iZ;rw[h]
theorem Qh{s:tB}{ex:Nat->Option (Rx×Nat)}(hs:s.size<=500)(hx:Qp 116 s 2 1 lo (mC s ex))(hb:tC s ex):Qp 104 s 2 1 lo (iZ s ex):=by
 intro fb w O L vN vR rc nR pl cn i h eT hH hi hL;have hi:i<s.size:=hi;have HX:QP (∀W,FN fb W O L vN vR rc nR pl cn->QU MG 116 #[.pointer (some ⟨fb,0,none⟩),.string s,.int .i64 (i:Int)] W (uL 2 fb W O L vR rc nR pl cn i (mC s ex i))):=λ W hW=>hx fb W O L vN vR rc nR pl cn i hW eT (by omega) (by omega) (by omega)
 have HF:=fV h;have cF:=fV (λ r a=>Ic hb i r a);have HN:QP (mC s ex i=none->iZ s ex i=none):=λ h=>Ru h
 have H0:QP (∀a1 r,mC s ex i=some (r,a1)->mE (gF s a1)=0->iZ s ex i=some (r,a1)):=λ a r h hm=>Rt h hm
 have HM:QP (∀a1 r,mC s ex i=some (r,a1)->mE (gF s a1)≠0->iZ s ex i=some (R5 (mE (gF s a1)) r,a1+1)):=λ a r h hm=>Pu h hm
 clear hx hb h;generalize mC s ex i=A at*
 cases A with
 | none=>
  have HN:=fV (HN.o rfl);go_enter func104,ntmps104;go_wp2_with fail;refine(HX.o _ (HF.o.below ⟨rfl,rfl,rfl,lR,λ _ _=>rfl⟩)).mono ?_;rintro e w1 ⟨a,b,O',rfl,hk⟩;have HK:=fV hk;clear hk;go_wp2;go_ret3;rw[HN.o];exact uL.bad HK.o
  all_goals trivial
 | some y=>
  obtain⟨r,a1⟩:=y;have hF:=cF.o r a1 rfl;have H0:=fV (H0.o a1 r rfl);have HM:=fV (HM.o a1 r rfl);clear cF HN;by_cases ha:a1<s.size
  ·have hz:(s[a1]'ha).toNat=bt s a1:=kM s a1 ha;have hI:(0:Int)<=(a1:Int)/\(a1:Int)<(s.size:Int):=by omega
   rw[lK ha]at H0 HM;generalize bt s a1=y at*;go_enter func104,ntmps104;go_upto_region 2 with fail;refine(HX.o _ (HF.o.below ⟨rfl,rfl,rfl,lR,λ _ _=>rfl⟩)).mono ?_;rintro e w1 ⟨n,M,eN,O',rfl,hf,hk,X,J,hM⟩;obtain⟨C,e1⟩:∃C,C=L++M:=⟨_,rfl⟩
   have hJ:C.length<=10000:=by rw[e1,LD];omega
   rw[<-e1]at hf X J;have D:=fV e1;clear e1;have I:=fV hf;have aT:=fV hk;have aL:=fV X;have aO:=fV J;have bM:n<C.length:=by rw[<-lB];exact X.1
   clear hf hk X J;by_cases k1:y=42
   ·have t1:((y:Int)==42)=true:=by rw[k1];rfl
    have HE:QP (iZ s ex i=some (.star r,a1+1)):=by
     unfold QP;rw[HM.o (by rw[k1];decide),k1]
     rfl
    clear k1 H0 HM;go_wp2_with fail;have F:=fV (I.o.list 3 (by decide) [n] 3 (λ _=>false));have Y:QP (∀m,m∈ [n]->m<C.length):=λ m hm=>by rw[LH.1 hm];exact bM
    refine(uP F.o.1 3 (some ⟨w1.heap.size,0,none⟩) none 1 1 0 0 ⟨3,[n],λ _=>false⟩ rfl F.o.2.2 Y.o (by omega)).mono ?_;rintro e w3 ⟨rfl,O3,bT,Q,U⟩;have V:=fV Q;have Z:=fV (aT.o.trans (F.o.2.1.trans U));clear Q U;go_wp2;go_ret3;rw[HE.o];refine uL.good (r:= .star r) (M:=M++[⟨⟨3,[n],λ _=>false⟩,.slice (some ⟨w1.heap.size,0,none⟩) 1 1,.slice none 0 0⟩]) (by rw[<-LR,<-D.o];exact V.o) Z.o ?_ (by rw[<-LR,<-D.o];exact aO.o.more (show 0<3/\3<=4 by decide) (λ _=>⟨n,rfl⟩) (by simp)) (by simp;omega);rw[<-LR,<-D.o,nK,<-lB C];exact Kg I.o.cl aL.o _
   ·have t1:((y:Int)==42)=false:=by rw[aC];omega
    by_cases k2:y=63
    ·have t2:((y:Int)==43)=false:=by rw[k2];rfl
     have t3:((y:Int)==63)=true:=by rw[k2];rfl
     have HE:QP (iZ s ex i=some (.opt r,a1+1)):=by
      unfold QP;rw[HM.o (by rw[k2];decide),k2]
      rfl
     clear k1 k2 H0 HM;go_wp2_with fail;have F:=fV (I.o.list 4 (by decide) [n] 3 (λ _=>false));have Y:QP (∀m,m∈ [n]->m<C.length):=λ m hm=>by rw[LH.1 hm];exact bM
     refine(uP F.o.1 4 (some ⟨w1.heap.size,0,none⟩) none 1 1 0 0 ⟨4,[n],λ _=>false⟩ rfl F.o.2.2 Y.o (by omega)).mono ?_;rintro e w3 ⟨rfl,O3,bT,Q,U⟩;have V:=fV Q;have Z:=fV (aT.o.trans (F.o.2.1.trans U));clear Q U;go_wp2;go_ret3;rw[HE.o];refine uL.good (r:= .opt r) (M:=M++[⟨⟨4,[n],λ _=>false⟩,.slice (some ⟨w1.heap.size,0,none⟩) 1 1,.slice none 0 0⟩]) (by rw[<-LR,<-D.o];exact V.o) Z.o ?_ (by rw[<-LR,<-D.o];exact aO.o.more (show 0<4/\4<=4 by decide) (λ e=>by cases e) (by simp)) (by simp;omega);rw[<-LR,<-D.o,nK,<-lB C];exact GS I.o.cl aL.o _
    ·have t3:((y:Int)==63)=false:=by rw[aC];omega
     by_cases k3:y=43
     ·have t2:((y:Int)==43)=true:=by rw[k3];rfl
      have HE:QP (iZ s ex i=some (.plus r,a1+1)):=by
       unfold QP;rw[HM.o (by rw[k3];decide),k3]
       rfl
      clear k1 k2 k3 H0 HM;go_wp2_with fail;have F:=fV (I.o.list 3 (by decide) [n] 3 (λ _=>false));have Y:QP (∀m,m∈ [n]->m<C.length):=λ m hm=>by rw[LH.1 hm];exact bM
      refine(uP F.o.1 3 (some ⟨w1.heap.size,0,none⟩) none 1 1 0 0 ⟨3,[n],λ _=>false⟩ rfl F.o.2.2 Y.o (by omega)).mono ?_;obtain⟨t,ht⟩:∃t:NV,t=⟨⟨3,[n],λ _=>false⟩,.slice (some ⟨w1.heap.size,0,none⟩) 1 1,.slice none 0 0⟩:=⟨_,rfl⟩
      rw[<-ht];rintro e w3 ⟨rfl,O3,bT,Q,U⟩;have HT:=fV ht;have V:=fV Q;have Z:=fV (aT.o.trans (F.o.2.1.trans U));have aR:QP (Et (C++[t]) (pl+r.np)):=aO.o.more (by rw[ht];exact(show 0<3/\3<=4 by decide)) (λ _=>⟨n,by rw[ht]⟩) (by rw[ht];simp);have bN:QP (Stn.Sem (jB (C++[t])) C.length (.star r)):=by
       unfold QP;rw[nK,<-lB C,ht];exact Kg I.o.cl aL.o _
      have aW:QP (Stn.Sem (jB (C++[t])) n r):=by
       unfold QP;rw[nK];exact aL.o.more I.o.cl _
      have gL:(C++[t]).length=C.length+1:=by simp
      obtain⟨gN,cp,hC,eL⟩:=Q.read (by omega);have eR:=fV eL;clear Q U hC eL ht F Y;go_wp2_with fail;refine(I8 aR.o.1 V.o.cl (by omega) n (by omega) _ (eR.o.below ⟨rfl,rfl,rfl,lR,λ _ _=>rfl⟩ lR)).mono ?_;rintro e w4 ⟨rfl,bC⟩;have cP:=fV (V.o.below bC);have bS:=fV (Z.o.trans (FK.of_below bC O3));have eM:QP (xJ (jB (C++[t])) n=true↔W r []):=(P7 aR.o.1 n).trans (aW.o.2.1 []);clear bC
      cases hem:xJ (jB (C++[t])) n with
      | true=>
       have HW:=fV (eM.o.1 hem);clear hem;go_wp2;go_ret3;rw[HE.o];refine uL.good (r:= .plus r) (M:=M++[t]) (by rw[<-LR,<-D.o];exact cP.o) bS.o ?_ (by rw[<-LR,<-D.o];exact aR.o) (by simp;omega);rw[<-LR,<-D.o];exact bN.o.congr (λ u=>(AX HW.o u).symm) rfl
      | false=>
       have eS:=fV hem;have eX:QP (∃f,(jB (C++[t]))[C.length]?=some ⟨3,[n],f⟩):=⟨λ _=>false,by rw[nK,<-lB C,HT.o];exact mN _⟩
       clear hem;go_wp2_with fail;have bK:=fV (cP.o.list 1 (by decide) [n,C.length] 3 (λ _=>false));have hB:QP (∀m,m∈ [n,C.length]->m<(C++[t]).length):=λ m hm=>by
        rcases MF.1 hm with e|e
        ·rw[e];omega
        ·rw[LH.1 e];omega
       refine(uP bK.o.1 1 (some ⟨w4.heap.size,0,none⟩) none 2 2 0 0 ⟨1,[n,C.length],λ _=>false⟩ rfl bK.o.2.2 hB.o (by omega)).mono ?_;rintro e w6 ⟨rfl,O6,hG,cN,bO⟩;have hA:=fV cN;have eO:=fV (bS.o.trans (bK.o.2.1.trans bO));clear cN bO;go_wp2;go_ret3;rw[HE.o];have ea:L++(M++[t,⟨⟨1,[n,C.length],λ _=>false⟩,.slice (some ⟨w4.heap.size,0,none⟩) 2 2,.slice none 0 0⟩])=(C++[t])++[⟨⟨1,[n,C.length],λ _=>false⟩,.slice (some ⟨w4.heap.size,0,none⟩) 2 2,.slice none 0 0⟩]:=by rw[D.o];simp
       refine uL.good (r:= .plus r) (M:=M++[t,⟨⟨1,[n,C.length],λ _=>false⟩,.slice (some ⟨w4.heap.size,0,none⟩) 2 2,.slice none 0 0⟩]) (by rw[ea];exact hA.o) eO.o ?_ (by rw[ea];exact aR.o.more (show 0<1/\1<=4 by decide) (λ e=>by cases e) (by simp)) (by simp;omega);rw[ea,nK,<-gL,<-lB (C++[t])];exact Zt V.o.cl aW.o bN.o eX.o eS.o _
     ·have t2:((y:Int)==43)=false:=by rw[aC];omega
      have HE:QP (iZ s ex i=some (r,a1)):=H0.o (by unfold mE;rw[aA (by omega),aA (by omega),aA (by omega)]);clear k1 k2 k3 H0 HM;go_wp2;go_ret3;rw[HE.o];exact uL.good (M:=M) (by rw[<-D.o];exact I.o) aT.o (by rw[<-D.o];exact aL.o) (by rw[<-D.o];exact aO.o) (by omega)
  ·have HE:QP (iZ s ex i=some (r,a1)):=H0.o (by rw[jW (by omega)];rfl);go_enter func104,ntmps104;go_wp2_with fail;refine(HX.o _ (HF.o.below ⟨rfl,rfl,rfl,lR,λ _ _=>rfl⟩)).mono ?_;rintro e w1 ⟨n,M,eN,O',rfl,hf,hk,X,J,hM⟩;have I:=fV hf;have HK:=fV hk;have hD:=fV X;have hE:=fV J;clear hf hk X J;go_wp2;go_ret3;rw[HE.o];exact uL.good I.o HK.o hD.o hE.o (by omega)
section
theorem Ok(ns:List Nat)(n:Nat):kK (ns++[n])=kK ns++[.int .i64 (n:Int)]:=by unfold kK;simp
theorem qH(h:ns[i]?=some m):(kK ns)[i]?=some (.int .i64 (m:Int)):=by unfold kK;rw[ME,h];rfl
structure qV(w:tW)(O:Nat->Nat)(B:Nat)(v:tV)(ns:List Nat):Prop where
 ro:w.ownsRow B 3 1 v ns.length (kK ns)
 tg:∀k,v.ownBlock=some k->O k=0
theorem qV.start(w:tW)(O:Nat->Nat)(B:Nat):qV w O B (.slice none 0 0) []:=⟨MY w B _ 1,λ k o=>by cases o⟩
variable {w w1 w4:tW}{O O1 O2:Nat->Nat}{fb nR pl cn:Nat}{L:List NV}{vN vR:tV}{rc:List tV}{B:Nat}{v v2:tV}{ns ms:List Nat}
theorem qV.keep(h:qV w O B v ns)(o:FK w O w1 O1):qV w1 O1 B v ns:=
 ⟨iH h.ro (λ k e=>o.block k (h.ro.lt k e).2 (by have:=h.tg k e;omega) (by have:=h.tg k e;omega) (by have:=h.tg k e;omega)),λ k e=>(o.own k (h.ro.lt k e).2).trans (h.tg k e)⟩
theorem qV.tagged(h:qV w O B v ns){g:Nat}(hg:v.ownBlock≠some g):qV w (λ k=>if k=g then 4 else O k) B v ns:=
 ⟨h.ro,λ k e=>by
  have:k≠g:=λ o=>hg (by rw[e,o])
  simp only[aA this];exact h.tg k e⟩
theorem qV.app(X:FN fb w1 O1 L vN vR rc nR pl cn)(F:FK w O w1 O1)(h:qV w1 O1 w.heap.size v ns)(U:qV w1 O1 w.heap.size v2 ms)(Z:∀k,v2.ownBlock=some k->v.ownBlock≠some k){o:Obj}{g aJ n:Nat}
  (Q:w4.ownsRow w.heap.size 3 1 (.slice (some ⟨g,0,none⟩) (ns.length+1) aJ) (ns.length+1) (kK ns++[.int .i64 (n:Int)])) (D:(w1.alloc o).grownBy w4 v.ownBlock) (J:v.ownBlock=some g\/g=w1.heap.size+1):
  FN fb w4 O1 L vN vR rc nR pl cn/\FK w O w4 O1/\qV w4 O1 w.heap.size (.slice (some ⟨g,0,none⟩) (ns.length+1) aJ) (ns++[n])/\qV w4 O1 w.heap.size v2 ms/\(∀k,v2.ownBlock=some k->(OC (some ⟨g,0,none⟩) (ns.length+1) aJ).ownBlock≠some k):=by
 have aL:=D.size;have ez:(w1.alloc o).heap.size=w1.heap.size+1:=by simp
 have hz:=F.size;have C:∀k,k<w1.heap.size->v.ownBlock≠some k->w4.heap[k]?=w1.heap[k]? :=λ k F hv=>(D.block k (by omega) (λ e=>hv e.symm)).trans (MC w1 o k F)
 refine⟨X.keep (by omega) (λ k F h0=>⟨C k F (λ e=>h0 (h.tg k e)),rfl⟩) (λ k F=>X.fr k (by omega)),
  ⟨D.os.trans F.os,D.tape.trans F.tape,D.output.trans F.output,by omega,λ k Y a1 a2 a3=>(C k (by omega) (λ e=>by have:=(h.ro.lt k e).1;omega)).trans (F.block k Y a1 a2 a3),F.own⟩,
  ⟨by rw[Ok,LD,LS];exact Q,λ k e=>?_⟩,
  ⟨iH U.ro (λ k e=>C k (U.ro.lt k e).2 (Z k e)),U.tg⟩,λ k e V=>?_⟩
 ·have e:g=k:=by simpa[NE]using e
  rw[<-e];rcases J with I|I
  ·exact h.tg g I
  ·exact X.fr g (by omega)
 ·have V:g=k:=by simpa[NE]using V
  rcases J with I|I
  ·exact Z k e (by rw[<-V];exact I)
  ·have:=(U.ro.lt k e).2;omega
theorem qV.node(J:FN fb w1 O1 L vN vR rc nR pl cn)(I:FK w O w1 O1)(h:qV w1 O1 w.heap.size v ns)(hn:0<ns.length)(k:Nat)(F:k≠0)(f:Nat->Bool):
  ∃g aJ,v=.slice (some ⟨g,0,none⟩) ns.length aJ/\FN fb w1 (λ k=>if k=g then 4 else O1 k) L vN vR rc nR pl cn/\FK w O w1 (λ k=>if k=g then 4 else O1 k)/\
   U6 w1 (λ k=>if k=g then 4 else O1 k) ⟨⟨k,ns,f⟩,.slice (some ⟨g,0,none⟩) ns.length aJ,.slice none 0 0⟩:=by
 rcases iL h.ro with e|⟨g,aJ,e⟩
 ·exfalso;obtain⟨a,c,C⟩:=gA h.ro;rw[e]at C;injection C with _ V _;omega
 ·have o:=h.ro.lt g (by rw[e];rfl);refine⟨g,aJ,e,J.tag (h.tg g (by rw[e];rfl)) o.2,I.tag o.1,.inr ⟨F,rfl,g,aJ,rfl,aB rfl,o.2,λ i m Q=>?_,Tt (by rw[<-e];exact h.ro)⟩⟩;have:=h.ro.cells (g:=g) (by rw[e];rfl) i _ (qH Q);have U:(⟨g,0,none⟩:Addr).add i=⟨g,i,none⟩:=by
   unfold Addr.add;split
   ·rename_i D;rw[D]
   ·rw[MH]
  rw[U]at this;exact this
structure XI(s:tB)(ex:Nat->Option (Rx×Nat))(T:Option (Rx×Nat))(fb:Nat)(w:tW)(O:Nat->Nat)(L:List NV)(vR:tV)(rc:List tV)(nR pl cn i0:Nat)(wr:tW)(i:Nat)(vo vr:tV)(M:List NV)(vN:tV)(O1:Nat->Nat)(no nr:List Nat)(ors rs:List Rx):Prop where
 fn:FN fb wr O1 (L++M) vN vR rc nR (pl+yB ors+yB rs) cn
 fk:FK w O wr O1
 lo:qV wr O1 w.heap.size vo no
 lr:qV wr O1 w.heap.size vr nr
 di:∀k,vo.ownBlock=some k->vr.ownBlock≠some k
 so:sU (jB (L++M)) no ors
 sr:sU (jB (L++M)) nr rs
 ok:Et (L++M) (pl+yB ors+yB rs)
 b1:M.length<=3*(i-i0)
 b2:0<nr.length->M.length+2<=3*(i-i0)
 b3:no.length+nr.length<=i-i0
 ei:Mi s ex T ors rs i
theorem sU.len{N:List RN}{l:List Nat}{rs:List Rx}(h:sU N l rs):l.length=rs.length:=by
 induction h with
 | nil=>rfl
 | cons _ _ ih=>rw[MB,MB,ih]
end
section
variable {s:tB}{ex:Nat->Option (Rx×Nat)}{T:Option (Rx×Nat)}{fb:Nat}{w:tW}{O:Nat->Nat}{L:List NV}{vR:tV}{rc:List tV}{nR pl cn i0:Nat}{wr:tW}{i:Nat}{vo vr:tV}{M:List NV}{vN:tV}{O1:Nat->Nat}{no nr:List Nat}{ors rs:List Rx}{p:Rx}{ps:List Rx}
theorem M3(l m:List NV):jB (l++m)=jB l++jB m:=by unfold jB;simp
theorem Lg(r:Rx)(l:List Rx):yB (r::l)=r.np+yB l:=rfl
theorem XI.aK(h:XI s ex T fb w O L vR rc nR pl cn i0 wr i vo vr M vN O1 no nr ors (p::ps))(hs:s.size<=200)(Y:i<=s.size)(X:uN s i=true){U:tW}{O6:Nat->Nat}{J:tV}{t1 t2:NV}(D:t1.x=⟨1,nr,λ _=>false⟩)(Q:t2.x=⟨2,no++[(L++M).length],λ _=>false⟩)
  (hf:FN fb U O6 (((L++M)++[t1])++[t2]) J vR rc nR (pl+yB ors+yB (p::ps)) cn) (hk:FK w O U O6):
  uL 0 fb w O L vR rc nR pl cn i0 T (.returned (.tuple #[.int .i64 (((L++M).length+1:Nat):Int),.int .i64 (i:Int),.bool true])) U:=by
 have V:=sU.len h.sr;have aT:=sU.len h.so;have aL:0<nr.length:=by rw[V];simp
 have aO:=h.b2 aL;have aR:=h.b3;have F:pl+(Y5 ors (yA p ps)).np=pl+yB ors+yB (p::ps):=by rw[i9,Jq,Lg];omega
 have ea:L++(M++[t1,t2])=((L++M)++[t1])++[t2]:=by simp
 rw[h.ei.aZ Y X];have Z:gI (jB ((L++M)++[t1])):=by
  rw[nK];exact h.fn.cl.snoc (by rw[D];exact h.sr.lt)
 refine uL.good (M:=M++[t1,t2]) (O':=O6) (vN':=J) (by rw[ea,F];exact hf) hk ?_ (by
  rw[ea,F];exact(h.ok.more (by rw[D];exact(show 0<1/\1<=4 by decide)) (λ e=>by rw[D]at e;cases e) (by rw[D];show nr.length<=200;omega)).more (by rw[Q];exact(show 0<2/\2<=4 by decide)) (λ e=>by rw[Q]at e;cases e) (by rw[Q];show(no++[(L++M).length]).length<=200;rw[LD,LS];omega)) (by rw[LD];show M.length+2+0<=_;omega)
 obtain⟨o,os,I⟩:∃o os,ors++[yA p ps]=o::os:=by
  cases ors with
  | nil=>exact⟨_,_,rfl⟩
  | cons a b=>exact⟨_,_,rfl⟩
 rw[ea,nK,s9 I,Q];have e3:(L++M).length+1=(jB ((L++M)++[t1])).length:=by rw[lB];simp;omega
 rw[e3];refine JD Z ?_ _;rw[<-I];have C:Stn.Sem (jB ((L++M)++[t1])) (L++M).length (yA p ps):=by
  rw[nK,D,<-lB (L++M)];exact Ud h.fn.cl h.sr _
 refine sU.snoc ?_ C;rw[nK];exact h.so.more h.fn.cl _
theorem XI.bar(h:XI s ex T fb w O L vR rc nR pl cn i0 wr i vo vr M vN O1 no nr ors (p::ps))(hs:s.size<=200)(aL:i0<=i)(V:i<s.size)(D:bt s i=124){w4:tW}{Q:Nat->Nat}{o F:tV}{t1:NV}(J:t1.x=⟨1,nr,λ _=>false⟩)
  (hf:FN fb w4 Q ((L++M)++[t1]) o vR rc nR (pl+yB ors+yB (p::ps)) cn) (hk:FK w O w4 Q) (Z:qV w4 Q w.heap.size F (no++[(L++M).length])):
  XI s ex T fb w O L vR rc nR pl cn i0 w4 (i+1) F (.slice none 0 0) (M++[t1]) o Q (no++[(L++M).length]) [] (ors++[yA p ps]) []:=by
 have U:=sU.len h.sr;have X:0<nr.length:=by rw[U];simp
 have aO:=h.b2 X;have aR:=h.b3;have I:pl+yB (ors++[yA p ps])+yB []=pl+yB ors+yB (p::ps):=by rw[M0,Jq,Lg];show _+0=_;omega
 have Y:L++(M++[t1])=(L++M)++[t1]:=by simp
 have C:Stn.Sem (jB ((L++M)++[t1])) (L++M).length (yA p ps):=by
  rw[nK,J,<-lB (L++M)];exact Ud h.fn.cl h.sr _
 refine⟨by rw[Y,I];exact hf,hk,Z,qV.start _ _ _,λ k _ e=>(by cases e),?_,.nil,?_,?_,λ e=>absurd e (by simp),?_,h.ei.bar V D⟩
 ·rw[Y];refine sU.snoc ?_ C;rw[nK];exact h.so.more h.fn.cl _
 ·rw[Y,I];exact h.ok.more (by rw[J];exact(show 0<1/\1<=4 by decide)) (λ e=>by rw[J]at e;cases e) (by rw[J];show nr.length<=200;omega)
 ·rw[LD,LS];omega
 ·rw[LD,LS];show no.length+1+0<=_;omega
theorem XI.more(h:XI s ex T fb w O L vR rc nR pl cn i0 wr i vo vr M vN O1 no nr ors rs)(aL:i0<=i)(hx:tC s ex){o:Rx}{U:Nat}(hp:iZ s ex i=some (o,U)){w4:tW}{O2:Nat->Nat}{J D:tV}{C:List NV}{n:Nat}
  (F:Stn.Sem (jB ((L++M)++C)) n o) (Y:Et ((L++M)++C) (pl+yB ors+yB rs+o.np)) (hb:C.length+2<=3*(U-i))
  (hf:FN fb w4 O2 ((L++M)++C) J vR rc nR (pl+yB ors+yB rs+o.np) cn) (hk:FK w O w4 O2) (Z:qV w4 O2 w.heap.size vo no) (V:qV w4 O2 w.heap.size D (nr++[n])) (X:∀k,vo.ownBlock=some k->D.ownBlock≠some k):
  XI s ex T fb w O L vR rc nR pl cn i0 w4 U vo D (M++C) J O2 no (nr++[n]) ors (rs++[o]):=by
 have aO:=wS hx _ _ _ hp;have aT:=h.b1;have aR:=h.b3;have I:pl+yB ors+yB (rs++[o])=pl+yB ors+yB rs+o.np:=by rw[M0];omega
 have Q:L++(M++C)=(L++M)++C:=by simp
 refine⟨by rw[Q,I];exact hf,hk,Z,V,X,?_,?_,by rw[Q,I];exact Y,?_,λ _=>?_,?_,h.ei.piece hx hp⟩
 ·rw[Q,M3];exact h.so.more h.fn.cl _
 ·rw[Q];refine sU.snoc ?_ F;rw[M3];exact h.sr.more h.fn.cl _
 ·rw[LD];omega
 ·rw[LD];omega
 ·rw[LD,LS];omega
end
theorem qV.node2{w w1:tW}{O O1:Nat->Nat}{L:List NV}{vN vR:tV}{rc:List tV}(U:FN fb w1 O1 L vN vR rc nR pl cn)(I:FK w O w1 O1)(h:qV w1 O1 w.heap.size (.slice (some ⟨g,0,none⟩) m aJ) ns)(X:m=ns.length)(hn:0<ns.length)(k:Nat)(F:k≠0)(f:Nat->Bool):
  FN fb w1 (λ k=>if k=g then 4 else O1 k) L vN vR rc nR pl cn/\FK w O w1 (λ k=>if k=g then 4 else O1 k)/\
   U6 w1 (λ k=>if k=g then 4 else O1 k) ⟨⟨k,ns,f⟩,.slice (some ⟨g,0,none⟩) m aJ,.slice none 0 0⟩:=by
 obtain⟨Y,C,e,D,J,Q⟩:=h.node U I hn k F f;injection e with o _ V;injection o with o;injection o with o;subst o V;rw[X];exact⟨D,J,Q⟩
theorem bX:(Tryz.prog.info? 3).map (λ i=>(i.zero,i.size,i.bytes))=some (some (.int .i64 0),1,8):=by kernel_rfl
theorem Sm{s:tB}{f:Nat}(hs:s.size<=200)(hp:Qp 104 s 2 1 lo (iZ s (kR s f))):Qp 76 s 0 0 lo (qN s (kR s (f+1))):=by
 intro fb w O L vN vR rc nR pl cn i0 h hG H2 hi hL;have HB:=fV (xQ s f);have HS:=fV (Mi.start s f i0);obtain⟨T,hT⟩:∃T,T=qN s (kR s (f+1)) i0:=⟨_,rfl⟩
 rw[<-hT]at HS ⊢;clear hT;have HP:=fV hp;have HF:=fV h;have hX:=fV hG;clear hp h hG;obtain⟨ex,hD⟩:∃ex,ex=kR s f:=⟨_,rfl⟩
 rw[<-hD]at HB HS HP;clear hD;go_enter func76,ntmps76;go_wp2_with fail
 go_loopw [2,9,10] (λ z x y wr=>∃(i:Nat)(M:List NV)(cF:tV)(O1:Nat->Nat)(no nr:List Nat)(ors rs:List Rx),z=.int .i64 (i:Int)/\i0<=i/\i<=s.size/\XI s ex T fb w O L vR rc nR pl cn i0 wr i x y M cF O1 no nr ors rs) (λ z _ _ _=>s.size-(QO z).toNat)
 case atStart=>
  refine⟨i0,[],vN,O,[],[],[],[],rfl,lR,hi,⟨?_,FK.refl _ _,qV.start _ _ _,qV.start _ _ _,λ k e=>(by cases e),.nil,.nil,?_,by simp,λ e=>absurd e (by simp),by simp,HS.o⟩⟩
  ·rw[MA];exact HF.o
  ·rw[MA];exact hX.o
 case round=>
  obtain⟨i,M,cF,O1,no,nr,ors,rs,rfl,hS,qL,U⟩:=hrel;obtain⟨ar,cr,er⟩:=gA U.lr.ro;obtain⟨ao,co,eo⟩:=gA U.lo.ro;subst er eo;have F:=fV U;have B2:=U.b1;have H0:=U.b3;have H3:=U.fk.size;have hR:=sU.len U.sr;have cP:=fV hR;clear U HS HF hX hR;by_cases Q:uN s i=true
  ·have bS:s.size<=i\/∃h:i<s.size,(s[i]'h).toNat=41:=by
    unfold uN at Q;rw[aE]at Q;by_cases e:s.size<=i
    ·exact .inl e
    ·exact .inr ⟨by omega,by rw[kM s i (by omega)];exact Q.resolve_left e⟩
   have hE:=fV Q;clear Q
   cases rs with
   | nil=>
    have gL:nr=[]:=MZ.1 cP.o;have bT:QP (T=none):=F.o.ei.none0 (Cu (Tm hE.o));subst gL;rcases bS with tT|⟨V,eS⟩
    all_goals
     go_wp2;go_ret3;rw[bT.o];exact uL.bad F.o.fk
   | cons p ps=>
    have eR:0<nr.length:=by rw[cP.o];simp
    have rL:((nr.length:Int)==0)=false:=by rw[aC];omega
    obtain⟨g,eg⟩:∃g,ar=some ⟨g,0,none⟩:=by
     rcases iL F.o.lr.ro with e|⟨g,c,e⟩
     ·injection e with Y e2 e3;omega
     ·injection e with Y e2 e3;exact⟨g,Y⟩
    subst eg;have HN:=fV (qV.node2 F.o.fn F.o.fk F.o.lr rfl eR 1 (by decide) (λ _=>false));have bM:QP (∀m,m∈nr->m<(L++M).length):=λ m hm=>by have:=F.o.sr.lt m hm;rw[lB]at this;exact this
    have bN:(OC ao no.length co).ownBlock≠some g:=λ e=>F.o.di g e rfl
    have aW:=fV (F.o.lo.tagged bN);obtain⟨L1,Y⟩:∃L1,L1=L++M:=⟨_,rfl⟩
    have A0:L1.length<=6000:=by rw[Y,LD];omega
    rw[<-Y]at HN bM;have Z:=fV Y;clear Y bN;rcases bS with tT|⟨V,eS⟩
    all_goals
     go_wp2_with fail;refine(uP HN.o.1 1 (some ⟨g,0,none⟩) none nr.length cr 0 0 ⟨1,nr,λ _=>false⟩ rfl HN.o.2.2 bM.o (by omega)).mono ?_;obtain⟨t1,aO⟩:∃t:NV,t=⟨⟨1,nr,λ _=>false⟩,.slice (some ⟨g,0,none⟩) nr.length cr,.slice none 0 0⟩:=⟨_,rfl⟩
     rw[<-aO];rintro e w3 ⟨rfl,O3,nN,bC,aL⟩;have eX:QP (t1.x=⟨1,nr,λ _=>false⟩):=by unfold QP;rw[aO]
     have hA:=fV bC;have aT:=fV (HN.o.2.1.trans aL);have bK:=fV (aW.o.keep aL);have aR:=fV bK.o.ro;have iN:=aT.o.size;clear aO bC aL HN aW;go_wp2_with (first|(at_builtin;refine gB w3 rfl (.tmp 42) (.tmp 44) 59 rfl w.heap.size 3 (.int .i64 0) 1 8 NI bX rfl (by decide) (by decide) (.slice ao no.length co) no.length (kK no) [.int .i64 (L1.length:Int)] _ rfl aR.o _ rfl rfl rfl (by simp[NM]) (by omega) (by omega) ?_;intro g4 cap4 w4 D C J X;have I:=fV (qV.app hA.o aT.o bK.o (qV.start w3 O3 w.heap.size) (λ k e=>by cases e) D C J);clear D C J X));have cN:=fV (qV.node2 I.o.1 I.o.2.1 I.o.2.2.1 (by simp) (by simp) 2 (by decide) (λ _=>false));have tO:QP (∀m,m∈no++[L1.length]->m<(L1++[t1]).length):=λ m hm=>by
      rw[LD,LS];rcases LM.1 hm with e|e
      ·have:=F.o.so.lt m e;rw[lB,<-Z.o]at this;omega
      ·rw[LH.1 e];omega
     refine(uP cN.o.1 2 (some ⟨g4,0,none⟩) none (no.length+1) cap4 0 0 ⟨2,no++[L1.length],λ _=>false⟩ rfl cN.o.2.2 tO.o (by simp;omega)).mono ?_;obtain⟨t2,eO⟩:∃t:NV,t=⟨⟨2,no++[L1.length],λ _=>false⟩,.slice (some ⟨g4,0,none⟩) (no.length+1) cap4,.slice none 0 0⟩:=⟨_,rfl⟩
     rw[<-eO];rintro e w6 ⟨rfl,O6,H1,hN,hC⟩;have rT:QP (t2.x=⟨2,no++[(L++M).length],λ _=>false⟩):=by unfold QP;rw[eO,Z.o]
     have tL:=fV hN;have qR:=fV (cN.o.2.1.trans hC);clear eO hN hC cN;go_wp2;go_ret3;have eL:=F.o.aK hs qL hE.o eX.o rT.o (by rw[<-Z.o];exact tL.o) qR.o;rw[<-Z.o]at eL;exact eL
  ·have V:i<s.size:=by
    apply LP;intro hn;exact Q (by unfold uN;rw[aE];exact .inl (by omega))
   have hF:bt s i≠41:=λ e=>Q (by unfold uN;rw[aE];exact .inr e)
   have sW:QP (uN s i=false):=by unfold QP;simpa using Q
   have eS:(s[i]'V).toNat=bt s i:=kM s i V;have E6:(0:Int)<=(i:Int)/\(i:Int)<(s.size:Int):=by omega
   have hP:=mT s i;clear Q;by_cases k1:bt s i=124
   ·have hI:=fV k1;rw[k1]at eS;clear k1 hF hP
    cases rs with
    | nil=>
     have gL:nr=[]:=MZ.1 cP.o;have bT:QP (T=none):=F.o.ei.none0 (Cu (Zg V hI.o));subst gL;go_wp2;go_ret3;rw[bT.o];exact uL.bad F.o.fk
    | cons p ps=>
     have eR:0<nr.length:=by rw[cP.o];simp
     have rL:((nr.length:Int)==0)=false:=by rw[aC];omega
     obtain⟨g,eg⟩:∃g,ar=some ⟨g,0,none⟩:=by
      rcases iL F.o.lr.ro with e|⟨g,c,e⟩
      ·injection e with Y e2 e3;omega
      ·injection e with Y e2 e3;exact⟨g,Y⟩
     subst eg;have HN:=fV (qV.node2 F.o.fn F.o.fk F.o.lr rfl eR 1 (by decide) (λ _=>false));have bM:QP (∀m,m∈nr->m<(L++M).length):=λ m hm=>by have:=F.o.sr.lt m hm;rw[lB]at this;exact this
     have bN:(OC ao no.length co).ownBlock≠some g:=λ e=>F.o.di g e rfl
     have aW:=fV (F.o.lo.tagged bN);obtain⟨L1,Y⟩:∃L1,L1=L++M:=⟨_,rfl⟩
     have A0:L1.length<=6000:=by rw[Y,LD];omega
     rw[<-Y]at HN bM;have Z:=fV Y;clear Y bN;go_wp2_with fail;refine(uP HN.o.1 1 (some ⟨g,0,none⟩) none nr.length cr 0 0 ⟨1,nr,λ _=>false⟩ rfl HN.o.2.2 bM.o (by omega)).mono ?_;obtain⟨t1,aO⟩:∃t:NV,t=⟨⟨1,nr,λ _=>false⟩,.slice (some ⟨g,0,none⟩) nr.length cr,.slice none 0 0⟩:=⟨_,rfl⟩
     rw[<-aO];rintro e w3 ⟨rfl,O3,nN,bC,aL⟩;have eX:QP (t1.x=⟨1,nr,λ _=>false⟩):=by unfold QP;rw[aO]
     have hA:=fV bC;have aT:=fV (HN.o.2.1.trans aL);have bK:=fV (aW.o.keep aL);have aR:=fV bK.o.ro;have iN:=aT.o.size;clear aO bC aL HN aW;go_wp2_with (first|(at_builtin;refine gB w3 rfl (.tmp 42) (.tmp 44) 59 rfl w.heap.size 3 (.int .i64 0) 1 8 NI bX rfl (by decide) (by decide) (.slice ao no.length co) no.length (kK no) [.int .i64 (L1.length:Int)] _ rfl aR.o _ rfl rfl rfl (by simp[NM]) (by omega) (by omega) ?_;intro g4 cap4 w4 D C J X;have I:=fV (qV.app hA.o aT.o bK.o (qV.start w3 O3 w.heap.size) (λ k e=>by cases e) D C J);clear D C J X));go_roundw
     case rel=>
      have hJ:=F.o.bar hs hS V hI.o eX.o (by rw[<-Z.o];exact I.o.1) I.o.2.1 (by rw[<-Z.o];exact I.o.2.2.1);exact⟨i+1,_,_,_,_,_,_,_,by go_num,by omega,V,hJ⟩
     case measure=>simp[QO];omega
   ·have t1:((bt s i:Int)==41)=false:=by rw[aC];omega
    have t2:((bt s i:Int)==124)=false:=by rw[aC];omega
    have nL:=fV k1;have eT:QP (∀W,FN fb W O1 (L++M) cF vR rc nR (pl+yB ors+yB rs) cn->QU MG 104 #[.pointer (some ⟨fb,0,none⟩),.string s,.int .i64 (i:Int)] W (uL 2 fb W O1 (L++M) vR rc nR (pl+yB ors+yB rs) cn i (iZ s ex i))):=λ W hW=>HP.o fb W O1 (L++M) cF vR rc nR _ cn i hW F.o.ok (by omega) (by omega) (by rw[LD];omega)
    have bO:QP (iZ s ex i=none->T=none):=λ e=>F.o.ei.bad V sW.o nL.o e
    have hB:=fV (λ r a=>wS HB.o i r a);have hU:QP (∀r2 a2,iZ s ex i=some (r2,a2)->Mi s ex T ors (rs++[r2]) a2):=λ r2 a2 e=>F.o.ei.piece HB.o e
    obtain⟨P,eN⟩:∃P,P=iZ s ex i:=⟨_,rfl⟩
    rw[<-eN]at eT bO hB hU;have hH:=fV eN;clear eN k1 hF hP;generalize bt s i=y at*
    cases P with
    | none=>
     have bT:=fV (bO.o rfl);go_wp2_with fail;refine(eT.o _ (F.o.fn.below ⟨rfl,rfl,rfl,lR,λ _ _=>rfl⟩)).mono ?_;rintro e w1 ⟨a,b,O',rfl,hk⟩;have HK:=fV (F.o.fk.trans hk);clear hk;go_wp2;go_ret3;rw[bT.o];exact uL.bad HK.o
    | some q=>
     obtain⟨r2,a2⟩:=q;have lH:=hB.o r2 a2 rfl;have hQ:QP (iZ s ex i=some (r2,a2)):=hH.o.symm;clear bO hB hU hH;go_wp2_with fail;refine(eT.o _ (F.o.fn.below ⟨rfl,rfl,rfl,lR,λ _ _=>rfl⟩)).mono ?_;rintro e w1 ⟨n,M2,H4,O2,rfl,hf,hk,hV,eM,hM⟩;have A2:=fV hf;have hK:=fV (F.o.fk.trans hk);have A1:=fV hV;have rO:=fV eM;have hY:=fV (F.o.lr.keep hk);have A3:=fV (F.o.lo.keep hk);have aR:=fV hY.o.ro;have B1:=hK.o.size;clear hf hk hV eM;go_wp2_with (first|(at_builtin;refine gB w1 rfl (.tmp 66) (.tmp 68) 59 rfl w.heap.size 3 (.int .i64 0) 1 8 NI bX rfl (by decide) (by decide) (.slice ar nr.length cr) nr.length (kK nr) [.int .i64 (n:Int)] _ rfl aR.o _ rfl rfl rfl (by simp[NM]) (by omega) (by omega) ?_;intro g4 cap4 w4 D C J X;have I:=fV (qV.app A2.o hK.o hY.o A3.o F.o.di D C J);clear D C J X));go_roundw
     case rel=>
      have sR:=F.o.more hS HB.o hQ.o A1.o rO.o hM I.o.1 I.o.2.1 I.o.2.2.2.1 I.o.2.2.1 I.o.2.2.2.2;exact⟨a2,_,_,_,_,_,_,_,rfl,by omega,lH.2,sR⟩
     case measure=>simp[QO];omega
theorem Xy{s:tB}(D:s.size<=200):∀f,Qp 76 s 0 0 (s.size+1-f) (qN s (kR s f)):=by
 intro f
 induction f with
 | zero=>intro fb w O L vN vR rc nR pl cn i _ _ I J;omega
 | succ f ih=>
  have F:=Wy (by omega) ih (xQ s f);have C:=Qh (by omega) F (xQ s f);have o:=Sm D C;have e:s.size+1-f-1=s.size+1-(f+1):=by omega
  rw[e]at o;exact o
theorem dJ:(Tryz.prog.info? 9).map (λ i=>(i.zero,i.size,i.bytes))=some (some (.string ⟨#[]⟩),1,16):=by kernel_rfl
theorem lU{w wr w4:tW}{v:tV}{xs:List tV}{o:Obj}(C:Bl w wr)(F:wr.ownsRow w.heap.size T z v n xs)(hg:(wr.alloc o).grownBy w4 v.ownBlock):Bl w w4:=by
 have Q:=C.size;have J:=hg.size;have I:(wr.alloc o).heap.size=wr.heap.size+1:=by simp
 exact⟨hg.os.trans C.os,hg.tape.trans C.tape,hg.output.trans C.output,by omega,λ k D=>((hg.block k (by omega) (λ e=>by have:=(F.lt k e.symm).1;omega)).trans (MC wr o k (by omega))).trans (C.block k D)⟩
def Av(s:tB)(c:Nat)(w:tW)(e:Ending)(w':tW):Prop:=
 ∃g aJ,e=.returned (.slice (some ⟨g,0,none⟩) (lT s c).length aJ)/\Bl w w'/\w.heap.size<=g/\g<w'.heap.size/\∀j a b,(lT s c)[j]?=some (a,b)->w'.cell? ⟨g,j,none⟩=some (.string (s.extract a b))
theorem Av.of{s:tB}{w wr:tW}{v:tV}(h:wr.ownsRow w.heap.size 9 1 v (lT s c).length (Hv s (lT s c)))(I:Bl w wr):Av s c w (.returned v) wr:=by
 have Q:=Pk s c;rcases iL h with e|⟨g,aJ,e⟩
 ·exfalso;obtain⟨a,q,C⟩:=gA h;rw[e]at C;injection C with _ U _;omega
 ·have o:=h.lt g (by rw[e];rfl);refine⟨g,aJ,by rw[e],I,o.1,o.2,λ j a b F=>?_⟩;have:=h.cells (g:=g) (by rw[e];rfl) j _ (AQ F);have J:(⟨g,0,none⟩:Addr).add j=⟨g,j,none⟩:=by
   unfold Addr.add;split
   ·rename_i D;rw[D]
   ·rw[MH]
  rw[J]at this;exact this
theorem Cn(s:tB)(c:Nat)(w:tW)(hs:s.size<=500):
  QU MG 43 #[.string s,.int .u8 (c:Int)] w (Av s c w):=by
 go_enter func43,ntmps43;go_wp2
 go_loopw [5,6,7] (λ x y z wr=>∃(i fr:Nat)(aS:List (Nat×Nat)),i<=s.size+1/\fr<=i/\aS.length<=i/\z=.int .i64 (i:Int)/\y=.int .i64 (fr:Int)/\QP (lT s c=aS++Xk s c (s.size+1-i) fr i)/\wr.ownsRow w.heap.size 9 1 x aS.length (Hv s aS)/\Bl w wr) (λ _ _ z _=>s.size+1-(QO z).toNat)
 case atStart=>exact⟨0,0,[],by omega,by omega,by simp,rfl,rfl,rfl,MY _ _ _ 1,bR⟩
 case round=>
  obtain⟨i,fr,aS,hi,bM,bT,rfl,rfl,F,aO,aL⟩:=hrel;obtain⟨ao,co,eo⟩:=gA aO;subst eo;have J:=fV aO;have V:=fV aL;have bK:=aL.size;clear aO aL;by_cases bN:i<=s.size
  ·obtain⟨n,hn⟩:∃n,s.size+1-i=n+1:=⟨s.size-i,by omega⟩
   have aW:s.size+1-(i+1)=n:=by omega
   have bO:(0:Int)<=(fr:Int)/\(fr:Int)<=(i:Int)/\(i:Int)<=(s.size:Int):=by omega
   rw[hn]at F;have X:=fV aW;clear hn aW;by_cases hc:i=s.size\/bt s i=c
   ·rw[Jg hc]at F;have Y:i=s.size\/∃h:i<s.size,(s[i]'h).toNat=c/\((i:Int)==(s.size:Int))=false:=by
     by_cases e:i=s.size
     ·exact .inl e
     ·exact .inr ⟨by omega,by rw[kM s i (by omega)];exact hc.resolve_left e,by rw[aC];omega⟩
    have I:QP (lT s c=(aS++[(fr,i)])++Xk s c (s.size+1-(i+1)) (i+1) (i+1)):=by unfold QP;rw[F.o,X.o];simp
    clear hc F X;rcases Y with e|⟨h1,h2,h3⟩
    ·have d1:((i:Int)==(s.size:Int))=true:=by rw[e];simp
     clear e;go_wp2_with (first|(at_builtin;refine gB wr rfl (.tmp 25) (.tmp 30) 123 rfl w.heap.size 9 (.string ⟨#[]⟩) 1 16 underlying123 dJ rfl (by decide) (by decide) (.slice ao aS.length co) aS.length (Hv s aS) [.string (s.extract fr i)] _ rfl J.o _ rfl rfl rfl (by simp[NM]) (by omega) (by omega) ?_;intro g4 cap4 w4 D C Q U;have aR:=fV D;have Z:QP (Bl w w4):=lU V.o J.o C;clear D C Q U));go_roundw
     case rel=>exact⟨i+1,i+1,aS++[(fr,i)],by omega,by omega,by simp;omega,by go_num,by go_num,I,by rw[He,LD,LS];exact aR.o,Z.o⟩
     case measure=>simp[QO];omega
    ·have bC:(0:Int)<=(i:Int)/\(i:Int)<(s.size:Int):=by omega
     go_wp2_with (first|(at_builtin;refine gB wr rfl (.tmp 25) (.tmp 30) 123 rfl w.heap.size 9 (.string ⟨#[]⟩) 1 16 underlying123 dJ rfl (by decide) (by decide) (.slice ao aS.length co) aS.length (Hv s aS) [.string (s.extract fr i)] _ rfl J.o _ rfl rfl rfl (by simp[NM]) (by omega) (by omega) ?_;intro g4 cap4 w4 D C Q U;have aR:=fV D;have Z:QP (Bl w w4):=lU V.o J.o C;clear D C Q U));go_roundw
     case rel=>exact⟨i+1,i+1,aS++[(fr,i)],by omega,by omega,by simp;omega,by go_num,by go_num,I,by rw[He,LD,LS];exact aR.o,Z.o⟩
     case measure=>simp[QO];omega
   ·rw[Rb hc]at F;have aT:i<s.size:=by
     apply LP;intro h;exact hc (.inl (by omega))
    have bS:(s[i]'aT).toNat=bt s i:=kM s i aT;have d1:((i:Int)==(s.size:Int))=false:=by rw[aC];omega
    have d2:((bt s i:Int)==(c:Int))=false:=by rw[aC];intro e;exact hc (.inr (by omega))
    have bC:(0:Int)<=(i:Int)/\(i:Int)<(s.size:Int):=by omega
    have I:QP (lT s c=aS++Xk s c (s.size+1-(i+1)) fr (i+1)):=by unfold QP;rw[F.o,X.o]
    clear hc F X;generalize bt s i=y at*;go_wp2;go_roundw
    case rel=>exact⟨i+1,fr,aS,by omega,by omega,by omega,by go_num,rfl,I,J.o,V.o⟩
    case measure=>simp[QO];omega
  ·have HE:QP (lT s c=aS):=by
    unfold QP;rw[F.o,show s.size+1-i=0 by omega];simp[Xk]
   have dl:decide ((i:Int)<=(s.size:Int))=false:=by simp;omega
   go_wp2;go_ret;exact Av.of (by rw[HE.o];exact J.o) V.o
section
variable {w w':tW}{O O':Nat->Nat}{fb nR pl cn:Nat}{L:List NV}{vN vR:tV}{rc:List tV}
theorem FN.cns(h:FN fb w O L vN vR rc nR pl cn)(p:Nat):FN fb (w.setCell ⟨fb,3,none⟩ (.int .i64 (p:Int))) O L vN vR rc nR pl p/\FK w O (w.setCell ⟨fb,3,none⟩ (.int .i64 (p:Int))) O:=by
 obtain⟨D,Y⟩:=h.wt;have C:∀k,k≠fb->(w.setCell ⟨fb,3,none⟩ (.int .i64 (p:Int))).heap[k]?=w.heap[k]? :=λ k o=>iC w fb 3 _ o
 have X:(w.setCell ⟨fb,3,none⟩ (.int .i64 (p:Int))).heap.size=w.heap.size:=by simp[NC]
 have I:∀i,i≠3->(w.setCell ⟨fb,3,none⟩ (.int .i64 (p:Int))).cell? ⟨fb,i,none⟩=w.cell? ⟨fb,i,none⟩:=λ i hi=>MM _ _ _ _ (by intro Q;injection Q;omega)
 have F:=(OE 0 w).setCell (p:=⟨fb,3,none⟩) zL (.int .i64 (p:Int));refine⟨⟨(I 0 (by omega)).trans h.c0,(I 1 (by omega)).trans h.c1,(I 2 (by omega)).trans h.c2,MN _ _ _ h.c3,λ i=>by rw[MV];exact h.fz i,⟨D,by omega⟩,
  iH h.rn (λ k o=>C k (by have:=(h.rn.lt k o).1;omega)),iH h.rr (λ k o=>C k (by have:=(h.rr.lt k o).1;omega)),h.tn,h.tr,
  λ t U=>(h.nd t U).keep (by omega) (λ k o J=>⟨C k (λ e=>by rw[e,D]at J;cases J),rfl⟩),h.cl,λ k o=>h.fr k (by omega)⟩,
  ⟨F.os,F.tape,F.output,by omega,λ k o V _ _=>C k (λ e=>V (by rw[e];exact D)),λ _ _=>rfl⟩⟩
def pS(cn:Nat)(n:Int):Nat:=if(cn:Int)<=n then(n+1).toNat else cn
theorem Ak(h:FN fb w O L vN vR rc nR pl cn)(n:Int)(hn: -1<=n/\n<=3):
  QU MG 75 #[.pointer (some ⟨fb,0,none⟩),.int .i64 n] w λ e w'=>e=.returned (.tuple #[])/\FN fb w' O L vN vR rc nR pl (pS cn n)/\FK w O w' O:=by
 have U:=h.c3;have V:=h.fz 3;have J:=fV h;clear h;by_cases C:(cn:Int)<=n
 ·have Q:decide ((cn:Int)<=n)=true:=by simp;omega
  have I:QP (pS cn n=(n+1).toNat):=by unfold QP pS;rw[aB C]
  have F:=fV (J.o.cns (n+1).toNat);have D:((n+1).toNat:Int)=n+1:=by omega
  rw[D]at F;clear D;go_enter func75,ntmps75;go_wp2;refine bodyPost_end (results_none rfl _ _ _) rfl ?_;exact⟨rfl,by rw[I.o];exact F.o.1,F.o.2⟩
 ·have Q:decide ((cn:Int)<=n)=false:=by simp;omega
  have I:QP (pS cn n=cn):=by unfold QP pS;rw[aA C]
  go_enter func75,ntmps75;go_wp2;refine bodyPost_end (results_none rfl _ _ _) rfl ?_;exact⟨rfl,by rw[I.o];exact J.o,FK.refl _ _⟩
structure RV where
 f:Nat->Bool
 c:Nat
 n:Nat
 g:Nat
def RV.cells(x:RV):List tV:= [.slice (some ⟨x.g,0,none⟩) 4 4,.int .u8 (x.c:Int),.int .i64 (x.n:Int)]
def CP(R:List RV):List tV:=R.flatMap RV.cells
theorem GB(l:List RV)(t:RV):CP (l++[t])=CP l++t.cells:=by unfold CP;simp
def Nj(w:tW)(O:Nat->Nat)(x:RV):Prop:=O x.g=4/\x.g<w.heap.size/\∀i,i<4->w.cell? ⟨x.g,i,none⟩=some (.bool (x.f i))
theorem Nj.keep{x:RV}(h:Nj w O x)(o:FK w O w' O'):Nj w' O' x:=by
 obtain⟨D,C,F⟩:=h;have e:=o.block x.g C (by omega) (by omega) (by omega);exact⟨(o.own x.g C).trans D,MI C o.size,λ i hi=>(LJ (w:=w) (a:=⟨x.g,i,none⟩) e).trans (F i hi)⟩
theorem FN.rule(h:FN fb w O L vN vR rc nR pl cn){w4:tW}{o:Obj}{g aJ n:Nat}{xs:List tV}{Y:tV}(hn:nR=n)(aL:vR=Y)
  (I:w4.ownsRow (fb+1) 82 3 (.slice (some ⟨g,0,none⟩) (n+1) aJ) (n+1) (rc++xs))
  (F:(w.alloc o).grownBy w4 Y.ownBlock) (aR:Y.ownBlock=some g\/g=w.heap.size+1):
  FN fb (w4.setCell ⟨fb,1,none⟩ (.slice (some ⟨g,0,none⟩) (n+1) aJ)) (λ k=>if k=g then 3 else O k) L vN (.slice (some ⟨g,0,none⟩) (n+1) aJ) (rc++xs) (n+1) pl cn/\
  FK w O (w4.setCell ⟨fb,1,none⟩ (.slice (some ⟨g,0,none⟩) (n+1) aJ)) (λ k=>if k=g then 3 else O k):=by
 subst hn aL;obtain⟨o1,b1⟩:=h.wt;have bC:=F.size;have ez:(w.alloc o).heap.size=w.heap.size+1:=by simp
 have bK:=(I.lt g rfl).2;have aW:(w4.setCell ⟨fb,1,none⟩ (.slice (some ⟨g,0,none⟩) (nR+1) aJ)).heap.size=w4.heap.size:=by simp[NC]
 have Q:g<w.heap.size->O g=3:=λ hg=>by
  rcases aR with e|e
  ·exact h.tr g e
  ·omega
 have D:∀k,k<w.heap.size->O k≠1->O k≠3->(w4.setCell ⟨fb,1,none⟩ (.slice (some ⟨g,0,none⟩) (nR+1) aJ)).heap[k]?=w.heap[k]? /\(if k=g then 3 else O k)=O k:=λ k C Z U=>by
  have aO:k≠fb:=λ e=>Z (by rw[e];exact o1)
  have V:k≠g:=λ e=>U (by rw[e];exact Q (by omega))
  refine⟨(iC w4 fb 1 _ aO).trans ((F.block k (by omega) (λ e=>U (h.tr k e.symm))).trans (MC w o k C)),aA V⟩
 have J:w4.heap[fb]?=w.heap[fb]? :=(F.block fb (by omega) (λ e=>by have:=h.tr fb e.symm;omega)).trans (MC w o fb b1);have X:g≠fb:=by have:=(I.lt g rfl).1;omega
 have hc:∀i,i≠1->(w4.setCell ⟨fb,1,none⟩ (.slice (some ⟨g,0,none⟩) (nR+1) aJ)).cell? ⟨fb,i,none⟩=w.cell? ⟨fb,i,none⟩:=λ i hi=>by
  rw[MM (h:=by intro e';injection e';omega)];exact LJ (w:=w) (a:=⟨fb,i,none⟩) J
 refine⟨⟨(hc 0 (by omega)).trans h.c0,MN _ _ _ ((LJ (w:=w) (a:=⟨fb,1,none⟩) J).trans h.c1),(hc 2 (by omega)).trans h.c2,(hc 3 (by omega)).trans h.c3,λ i=>by rw[MV];exact(MJ (w:=w) (a:=⟨fb,i,none⟩) J).trans (h.fz i),⟨(aA (Ne.symm X)).trans o1,by omega⟩,?_,?_,λ k C=>?_,λ k C=>?_,λ u hu=>?_,h.cl,λ k C=>?_⟩,?_⟩
 ·exact iH h.rn (λ k C=>(D k (h.rn.lt k C).2 (by have:=h.tn k C;omega) (by have:=h.tn k C;omega)).1)
 ·exact QN I (show fb<fb+1 by omega) _
 ·have:=h.tn k C;rw[(D k (h.rn.lt k C).2 (by omega) (by omega)).2];exact this
 ·have aT:g=k:=by simpa[NE]using C
  exact aB aT.symm
 ·exact(h.nd u hu).keep (by omega) (λ k C ho=>D k C (by omega) (by omega))
 ·rw[aA (by omega)];exact h.fr k (by omega)
 ·have hs:=(OE 0 w4).setCell (p:=⟨fb,1,none⟩) zL (.slice (some ⟨g,0,none⟩) (nR+1) aJ);refine⟨hs.os.trans F.os,hs.tape.trans F.tape,hs.output.trans F.output,by omega,λ k C h1 _ h2=>(D k C h1 h2).1,λ k C=>?_⟩;by_cases e:k=g
  ·simp only[e,if_true];exact(Q (by omega)).symm
  ·simp only[aA e]
end
section
def oC(x:tB):Nat->(Nat->Bool)->Int->Nat->Option ((Nat->Bool)×Int)
 | 0,_,_,_=>none
 | n+1,f,aZ,i=>if x.size<=i then some (f,aZ)else if jR (bt x i)<=aZ then none else oC x n (λ j=>if(j:Int)=jR (bt x i)then true else f j) (jR (bt x i)) (i+1)
def yT(D C o:tB):Option ((Nat->Bool)×Int×Nat×Rx):=
 if D.size=0\/o.size≠1 then none else
 match oC D (D.size+1) gJ (-1) 0 with
 | none=>none
 | some (f,aZ)=>if jR (bt o 0)<0/\bt o 0≠46/\bt o 0≠45 then none else
  match qN C (kR C (C.size+1)) 0 with
  | none=>none
  | some (r,a)=>if a=C.size then some (f,aZ,bt o 0,r)else none
def oF(s:tB):Option ((Nat->Bool)×Int×Nat×Rx):=
 match lT s 32 with
 | [p0,p1,p2]=>yT (s.extract p0.1 p0.2) (s.extract p1.1 p1.2) (s.extract p2.1 p2.2)
 | _=>none
def S9(s:tB)(fb:Nat)(w:tW)(O:Nat->Nat)(L:List NV)(rc:List tV)(nR pl cn:Nat)(x:Option ((Nat->Bool)×Int×Nat×Rx))(e:Ending)(w':tW):Prop:=
 match x with
 | none=>∃O',e=.returned (.bool false)/\FK w O w' O'
 | some (f,aZ,c,r)=>∃(n g:Nat)(M:List NV)(o C:tV)(O':Nat->Nat),e=.returned (.bool true)/\FN fb w' O' (L++M) o C (rc++RV.cells ⟨f,c,n,g⟩) (nR+1) (pl+r.np) (pS (pS cn aZ) (jR c))/\FK w O w' O'/\Nj w' O' ⟨f,c,n,g⟩/\Stn.Sem (jB (L++M)) n r/\Et (L++M) (pl+r.np)/\M.length<=3*s.size
theorem S9.bad{s:tB}{w w':tW}{O O':Nat->Nat}{L:List NV}{rc:List tV}(h:FK w O w' O'):S9 s fb w O L rc nR pl cn none (.returned (.bool false)) w':=⟨O',rfl,h⟩
theorem S9.good{s:tB}{w w':tW}{O O':Nat->Nat}{L M:List NV}{vN' o:tV}{rc:List tV}{f:Nat->Bool}{r:Rx}(D:FN fb w' O' (L++M) vN' o (rc++RV.cells ⟨f,c,n,g⟩) (nR+1) (pl+r.np) (pS (pS cn aZ) (jR c)))(F:FK w O w' O')(I:Nj w' O' ⟨f,c,n,g⟩)(C:Stn.Sem (jB (L++M)) n r)(Q:Et (L++M) (pl+r.np))(J:M.length<=3*s.size):
  S9 s fb w O L rc nR pl cn (some (f,aZ,c,r)) (.returned (.bool true)) w':=⟨n,g,M,vN',o,O',rfl,D,F,I,C,Q,J⟩
theorem eP:(Tryz.prog.info? 4).map (λ i=>(i.zero,i.size,i.bytes))=some (some (.bool false),1,1):=by kernel_rfl
theorem fU(X:tW):(Instr.makeSlice 80 (.int .i64 4) (.int .i64 4)).run MG X=.ok (.slice (some ⟨X.heap.size,0,none⟩) 4 4) (X.alloc (.cells #[.bool false,.bool false,.bool false,.bool false] 4)):=
 by
 have h:=run_make_row' (P:=MG) 80 4 (.bool false) 1 OG eP rfl .i64 .i64 4 (by omega) (by omega) X;have e:QS #[PA false] 4= #[.bool false,.bool false,.bool false,.bool false]:=by first|kernel_rfl|(simp[QS];done)|decide
 rw[e]at h;exact h
attribute [local go_sem] fU
attribute [local go_sem ↓] Go.wp_at_zero Go.wp_at_succ
theorem L9(s:tB)(a b:Nat):(s.extract a b).size<=s.size:=by rw[ByteArray.size_extract];omega
structure RB(w1 wr:tW)(rb gs:Nat)(f:Nat->Bool)(c:Nat)(n:Nat):Prop where
 c0:wr.cell? ⟨rb,0,none⟩=some (.slice (some ⟨gs,0,none⟩) 4 4)
 c1:wr.cell? ⟨rb,1,none⟩=some (.int .u8 (c:Int))
 c2:wr.cell? ⟨rb,2,none⟩=some (.int .i64 (n:Int))
 fz:∀i,wr.frozen? ⟨rb,i,none⟩=false
 ne:gs≠rb
 b1:w1.heap.size<=rb
 b2:rb<wr.heap.size
 b3:w1.heap.size<=gs
 b4:gs<wr.heap.size
 ba:BA wr gs 4 f
theorem AN(w:tW)(B:Nat)(o:w.heap.size=B):BA (w.alloc (.cells #[.bool false,.bool false,.bool false,.bool false] 4)) B 4 gJ:=by
 subst o;refine⟨λ i hi=>?_,λ i=>NN _ _ _ i rfl⟩;rw[NF];have C:i=0\/i=1\/i=2\/i=3:=by omega
 rcases C with rfl|rfl|rfl|rfl<;>rfl
theorem BA.other{w w':tW}{f:Nat->Bool}(h:BA w g n f)(e:w'.heap[g]?=w.heap[g]?):BA w' g n f:=
 ⟨λ i hi=>(LJ (w:=w) (a:=⟨g,i,none⟩) e).trans (h.c i hi),λ i=>(MJ (w:=w) (a:=⟨g,i,none⟩) e).trans (h.f i)⟩
theorem RB.newA(w1:tW)(c:Nat):RB w1 (((w1.alloc (.cells #[.bool false,.bool false,.bool false,.bool false] 4)).alloc (.cells #[.slice (some ⟨w1.heap.size,0,none⟩) 4 4,.int .u8 (c:Int),.int .i64 0] 82)).drewN 1) (w1.heap.size+1) w1.heap.size gJ c 0/\Bl w1 (((w1.alloc (.cells #[.bool false,.bool false,.bool false,.bool false] 4)).alloc (.cells #[.slice (some ⟨w1.heap.size,0,none⟩) 4 4,.int .u8 (c:Int),.int .i64 0] 82)).drewN 1):=by
 have D:(w1.alloc (.cells #[.bool false,.bool false,.bool false,.bool false] 4)).heap.size=w1.heap.size+1:=by simp
 have F:(((w1.alloc (.cells #[.bool false,.bool false,.bool false,.bool false] 4)).alloc (.cells #[.slice (some ⟨w1.heap.size,0,none⟩) 4 4,.int .u8 (c:Int),.int .i64 0] 82)).drewN 1).heap.size=w1.heap.size+2:=by show((w1.alloc _).alloc _).heap.size=_;simp
 have C:Bl w1 ((w1.alloc (.cells #[.bool false,.bool false,.bool false,.bool false] 4)).alloc (.cells #[.slice (some ⟨w1.heap.size,0,none⟩) 4 4,.int .u8 (c:Int),.int .i64 0] 82)):=(bR.alloc lR _).alloc (by omega) _;have o:∀i,(((w1.alloc (.cells #[.bool false,.bool false,.bool false,.bool false] 4)).alloc (.cells #[.slice (some ⟨w1.heap.size,0,none⟩) 4 4,.int .u8 (c:Int),.int .i64 0] 82)).drewN 1).cell? ⟨w1.heap.size+1,i,none⟩=(#[.slice (some ⟨w1.heap.size,0,none⟩) 4 4,.int .u8 (c:Int),.int .i64 0]:Array tV)[i]? :=λ i=>MR _ _ _ i D.symm
 refine⟨⟨o 0,o 1,o 2,λ i=>?_,by omega,by omega,by omega,lR,by omega,?_⟩,⟨C.os,C.tape,C.output,C.size,C.block⟩⟩
 ·exact NN _ _ _ i D.symm
 ·exact(AN w1 _ rfl).other (MC (w1.alloc _) _ _ (by omega))
theorem RB.newB(w1:tW)(c:Nat):RB w1 (((w1.alloc (.cells #[.slice (some ⟨w1.heap.size+1,0,none⟩) 4 4,.int .u8 (c:Int),.int .i64 0] 82)).alloc (.cells #[.bool false,.bool false,.bool false,.bool false] 4)).drewN 1) w1.heap.size (w1.heap.size+1) gJ c 0/\Bl w1 (((w1.alloc (.cells #[.slice (some ⟨w1.heap.size+1,0,none⟩) 4 4,.int .u8 (c:Int),.int .i64 0] 82)).alloc (.cells #[.bool false,.bool false,.bool false,.bool false] 4)).drewN 1):=by
 have F:(w1.alloc (.cells #[.slice (some ⟨w1.heap.size+1,0,none⟩) 4 4,.int .u8 (c:Int),.int .i64 0] 82)).heap.size=w1.heap.size+1:=by simp
 have I:(((w1.alloc (.cells #[.slice (some ⟨w1.heap.size+1,0,none⟩) 4 4,.int .u8 (c:Int),.int .i64 0] 82)).alloc (.cells #[.bool false,.bool false,.bool false,.bool false] 4)).drewN 1).heap.size=w1.heap.size+2:=by show((w1.alloc _).alloc _).heap.size=_;simp
 have C:Bl w1 ((w1.alloc (.cells #[.slice (some ⟨w1.heap.size+1,0,none⟩) 4 4,.int .u8 (c:Int),.int .i64 0] 82)).alloc (.cells #[.bool false,.bool false,.bool false,.bool false] 4)):=(bR.alloc lR _).alloc (by omega) _;have D:(((w1.alloc (.cells #[.slice (some ⟨w1.heap.size+1,0,none⟩) 4 4,.int .u8 (c:Int),.int .i64 0] 82)).alloc (.cells #[.bool false,.bool false,.bool false,.bool false] 4)).drewN 1).heap[w1.heap.size]?=(w1.alloc (.cells #[.slice (some ⟨w1.heap.size+1,0,none⟩) 4 4,.int .u8 (c:Int),.int .i64 0] 82)).heap[w1.heap.size]? :=MC (w1.alloc _) _ _ (by omega);have o:∀i,(((w1.alloc (.cells #[.slice (some ⟨w1.heap.size+1,0,none⟩) 4 4,.int .u8 (c:Int),.int .i64 0] 82)).alloc (.cells #[.bool false,.bool false,.bool false,.bool false] 4)).drewN 1).cell? ⟨w1.heap.size,i,none⟩=(#[.slice (some ⟨w1.heap.size+1,0,none⟩) 4 4,.int .u8 (c:Int),.int .i64 0]:Array tV)[i]? :=λ i=>(LJ (a:=⟨w1.heap.size,i,none⟩) D).trans (MR _ _ _ i rfl)
 refine⟨⟨o 0,o 1,o 2,λ i=>(MJ (a:=⟨w1.heap.size,i,none⟩) D).trans (NN _ _ _ i rfl),by omega,lR,by omega,by omega,by omega,?_⟩,⟨C.os,C.tape,C.output,C.size,C.block⟩⟩;exact(AN _ _ F).other rfl
theorem RB.set{w1 wr:tW}{f:Nat->Bool}(h:RB w1 wr rb gs f c n)(k:Nat)(C:k<4):RB w1 (wr.setCell ⟨gs,k,none⟩ (.bool true)) rb gs (λ j=>if j=k then true else f j) c n:=by
 have o:=iC wr gs k (.bool true) (Ne.symm h.ne);have F:(wr.setCell ⟨gs,k,none⟩ (.bool true)).heap.size=wr.heap.size:=by simp[NC]
 have b2:=h.b2;have D:=h.b4;exact⟨(LJ (w:=wr) (a:=⟨rb,0,none⟩) o).trans h.c0,(LJ (w:=wr) (a:=⟨rb,1,none⟩) o).trans h.c1,(LJ (w:=wr) (a:=⟨rb,2,none⟩) o).trans h.c2,λ i=>(MJ (w:=wr) (a:=⟨rb,i,none⟩) o).trans (h.fz i),h.ne,h.b1,by omega,h.b3,by omega,h.ba.set C true⟩
theorem RB.draw{w1 wr:tW}{f:Nat->Bool}(h:RB w1 wr rb gs f c n)(q:Nat):RB w1 (wr.drewN q) rb gs f c n:=
 ⟨h.c0,h.c1,h.c2,h.fz,h.ne,h.b1,h.b2,h.b3,h.b4,⟨h.ba.c,h.ba.f⟩⟩
theorem RB.keepK{w1 wr D:tW}{O I:Nat->Nat}{f:Nat->Bool}(h:RB w1 wr rb gs f c n)(C:FK wr O D I)(J:O rb=0)(Q:O gs=0):RB w1 D rb gs f c n:=by
 have o:=C.block rb h.b2 (by omega) (by omega) (by omega);have F:=C.block gs h.b4 (by omega) (by omega) (by omega);have V:=C.size;have b2:=h.b2;have U:=h.b4;exact⟨(LJ (w:=wr) (a:=⟨rb,0,none⟩) o).trans h.c0,(LJ (w:=wr) (a:=⟨rb,1,none⟩) o).trans h.c1,(LJ (w:=wr) (a:=⟨rb,2,none⟩) o).trans h.c2,λ i=>(MJ (w:=wr) (a:=⟨rb,i,none⟩) o).trans (h.fz i),h.ne,h.b1,by omega,h.b3,by omega,h.ba.other F⟩
theorem RB.top{w w1 o:tW}{O C:Nat->Nat}{L:List NV}{vN vR:tV}{rc:List tV}{f:Nat->Bool}(h:RB w1 o rb gs f c 0)(X:FN fb o C L vN vR rc nR pl cn)(D:FK w O o C)(hw:w.heap.size<=w1.heap.size)(h1:C rb=0)(V:C gs=0)(n:Nat):
  FN fb (o.setCell ⟨rb,2,none⟩ (.int .i64 (n:Int))) (λ k=>if k=gs then 4 else C k) L vN vR rc nR pl cn/\FK w O (o.setCell ⟨rb,2,none⟩ (.int .i64 (n:Int))) (λ k=>if k=gs then 4 else C k)/\RB w1 (o.setCell ⟨rb,2,none⟩ (.int .i64 (n:Int))) rb gs f c n/\Nj (o.setCell ⟨rb,2,none⟩ (.int .i64 (n:Int))) (λ k=>if k=gs then 4 else C k) ⟨f,c,n,gs⟩:=by
 have hz:(o.setCell ⟨rb,2,none⟩ (.int .i64 (n:Int))).heap.size=o.heap.size:=by simp[NC]
 have J:∀k,k≠rb->(o.setCell ⟨rb,2,none⟩ (.int .i64 (n:Int))).heap[k]?=o.heap[k]? :=λ k D=>iC o rb 2 _ D
 have Y:∀i,i≠2->(o.setCell ⟨rb,2,none⟩ (.int .i64 (n:Int))).cell? ⟨rb,i,none⟩=o.cell? ⟨rb,i,none⟩:=λ i hi=>MM _ _ _ _ (by intro Z;injection Z;omega)
 have b1:=h.b1;have b2:=h.b2;have b3:=h.b3;have U:=h.b4;have Q:=(OE 0 o).setCell (p:=⟨rb,2,none⟩) zL (.int .i64 (n:Int));have F:=D.tag (g:=gs) (by omega);have I:=h.ba.other (J gs h.ne);refine⟨(X.tag V U).keep (by omega) (λ k D h0=>⟨J k (λ e=>h0 (by rw[e];show(if rb=gs then 4 else C rb)=0;rw[aA (Ne.symm h.ne)];exact h1)),rfl⟩) (λ k D=>(X.tag V U).fr k (by omega)),
  ⟨Q.os.trans F.os,Q.tape.trans F.tape,Q.output.trans F.output,by have:=F.size;omega,λ k D a1 a2 a3=>(J k (by omega)).trans (F.block k D a1 a2 a3),F.own⟩,
  ⟨(Y 0 (by omega)).trans h.c0,(Y 1 (by omega)).trans h.c1,MN _ _ _ h.c2,λ i=>by rw[MV];exact h.fz i,h.ne,b1,by omega,b3,by omega,I⟩,
  ⟨aB rfl,by show gs<_;omega,I.c⟩⟩
theorem eJ:(Tryz.prog.info? 82).map (λ i=>(i.zero,i.size,i.bytes))=some (some (.agg #[.slice none 0 0,.int .u8 0,.int .i64 0]),3,40):=by kernel_rfl
theorem B3{x:tB}{f:Nat->Bool}(h:x.size<=i):oC x (n+1) f aZ i=some (f,aZ):=by
 show(if x.size<=i then _ else _)=_;rw[aB h]
theorem zJ{x:tB}{f:Nat->Bool}(h:i<x.size)(o:jR (bt x i)<=aZ):oC x (n+1) f aZ i=none:=by
 show(if x.size<=i then _ else _)=_;rw[aA (by omega),aB o]
theorem C6{x:tB}{f:Nat->Bool}(h:i<x.size)(o:¬jR (bt x i)<=aZ):oC x (n+1) f aZ i=oC x n (λ j=>if(j:Int)=jR (bt x i)then true else f j) (jR (bt x i)) (i+1):=by
 show(if x.size<=i then _ else _)=_;rw[aA (by omega),aA o]
theorem Q4(c:Nat): -1<=jR c/\jR c<=3:=by unfold jR;split<;>omega
theorem Wl{s:tB}{w:tW}{O:Nat->Nat}{L:List NV}{vN vR:tV}{rc:List tV}(hs:s.size<=120)(h:FN fb w O L vN vR rc nR pl cn)(rO:Et L pl)(hL:L.length+3*s.size<=5000)(Go:nR<=1000):
  QU MG 44 #[.pointer (some ⟨fb,0,none⟩),.string s] w (S9 s fb w O L rc nR pl cn (oF s)):=by
 obtain⟨aR,qR,eR⟩:=gA h.rr;subst eR;have HF:=fV h;have S5:=fV rO;have tL:=fV (λ W=>Cn s 32 W (by omega));have eL:QP (oF s=match lT s 32 with
  | [Z,p1,p2]=>yT (s.extract Z.1 Z.2) (s.extract p1.1 p1.2) (s.extract p2.1 p2.2)
  | _=>none):=rfl
 clear h rO;go_enter func44,ntmps44;go_upto_region 2 with fail;refine(tL.o _).mono ?_;rintro e w1 ⟨Q,W0,rfl,hY,X4,rL,B1⟩;have I:=fV hY;have cP:=fV B1;clear hY B1 tL;generalize lT s 32=l at*;by_cases h3:l.length=3
 ·obtain⟨Z,p1,p2,el⟩:∃Z p1 p2,l=[Z,p1,p2]:=by
   match l,h3 with
   | [a,b,c],_=>exact⟨a,b,c,rfl⟩
  subst el;have cF:QP (oF s=yT (s.extract Z.1 Z.2) (s.extract p1.1 p1.2) (s.extract p2.1 p2.2)):=eL.o;have x0:=cP.o 0 Z.1 Z.2 rfl;have x1:=cP.o 1 p1.1 p1.2 rfl;have x2:=cP.o 2 p2.1 p2.2 rfl;have z0:=L9 s Z.1 Z.2;have z1:=L9 s p1.1 p1.2;have z2:=L9 s p2.1 p2.2;generalize s.extract Z.1 Z.2=X0 at*;generalize s.extract p1.1 p1.2=X1 at*;generalize s.extract p2.1 p2.2=X2 at*;clear eL cP h3;by_cases k0:X0.size=0\/X2.size≠1
  ·have Y:QP (oF s=none):=by unfold QP;rw[cF.o];unfold yT;rw[aB k0]
   by_cases k1:X0.size=0
   ·have d1:((X0.size:Int)==0)=true:=by rw[k1];rfl
    clear k0 k1;go_wp2;go_ret;rw[Y.o];exact S9.bad (FK.of_below I.o O)
   ·have d1:((X0.size:Int)==0)=false:=by rw[aC];omega
    have d2:((X2.size:Int) !=1)=true:=by rw[aD];omega
    clear k0 k1;go_wp2;go_ret;rw[Y.o];exact S9.bad (FK.of_below I.o O)
  ·have k2:X2.size=1:=by omega
   have d1:((X0.size:Int)==0)=false:=by rw[aC];omega
   have d2:((X2.size:Int) !=1)=false:=by rw[k2];rfl
   have hB:0<X2.size:=by omega
   have E6:(X2[0]'hB).toNat=bt X2 0:=kM X2 0 hB;have hU:=mT X2 0;have W2:=fV k2;clear k2;go_upto_region 4 with fail;obtain⟨c,hJ⟩:=xE (bt X2 0)
   rw[hJ]at E6 hU;have nL:=fV hJ;clear hJ
   go_cut [6] from 33 to 38 (λ v wc=>∃(rb gs:Nat),v=.pointer (some ⟨rb,0,none⟩)/\RB w1 wc rb gs gJ c 0/\Bl w1 wc)
   case first=>
    go_big_region
    all_goals
     go_wp2;go_meet
     case rel=>first|exact⟨_,_,rfl,RB.newA w1 c⟩|exact⟨_,_,rfl,RB.newB w1 c⟩
   case rest=>
    obtain⟨rb,gs,rfl,V,X⟩:=hcut;have eT:=fV V;have eX:=fV X;clear V X x2 E6;go_wp2
    go_loopw [7,8] (λ y z wr=>∃(i:Nat)(f:Nat->Bool)(aZ:Int),i<=X0.size/\z=.int .i64 (i:Int)/\y=.int .i64 aZ/\ -1<=aZ/\aZ<=3/\QP (oC X0 (X0.size+1) gJ (-1) 0=oC X0 (X0.size+1-i) f aZ i)/\RB w1 wr rb gs f c 0/\Bl w1 wr) (λ _ z _=>X0.size-(QO z).toNat)
    case atStart=>exact⟨0,gJ, -1,by omega,rfl,rfl,by omega,by omega,rfl,eT.o,eX.o⟩
    case round=>
     obtain⟨i,f,aZ,hi,rfl,rfl,O6,H4,HG,V,X⟩:=hrel;have hF:=fV V;have bS:=fV X;have y0:wr.cell? ⟨Q,0,none⟩=some (.string X0):=(X.cell (p:=⟨Q,0,none⟩) rL).trans x0;clear eT eX;by_cases bN:i<X0.size
     ·have W3:(X0[i]'bN).toNat=bt X0 i:=kM X0 i bN;have A3:=mT X0 i;have W6:(0:Int)<=(i:Int)/\(i:Int)<(X0.size:Int):=by omega
      have cN:=Q4 (bt X0 i);obtain⟨m,hm⟩:∃m,X0.size+1-i=m+1:=⟨X0.size-i,by omega⟩
      have hG:QP (X0.size+1-(i+1)=m):=by unfold QP;omega
      rw[hm]at HG;clear hm V X;have hH:=fV (λ W=>B4 (bt X0 i) W A3);by_cases eN:jR (bt X0 i)<=aZ
      ·have Y:QP (oF s=none):=by
        unfold QP;rw[cF.o];unfold yT;rw[aA k0,HG.o,zJ bN eN]
       have O3:decide (jR (bt X0 i)<=aZ)=true:=by simp;exact eN
       generalize jR (bt X0 i)=nn at*;generalize bt X0 i=b at*;clear HG hG;go_wp2_with fail;refine(hH.o _).mono ?_;rintro e w5 ⟨rfl,q,aL⟩;have hQ:QP (Bl w w5):=by
        have U:=I.o.trans (bS.o.mono I.o.size);unfold QP;rw[aL];exact⟨U.os,U.tape,U.output,U.size,U.block⟩
       clear aL;go_wp2;go_ret;rw[Y.o];exact S9.bad (FK.of_below hQ.o O)
      ·obtain⟨k,hk⟩:∃k:Nat,jR (bt X0 i)=(k:Int):=⟨(jR (bt X0 i)).toNat,by omega⟩
       have A1:k<4:=by omega
       have W9:(0:Int)<=(k:Int)/\(k:Int)<4:=by omega
       have O3:decide ((k:Int)<=aZ)=false:=by simp;omega
       have N1:QP (oC X0 (X0.size+1) gJ (-1) 0=oC X0 (X0.size+1-(i+1)) (λ j=>if j=k then true else f j) (k:Int) (i+1)):=by
        unfold QP;rw[HG.o,C6 bN eN,hG.o,hk];congr 1
        funext j
        by_cases e:j=k
        ·rw[aB e,aB (by omega)]
        ·rw[aA e,aA (by omega)]
       rw[hk]at hH;clear HG hG hk eN cN;generalize bt X0 i=b at*;go_wp2_with fail;refine(hH.o _).mono ?_;rintro e w5 ⟨rfl,q,aL⟩;have aW:QP (RB w1 w5 rb gs f c 0):=by unfold QP;rw[aL];exact hF.o.draw _
       have hQ:QP (Bl w1 w5):=by
        have U:=bS.o;unfold QP;rw[aL];exact⟨U.os,U.tape,U.output,U.size,U.block⟩
       have r0:=aW.o.c0;have r1:=aW.o.ba.c k A1;have r2:=aW.o.ba.f k;clear aL;go_wp2;go_roundw
       case rel=>exact⟨i+1,_,(k:Int),bN,by go_num,rfl,by omega,by omega,N1,aW.o.set k A1,hQ.o.setCell (p:=⟨gs,k,none⟩) aW.o.b3 _⟩
       case measure=>simp[QO];omega
     ·have hC:QP (oC X0 (X0.size+1) gJ (-1) 0=some (f,aZ)):=by
       unfold QP;rw[HG.o,show X0.size+1-i=0+1 by omega];exact B3 (by omega)
      have dl:decide ((i:Int)<(X0.size:Int))=false:=by simp;omega
      have lH:=fV (HF.o.below (I.o.trans (bS.o.mono I.o.size)));have sR:=fV (FK.of_below (I.o.trans (bS.o.mono I.o.size)) O);have W7:=bS.o.size;have H0:=I.o.size;have C:QP (O rb=0/\O gs=0/\O Q=0):=⟨HF.o.fr rb (by have:=V.b1;omega),HF.o.fr gs (by have:=V.b3;omega),HF.o.fr Q (by omega)⟩
      have y1:wr.cell? ⟨Q,1,none⟩=some (.string X1):=(X.cell (p:=⟨Q,1,none⟩) rL).trans x1;have B2:=fV y1;have A0:Q<wr.heap.size:=by omega
      clear V X HG x0 x1 y1;go_wp2_with fail;refine(Ak lH.o aZ ⟨O6,H4⟩).mono ?_;rintro e w6 ⟨rfl,A2,bC⟩;have sW:=fV A2;have nN:=fV (sR.o.trans bC);have hS:=fV (hF.o.keepK bC C.o.1 C.o.2.1);have u1:=hS.o.c1;have tT:QP (w6.cell? ⟨Q,1,none⟩=some (.string X1)):=(LJ (w:=wr) (a:=⟨Q,1,none⟩) (bC.block Q A0 (by rw[C.o.2.2];omega) (by rw[C.o.2.2];omega) (by rw[C.o.2.2];omega))).trans B2.o;have O8:Q<w6.heap.size:=MI A0 bC.size;clear A2 bC y0 lH sR hF B2;go_wp2_with fail;refine(B4 c _ hU).mono ?_;rintro e w7 ⟨rfl,q7,aO⟩;have rT:QP (FN fb w7 O L vN (.slice aR nR qR) rc nR pl (pS cn aZ)):=by unfold QP;rw[aO];exact sW.o.draw _
      have hD:QP (FK w O w7 O):=by
       have U:=nN.o;unfold QP;rw[aO];exact⟨U.os,U.tape,U.output,U.size,U.block,U.own⟩
      have hK:QP (RB w1 w7 rb gs f c 0):=by unfold QP;rw[aO];exact hS.o.draw _
      have qL:QP (w7.cell? ⟨Q,1,none⟩=some (.string X1)):=by unfold QP;rw[aO];exact tT.o
      have hE:Q<w7.heap.size:=by rw[aO];exact O8
      have v1:=hK.o.c1;clear aO u1 sW nN hS tT;have cN:=Q4 c;by_cases kb:jR c<0/\c≠46/\c≠45
      ·have Y:QP (oF s=none):=by
        unfold QP;rw[cF.o];unfold yT;rw[aA k0,hC.o,nL.o];simp only;rw[aB kb]
       have t0:decide (jR c<0)=true:=by simp;omega
       have t1:((c:Int) !=46)=true:=by rw[aD];omega
       have t2:((c:Int) !=45)=true:=by rw[aD];omega
       clear kb;generalize jR c=tt at*;go_wp2;go_ret;rw[Y.o];exact S9.bad hD.o
      ·have hP:QP (oF s=match qN X1 (kR X1 (X1.size+1)) 0 with
        | none=>none
        | some (r,a)=>if a=X1.size then some (f,aZ,c,r)else none):=by
        unfold QP;rw[cF.o];unfold yT;rw[aA k0,hC.o,nL.o];simp only;rw[aA kb]
       have N0:X1.size<=200:=by omega
       have HX:QP (∀W,FN fb W O L vN (.slice aR nR qR) rc nR pl (pS (pS cn aZ) (jR c))->QU MG 76 #[.pointer (some ⟨fb,0,none⟩),.string X1,.int .i64 0] W (uL 0 fb W O L (.slice aR nR qR) rc nR pl (pS (pS cn aZ) (jR c)) 0 (qN X1 (kR X1 (X1.size+1)) 0))):=λ W hW=>Xy N0 (X1.size+1) fb W O L vN (.slice aR nR qR) rc nR pl _ 0 hW S5.o (by omega) (by omega) (by omega)
       have H6:=fV (λ r a=>Sv (xQ X1 (X1.size+1)) 0 r a);generalize qN X1 (kR X1 (X1.size+1)) 0=A at*;obtain⟨tt,eS⟩:=xE (jR c)
       have gL:=cN;rw[eS]at gL HX kb;have S2:=fV eS;have aT:(0<=tt)\/(tt<0/\c=46)\/(tt<0/\c≠46/\c=45):=by omega
       rw[eS];clear eS cN kb hC cF;have T2:(decide (tt<0)=false)\/(decide (tt<0)=true/\((c:Int) !=46)=false)\/(decide (tt<0)=true/\((c:Int) !=46)=true/\((c:Int) !=45)=false):=by
        rcases aT with e|⟨e1,e2⟩|⟨e1,e2,e3⟩
        ·exact .inl (by simp;omega)
        ·exact .inr (.inl ⟨by simp;omega,by rw[e2];rfl⟩)
        ·exact .inr (.inr ⟨by simp;omega,by rw[aD];omega,by rw[e3];rfl⟩)
       clear aT;rcases T2 with t0|⟨t0,t1⟩|⟨t0,t1,t2⟩
       all_goals
        go_wp2_with fail;refine(Ak rT.o tt gL).mono ?_;rintro e w8 ⟨rfl,tO,bK⟩;have hX:=fV tO;have hN:=fV (hD.o.trans bK);have eO:=fV (hK.o.keepK bK C.o.1 C.o.2.1);have y8:w8.cell? ⟨Q,1,none⟩=some (.string X1):=(LJ (w:=w7) (a:=⟨Q,1,none⟩) (bK.block Q hE (by rw[C.o.2.2];omega) (by rw[C.o.2.2];omega) (by rw[C.o.2.2];omega))).trans qL.o;have H1:Q<w8.heap.size:=MI hE bK.size;clear tO bK v1 rT hD hK qL hE;go_wp2_with fail;refine(HX.o _ (hX.o.below ⟨rfl,rfl,rfl,lR,λ _ _=>rfl⟩)).mono ?_;have T3:=fV y8
        cases A with
        | none=>
         have Y:=fV hP.o;rintro e w9 ⟨a,b,O9,rfl,F⟩;have eM:=fV (hN.o.trans F);clear F y8;go_wp2;go_ret;rw[Y.o];exact S9.bad eM.o
        | some q=>
         obtain⟨r,a⟩:=q;rintro e w9 ⟨n,M,W8,O9,rfl,hM,F,bM,bT,Ha⟩;have W4:=H6.o r a rfl;have eM:=fV (hN.o.trans F);have y9:w9.cell? ⟨Q,1,none⟩=some (.string X1):=(LJ (w:=w8) (a:=⟨Q,1,none⟩) (F.block Q H1 (by rw[C.o.2.2];omega) (by rw[C.o.2.2];omega) (by rw[C.o.2.2];omega))).trans T3.o;by_cases ha:a=X1.size
         ·have Y:QP (oF s=some (f,aZ,c,r)):=by unfold QP;rw[hP.o];simp only;rw[aB ha]
          have dn:((a:Int) !=(X1.size:Int))=false:=by rw[ha];simp
          have hR:=fV (eO.o.keepK F C.o.1 C.o.2.1);have J:=fV (hR.o.top hM eM.o H0 ((F.own rb eO.o.b2).trans C.o.1) ((F.own gs eO.o.b4).trans C.o.2.1) n);have q2:=hR.o.c2;have M2:=hR.o.fz 2;have O7:=fV bM;have H2:=fV bT;clear hM F bM bT ha y8 hX hN eO;go_upto_region 23 with fail;clear q2 M2 y9;generalize w9.setCell ⟨rb,2,none⟩ (.int .i64 (n:Int))=W at*;have c1:=J.o.1.c1;have f1:=J.o.1.fz 1;have r0:=J.o.2.2.1.c0;have r1:=J.o.2.2.1.c1;have r2:=J.o.2.2.1.c2;have Hb:fb<W.heap.size:=J.o.1.wt.2;have hV:=fV J.o.1.rr;have hT:QP (∀k,(OC aR nR qR).ownBlock=some k->fb+1<=k):=λ k hk=>(hV.o.lt k hk).1
          go_region_law ((refine qJ W.drew rfl (.tmp 107) (.tmp 109) 63 rfl (fb+1) 82 (.agg #[.slice none 0 0,.int .u8 0,.int .i64 0]) 3 40 underlying63 eJ rfl (by decide) (by decide) (.slice aR nR qR) nR rc [.slice (some ⟨gs,0,none⟩) 4 4,.int .u8 (c:Int),.int .i64 (n:Int)] _ rfl hV.o W.heap.size rfl rfl rfl (by simp[NM]) (by omega) (by show fb+1<=W.heap.size;omega) ?_;intro g4 cap4 w4 bO D hA W1;have m3:=((gH D (k:=fb) (by show fb<W.heap.size;omega) (λ e=>by have:=hT.o fb e.symm;omega)).1 1).trans c1;have n3:=((gH D (k:=fb) (by show fb<W.heap.size;omega) (λ e=>by have:=hT.o fb e.symm;omega)).2 1).trans f1;have H3:=fV bO;have H5:=fV D;have L1:=fV hA;clear bO D hA))
          all_goals
           obtain⟨iN,hI⟩:=(J.o.1.draw 1).rule (xs:=RV.cells ⟨f,c,n,gs⟩) rfl rfl H3.o H5.o L1.o;have HD:QP (FK W (λ k=>if k=gs then 4 else O9 k) (W.drewN 1) (λ k=>if k=gs then 4 else O9 k)):=FK.of_below (w:=W) (w':=W.drewN 1) ⟨rfl,rfl,rfl,lR,λ _ _=>rfl⟩ _;have O0:=fV iN;have P0:=fV (J.o.2.1.trans (HD.o.trans hI));have O5:=fV (J.o.2.2.2.keep (HD.o.trans hI));clear iN hI c1 f1 r0 r1 r2 m3 n3;generalize w4.setCell ⟨fb,1,none⟩ (.slice (some ⟨g4,0,none⟩) (nR+1) cap4)=W5 at*;go_wp2;go_ret;rw[Y.o];exact S9.good (by rw[S2.o];exact O0.o) P0.o O5.o O7.o H2.o (by omega)
         ·have Y:QP (oF s=none):=by unfold QP;rw[hP.o];simp only;rw[aA ha]
          have dn:((a:Int) !=(X1.size:Int))=true:=by rw[aD];omega
          clear hM F bM bT ha y8;go_wp2;go_ret;rw[Y.o];exact S9.bad eM.o
 ·have Y:QP (oF s=none):=by
   unfold QP;rw[eL.o];split
   ·exact absurd rfl h3
   ·rfl
  have d1:((l.length:Int) !=3)=true:=by rw[aD];omega
  clear eL;go_wp2;go_ret;rw[Y.o];exact S9.bad (FK.of_below I.o O)
end
abbrev mU:=(Nat->Bool)×Int×Nat×Rx
def A6(s:tB):List (Nat×Nat)->Option (List mU)
 | []=>some []
 | p::ps=>match oF (s.extract p.1 p.2)with
  | none=>none
  | some x=>match A6 s ps with
   | none=>none
   | some l=>some (x::l)
theorem Mu{s:tB}:∀{ps:List (Nat×Nat)}{l:List mU}{p:Nat×Nat}{x:mU},A6 s ps=some l->oF (s.extract p.1 p.2)=some x->A6 s (ps++[p])=some (l++[x])
 | [],l,p,x,h,hx=>by
  injection h with h;subst h;show A6 s [p]=_;unfold A6;rw[hx]
  rfl
 | q::ps,l,p,x,h,hx=>by
  unfold A6 at h;show A6 s (q::(ps++[p]))=_;unfold A6
  cases e:oF (s.extract q.1 q.2)with
  | none=>rw[e]at h;cases h
  | some y=>
   rw[e]at h;simp only at h⊢
   cases e2:A6 s ps with
   | none=>rw[e2]at h;cases h
   | some l2=>
    rw[e2]at h;rw[Mu e2 hx];injection h with h;subst h
    rfl
theorem Tg{s:tB}:∀{ps:List (Nat×Nat)}{p:Nat×Nat},p∈ps->oF (s.extract p.1 p.2)=none->A6 s ps=none
 | q::ps,p,hm,hx=>by
  unfold A6;rcases MF.1 hm with e|e
  ·rw[<-e,hx]
  ·cases oF (s.extract q.1 q.2)with
   | none=>rfl
   | some y=>simp only;rw[Tg e hx]
def Z5:List mU->Nat
 | []=>0
 | x::l=>x.2.2.2.np+Z5 l
theorem Bv:∀(l:List mU)(x:mU),Z5 (l++[x])=Z5 l+x.2.2.2.np
 | [],x=>by simp[Z5]
 | y::l,x=>by show y.2.2.2.np+Z5 (l++[x])=_;rw[Bv l x];show _=y.2.2.2.np+Z5 l+x.2.2.2.np;omega
def CY(l:List mU):Nat:=l.foldl (λ c x=>pS (pS c x.2.1) (jR x.2.2.1)) 0
theorem BF(l:List mU)(x:mU):CY (l++[x])=pS (pS (CY l) x.2.1) (jR x.2.2.1):=by unfold CY;rw[NU];rfl
def Um(w:tW)(O:Nat->Nat)(N:List RN)(R:List RV)(ls:List mU):Prop:=
 R.length=ls.length/\∀(j:Nat)(x:RV)(y:mU),R[j]?=some x->ls[j]?=some y->Nj w O x/\x.f=y.1/\x.c=y.2.2.1/\Stn.Sem N x.n y.2.2.2
theorem Um.nil(w:tW)(O:Nat->Nat)(N:List RN):Um w O N [] []:=⟨rfl,λ j x y h=>by simp at h⟩
theorem Um.snoc{w w':tW}{O O':Nat->Nat}{N:List RN}{M:List RN}{R:List RV}{ls:List mU}(h:Um w O N R ls)(hc:gI N)(V:FK w O w' O'){x:RV}{y:mU}(X:Nj w' O' x)(Q:x.f=y.1)(Y:x.c=y.2.2.1)(h3:Stn.Sem (N++M) x.n y.2.2.2):Um w' O' (N++M) (R++[x]) (ls++[y]):=by
 have F:=h.1;refine⟨by simp[F],λ j a b o C=>?_⟩;by_cases I:j<R.length
 ·rw[LO I]at o;rw[LO (by omega)]at C;obtain⟨Z,k2,k3,J⟩:=h.2 j a b o C;exact⟨Z.keep V,k2,k3,J.more hc M⟩
 ·have D:=(LN.1 o).1;rw[LD,LS]at D;have e:j=R.length:=by omega
  subst e;rw[LU lR,MW]at o;rw[F,LU lR,MW]at C;have ea:=sJ o
  have U:=sJ C
  subst ea U;exact⟨X,Q,Y,h3⟩
theorem FN.start(w:tW):FN w.heap.size (w.alloc (.cells #[.slice none 0 0,.slice none 0 0,.int .i64 0,.int .i64 0] 65)) (λ k=>if k=w.heap.size then 1 else 0) [] (.slice none 0 0) (.slice none 0 0) [] 0 0 0:=by
 have I:(w.alloc (.cells #[.slice none 0 0,.slice none 0 0,.int .i64 0,.int .i64 0] 65)).heap.size=w.heap.size+1:=by simp
 have o:∀i,(w.alloc (.cells #[.slice none 0 0,.slice none 0 0,.int .i64 0,.int .i64 0] 65)).cell? ⟨w.heap.size,i,none⟩=(#[.slice none 0 0,.slice none 0 0,.int .i64 0,.int .i64 0]:Array tV)[i]? :=λ i=>MR _ _ _ i rfl
 exact⟨o 0,o 1,o 2,o 3,λ i=>NN _ _ _ i rfl,⟨aB rfl,by omega⟩,MY _ _ _ 3,MY _ _ _ 3,λ k e=>(by cases e),λ k e=>(by cases e),λ t D=>absurd D LK,λ n x C=>by simp[jB]at C,λ k F=>aA (by omega)⟩
def vF(s:tB):Option (List mU)×Nat:=
 if 120<s.size then(none,1)else
 if 8<(lT s 10).length then(none,2)else
 match A6 s (lT s 10)with
 | none=>(none,2)
 | some l=>if 10<Z5 l then(none,3)else(some l,0)
def sI(s:tB)(w:tW)(e:Ending)(w':tW):Prop:=
 Bl w w'/\match vF s with
  | (none,c)=>e=.returned (.tuple #[.pointer none,.int .i64 (c:Int)])
  | (some l,_)=>∃(fb:Nat)(O:Nat->Nat)(L:List NV)(vN vR:tV)(R:List RV),e=.returned (.tuple #[.pointer (some ⟨fb,0,none⟩),.int .i64 0])/\w.heap.size<=fb/\FN fb w' O L vN vR (CP R) R.length (Z5 l) (CY l)/\Et L (Z5 l)/\Um w' O (jB L) R l/\L.length<=3000
theorem sI.bad{s:tB}{w w':tW}(o:Bl w w')(h:vF s=(none,c)):sI s w (.returned (.tuple #[.pointer none,.int .i64 (c:Int)])) w':=by
 unfold sI;rw[h];exact⟨o,rfl⟩
theorem sI.good{s:tB}{w w':tW}{l:List mU}{O:Nat->Nat}{L:List NV}{vN vR:tV}{R:List RV}(D:Bl w w')(h:vF s=(some l,0))(J:w.heap.size<=fb)(hn:nR=R.length)(F:FN fb w' O L vN vR (CP R) nR (Z5 l) (CY l))(I:Et L (Z5 l))(o:Um w' O (jB L) R l)(C:L.length<=3000):
  sI s w (.returned (.tuple #[.pointer (some ⟨fb,0,none⟩),.int .i64 0])) w':=by
 unfold sI;rw[h];exact⟨D,fb,O,L,vN,vR,R,rfl,J,by rw[<-hn];exact F,I,o,C⟩
theorem Sf{s:tB}(o:¬120<s.size)(C:¬8<(lT s 10).length):vF s=match A6 s (lT s 10)with
  | none=>(none,2)
  | some l=>if 10<Z5 l then(none,3)else(some l,0):=by
 unfold vF;rw[aA o,aA C]
 all_goals rfl
theorem Un{s:tB}:∀{ps:List (Nat×Nat)}{l:List mU},A6 s ps=some l->l.length=ps.length
 | [],l,h=>by injection h with h;rw[<-h];rfl
 | q::ps,l,h=>by
  unfold A6 at h
  cases e:oF (s.extract q.1 q.2)with
  | none=>rw[e]at h;cases h
  | some y=>
   rw[e]at h;simp only at h
   cases e2:A6 s ps with
   | none=>rw[e2]at h;cases h
   | some l2=>
    rw[e2]at h;injection h with h;rw[<-h,MB,MB,Un e2]
theorem Yu(s:tB)(w:tW):QU MG 20 #[.string s] w (sI s w):=by
 by_cases C:120<s.size
 ·have HE:QP (vF s=(none,1)):=by unfold QP vF;rw[aB C]
  have d1:decide ((120:Int)<(s.size:Int))=true:=by simp;omega
  clear C;go_enter func20,ntmps20;go_wp2;go_ret2;exact sI.bad bR HE.o
 ·have eS:=fV (λ W=>Cn s 10 W (by omega));have bM:=fV (λ h2=> @Sf s C h2);have H2:QP (8<(lT s 10).length->vF s=(none,2)):=λ h=>by unfold vF;rw[aA C,aB h]
  have d1:decide ((120:Int)<(s.size:Int))=false:=by simp;omega
  go_enter func20,ntmps20;go_upto_region 4 with fail;refine(eS.o _).mono ?_;rintro e w1 ⟨F,hX,rfl,Z,iN,hJ,hA⟩;have bS:=fV Z;have bO:=fV hA;have hE:=Z.size;clear Z hA eS;generalize lT s 10=l at*;by_cases h8:8<l.length
  ·have HE:=fV (H2.o h8);have d2:decide ((8:Int)<(l.length:Int))=true:=by simp;omega
   clear h8;go_wp2;go_ret2;exact sI.bad bS.o HE.o
  ·have HE:=fV (bM.o h8);have d2:decide ((8:Int)<(l.length:Int))=false:=by simp;omega
   have aO:=fV (FN.start w1);have eR:QP (Bl w (w1.alloc (.cells #[.slice none 0 0,.slice none 0 0,.int .i64 0,.int .i64 0] 65))):=bS.o.alloc hE _;have eN:QP (∀j a b,l[j]?=some (a,b)->(w1.alloc (.cells #[.slice none 0 0,.slice none 0 0,.int .i64 0,.int .i64 0] 65)).cell? ⟨F,j,none⟩=some (.string (s.extract a b))):=λ j a b hj=>(LJ (w:=w1) (a:=⟨F,j,none⟩) (MC w1 _ F hJ)).trans (bO.o j a b hj)
   have hR:w1.heap.size<(w1.alloc (.cells #[.slice none 0 0,.slice none 0 0,.int .i64 0,.int .i64 0] 65)).heap.size:=by simp
   clear bO bM H2;go_wp2;generalize w1.alloc (.cells #[.slice none 0 0,.slice none 0 0,.int .i64 0,.int .i64 0] 65)=W at*;obtain⟨fb,cF⟩:∃fb,fb=w1.heap.size:=⟨_,rfl⟩
   rw[<-cF]at aO hR ⊢;have nN:F<fb:=by omega
   have hU:w.heap.size<=fb:=by omega
   clear cF;have gL:QP (∀wr O1,FK W (λ k=>if k=fb then 1 else 0) wr O1->Bl w wr):=λ wr O1 hk=>by
    have hb:=eR.o;have hz:=hb.size;refine⟨hk.os.trans hb.os,hk.tape.trans hb.tape,hk.output.trans hb.output,NT hb.size hk.size,λ k hM=>?_⟩;have e:(if k=fb then 1 else 0)=0:=aA (by omega);exact(hk.block k (by omega) (by show(if k=fb then 1 else 0)≠1;rw[e];decide) (by show(if k=fb then 1 else 0)≠2;rw[e];decide) (by show(if k=fb then 1 else 0)≠3;rw[e];decide)).trans (hb.block k hM)
   have hS:QP (∀wr O1,FK W (λ k=>if k=fb then 1 else 0) wr O1->∀j a b,l[j]?=some (a,b)->wr.cell? ⟨F,j,none⟩=some (.string (s.extract a b))):=λ wr O1 hk j a b hj=>by
    have e:(if F=fb then 1 else 0)=0:=aA (by omega);exact(LJ (w:=W) (a:=⟨F,j,none⟩) (hk.block F (by omega) (by show(if F=fb then 1 else 0)≠1;rw[e];decide) (by show(if F=fb then 1 else 0)≠2;rw[e];decide) (by show(if F=fb then 1 else 0)≠3;rw[e];decide))).trans (eN.o j a b hj)
   clear eN eR
   go_loopw [6] (λ z wr=>∃(i:Nat)(ls:List mU)(L:List NV)(vN vR:tV)(R:List RV)(O1:Nat->Nat),i<=l.length/\z=.int .i64 (i:Int)/\QP (A6 s (l.take i)=some ls)/\FN fb wr O1 L vN vR (CP R) i (Z5 ls) (CY ls)/\Et L (Z5 ls)/\Um wr O1 (jB L) R ls/\L.length<=360*i/\FK W (λ k=>if k=fb then 1 else 0) wr O1) (λ z _=>l.length-(QO z).toNat)
   case atStart=>exact⟨0,[],[],_,_,[],_,by omega,rfl,rfl,aO.o,⟨λ n x hx=>by simp[jB]at hx,rfl⟩,Um.nil _ _ _,by simp,FK.refl _ _⟩
   case round=>
    obtain⟨i,ls,L,vN,vR,R,O1,hi,rfl,bC,bN,eM,cN,hV,eO⟩:=hrel;have I:=fV bN;have hC:=fV eM;have aL:=fV cN;have J:=fV eO;clear bN eM cN eO aO;by_cases cP:i<l.length
    ·obtain⟨p,hp⟩:∃p,l[i]?=some p:=⟨l[i],LC cP⟩
     obtain⟨V,pb⟩:=p;have y0:=hS.o wr O1 J.o i V pb hp;have hY:(0:Int)<=(i:Int)/\(i:Int)<(l.length:Int):=by omega
     have lH:=L9 s V pb;have eL:=fV (λ(W':tW)(hW:FN fb W' O1 L vN vR (CP R) i (Z5 ls) (CY ls))=>Wl (s:=s.extract V pb) (by omega) hW hC.o (by omega) (by omega));have Y:QP ((V,pb)∈l):=LZ hp;have eT:QP (l.take (i+1)=l.take i++[(V,pb)]):=by unfold QP;rw[OF,hp];rfl
     have U:QP (oF (s.extract V pb)=none->vF s=(none,2)):=λ e=>by rw[HE.o,Tg Y.o e]
     have aT:QP (∀x,oF (s.extract V pb)=some x->A6 s (l.take (i+1))=some (ls++[x])):=λ x e=>by rw[eT.o];exact Mu bC.o e
     clear hp eT Y;generalize s.extract V pb=X at*;generalize oF X=A at*
     cases A with
     | none=>
      have hI:=fV (U.o rfl);go_wp2_with fail;refine(eL.o _ (I.o.below ⟨rfl,rfl,rfl,lR,λ _ _=>rfl⟩)).mono ?_;rintro e w5 ⟨O5,rfl,D⟩;have hT:=fV (gL.o _ _ (J.o.trans D));clear D;go_wp2;go_ret2;exact sI.bad hT.o hI.o
     | some x=>
      obtain⟨f,aZ,c,r⟩:=x;have hK:=fV (aT.o _ rfl);clear aT U;go_wp2_with fail;refine(eL.o _ (I.o.below ⟨rfl,rfl,rfl,lR,λ _ _=>rfl⟩)).mono ?_;rintro e w5 ⟨n,g,M,hF,hH,O5,rfl,bK,D,hD,bT,eX,nL⟩;have hL:=fV bK;have hB:=fV D;have hN:=fV hD;have hP:=fV bT;have hG:=fV eX;clear bK D hD bT eX;go_wp2;go_roundw
      case rel=>
       refine⟨i+1,ls++[(f,aZ,c,r)],L++M,hF,hH,R++[⟨f,c,n,g⟩],O5,cP,by go_num,hK,?_,?_,?_,by rw[LD];omega,J.o.trans hB.o⟩
       ·rw[GB,Bv,BF];exact hL.o
       ·rw[Bv];exact hG.o
       ·rw[M3];exact aL.o.snoc I.o.cl hB.o hN.o rfl rfl (by rw[<-M3];exact hP.o)
      case measure=>simp[QO];omega
    ·have HT:QP (A6 s l=some ls):=by have:=bC.o;rw[show i=l.length by omega,OV]at this;exact this
     have dl:decide ((i:Int)<(l.length:Int))=false:=by simp;omega
     have c2:=I.o.c2;have hQ:QP (i=R.length):=by
      have:=aL.o.1;rw[Un HT.o]at this;unfold QP;omega
     have aW:=fV (gL.o _ _ J.o);by_cases Q:10<Z5 ls
     ·have aR:QP (vF s=(none,3)):=by unfold QP;rw[HE.o,HT.o];simp only;rw[aB Q]
      have d3:decide ((10:Int)<(Z5 ls:Int))=true:=by simp;omega
      clear Q;go_wp2;go_ret2;exact sI.bad aW.o aR.o
     ·have aR:QP (vF s=(some ls,0)):=by unfold QP;rw[HE.o,HT.o];simp only;rw[aA Q]
      have d3:decide ((10:Int)<(Z5 ls:Int))=false:=by simp;omega
      clear Q;go_wp2;go_ret2;exact sI.good aW.o aR.o hU hQ.o I.o hC.o aL.o (by omega)
def IL(w:tW)(v:tV)(ns:List Nat):Prop:=
 ∃a aJ,v=.slice a ns.length aJ/\ns.length<=aJ/\(ns=[]\/∃g o,a=some ⟨g,o,none⟩/\g<w.heap.size/\∀(i m:Nat),ns[i]?=some m->w.cell? ⟨g,o+i,none⟩=some (.int .i64 (m:Int)))
theorem IL.below{w w':tW}{v:tV}(h:IL w v ns)(D:Below B w w')(V:w.heap.size<=B):IL w' v ns:=by
 obtain⟨a,aJ,e,C,h⟩:=h;have Q:=D.size;refine⟨a,aJ,e,C,?_⟩;rcases h with h|⟨g,o,F,U,I⟩
 ·exact .inl h
 ·exact .inr ⟨g,o,F,by omega,λ i m J=>(D.cell (p:=⟨g,o+i,none⟩) (by show g<B;omega)).trans (I i m J)⟩
def xL(N:List RN)(ns:List Nat):Bool:=ns.all (xJ N)
theorem z7{N:List RN}{ns:List Nat}{i m:Nat}(h:ns[i]?=some m)(o:xJ N m=false):xL N ns=false:=by
 unfold xL;rw[List.all_eq_false];exact⟨m,LZ h,by rw[o];simp⟩
theorem Xx{N:List RN}{ns:List Nat}(h:∀(i m:Nat),ns[i]?=some m->xJ N m=true):xL N ns=true:=by
 unfold xL;rw[MQ];intro m o;obtain⟨i,hi⟩:=List.getElem?_of_mem o;exact h i m hi
theorem Xp{L:List NV}(hs:rA (jB L))(hc:gI (jB L))(hL:L.length<=100000){w:tW}(h:FR fb w L gN aJ){v:tV}{ns:List Nat}(Y:IL w v ns)(hn:∀m,m∈ns->m<L.length)(hl:ns.length<=1000000):
  QU MG 85 #[.pointer (some ⟨fb,0,none⟩),v] w λ e w'=>e=.returned (.bool (xL (jB L) ns))/\Bl w w':=by
 obtain⟨a,vc,rfl,_,Y⟩:=Y;have HV:=fV Y;have HF:=fV h;have HN:=fV hn;have HE:=fV (λ m (D:m<L.length) W=>I8 (fb:=fb) (gN:=gN) (aJ:=aJ) hs hc hL m D W);have aL:=fV (λ i m=> @z7 (jB L) ns i m);have U:=fV (@Xx (jB L) ns);obtain⟨n,Z⟩:=xE (ns.length)
 rw[Z]at hl ⊢;have V:=fV Z;clear h Y hn Z;go_enter func85,ntmps85;go_wp2
 go_loopw [5] (λ z wr=>∃(i:Nat),i<=n/\z=.int .i64 (i:Int)/\QP (∀(j m:Nat),j<i->ns[j]?=some m->xJ (jB L) m=true)/\Bl w wr) (λ z _=>n-(QO z).toNat)
 case atStart=>exact⟨0,by omega,rfl,fV (λ j m hj=>absurd hj (by omega)),bR⟩
 case round=>
  obtain⟨i,hi,rfl,HA,F⟩:=hrel;have HB:=fV F;by_cases I:i<n
  ·obtain⟨m,D⟩:∃m,ns[i]?=some m:=⟨ns[i]'(by rw[V.o];exact I),LC _⟩
   obtain⟨g,o,rfl,hg,C⟩:=HV.o.resolve_left (λ e=>by rw[e]at D;simp at D);have y0:wr.cell? ⟨g,o+i,none⟩=some (.int .i64 (m:Int)):=(F.cell (p:=⟨g,o+i,none⟩) hg).trans (C i m D);have aT:=HN.o m (LZ D);have aW:=iI i n (by omega)
   have aO:=fV (HF.o.below F lR);have HM:=fV D;have bC:=fV C;clear F C D;go_wp2_with fail;refine(HE.o m aT _ (aO.o.below ⟨rfl,rfl,rfl,lR,λ _ _=>rfl⟩ lR)).mono ?_;rintro e w5 ⟨rfl,X⟩;have J:=fV (HB.o.trans (X.mono HB.o.size));clear X
   cases hem:xJ (jB L) m with
   | true=>
    have aR:QP (∀(j x:Nat),j<i+1->ns[j]?=some x->xJ (jB L) x=true):=λ j x hj Q=>by
     by_cases e:j=i
     ·subst e;rw[HM.o]at Q;injection Q with Q;rw[<-Q];exact hem
     ·exact HA.o j x (by omega) Q
    clear hem;go_wp2;go_roundw
    case rel=>exact⟨i+1,I,by go_num,aR,J.o⟩
    case measure=>simp[QO];omega
   | false=>
    have HR:=fV (aL.o i m HM.o hem);clear hem;go_wp2;go_ret;exact⟨by rw[HR.o];rfl,J.o⟩
  ·have HR:QP (xL (jB L) ns=true):=U.o (λ j m D=>HA.o j m (by have:=(LN.1 D).1;rw[V.o]at this;omega) D);have dl:=dF i n (by omega)
   clear F;go_wp2;go_ret;exact⟨by rw[HR.o];rfl,HB.o⟩
theorem xT{P:Program}(w:tW)(t ty:TypeId)(aH:Nat)(e:TypeId)(i:TypeInfo)(size:Nat)(D:P.underlying t=some (.slice e))(hi:P.info? e=some i)
  (v:tV) (n:Nat) (xs:List tV) (o:w.ownsRow aH e size v n xs) (a:Option Addr) (c:Nat):(Builtin.append_ #[t,t] ty #[v,.slice a 0 c]).run P w=.ok v w:=by
 cases a with
 | none=>
  rcases o.2 with⟨rfl,rfl⟩|⟨g,aJ,F,rfl,_,_,C,_⟩
  ·simp[Builtin.append_,QT D,sizeOf,typeInfo,hi,Builtin.lenOf,Builtin.firstCells]
  ·simp[Builtin.append_,QT D,sizeOf,typeInfo,hi,Builtin.lenOf,Builtin.firstCells,C,storeCells]
 | some ad=>
  rcases o.2 with⟨rfl,rfl⟩|⟨g,aJ,F,rfl,_,_,C,_⟩
  ·simp[Builtin.append_,QT D,sizeOf,typeInfo,hi,Builtin.lenOf,Builtin.firstCells,loadCells,loadCellsFrom]
  ·simp[Builtin.append_,QT D,sizeOf,typeInfo,hi,Builtin.lenOf,Builtin.firstCells,C,storeCells,loadCells,loadCellsFrom]
theorem oM(g o j:Nat):(⟨g,o,none⟩:Addr).add j=⟨g,o+j,none⟩:=by
 unfold Addr.add;split
 ·rename_i C;rw[C];rfl
 ·rfl
theorem M7(w:tW){ops:Array Oper}{rest:List Oper}{o:Oper}{a:Act}{Q:Exit->Act->tW->Prop}(J:o.guard=none)(s x:Operand)
  (X:o.op=.call {callee:= .builtin .append,args:= #[s,x],argTypes:= #[59,59]})
  (aH:Nat) (v:tV) (ms ns:List Nat) (u:tV) (Z:a.eval s=v) (C:w.ownsRow aH 3 1 v ms.length (kK ms)) (Y:a.eval x=u) (hu:IL w u ns) (hn:ms.length+ns.length<=1000000000) (I:aH<=w.heap.size)
  (h:∀v' w',w'.ownsRow aH 3 1 v' (ms++ns).length (kK (ms++ns))->w.grownBy w' v.ownBlock->wpList MG ops Q rest (a.put o.dst v') w'):wpList MG ops Q (o::rest) a w:=by
 obtain⟨i,hi,hz,F,hb⟩:=QQ bX;obtain⟨ad,aJ,rfl,_,hu⟩:=hu;rcases hu with rfl|⟨g,of,rfl,hg,hc⟩
 ·refine wpList_plain J λ K V=>?_
  have hr:=xT (P:=MG) w 59 o.type aH 3 i 1 NI hi v ms.length (kK ms) C ad aJ;have U:=h v w (by rw[MA];exact C) ⟨rfl,rfl,rfl,lR,λ _ _ _=>rfl⟩;unfold Oper.wp execOp;simp only[X,resolve,invoke,builtin,Sem.run_bind,Sem.run_pure,Result.andThen_ok,OX,NY,PF,Z,Y,NQ,hr];exact V _ _ U
 ·by_cases aL:ns.length=0
  ·have e:ns=[]:=MZ.1 aL;subst e;refine wpList_plain J λ K V=>?_
   have hr:=xT (P:=MG) w 59 o.type aH 3 i 1 NI hi v ms.length (kK ms) C (some ⟨g,of,none⟩) aJ;have U:=h v w (by rw[MA];exact C) ⟨rfl,rfl,rfl,lR,λ _ _ _=>rfl⟩;unfold Oper.wp execOp;simp only[X,resolve,invoke,builtin,Sem.run_bind,Sem.run_pure,Result.andThen_ok,OX,NY,PF,Z,Y,NQ,hr];exact V _ _ U
  ·refine wpList_append_lies w J s x 59 X aH 3 i (.int .i64 0) 1 8 NI hi hz F hb rfl (by decide) v ms.length (kK ms) Z C ⟨g,of,none⟩ ns.length aJ (kK ns) Y (by unfold kK;simp) (λ j y D=>?_) (λ y D=>?_) (by omega) (by unfold maxLen;omega) (by omega) I _ rfl (λ g4 cap4 w4 h1 h2 _ _=>h _ w4 (by unfold kK at*;rw[List.map_append,LD];exact h1) h2)
   ·rw[oM];have hj:j<ns.length:=by have:=(LN.1 D).1;unfold kK at this;rw[NB]at this;exact this
    have hm:=qH (LC hj);rw[hm]at D;injection D with D;rw[<-D];exact hc j _ (LC hj)
   ·unfold kK at D;obtain⟨m,_,rfl⟩:=LY.1 D
    rfl
theorem V4{w:tW}{v u:tV}(hv:IL w v ns)(Z:IL w u ms)(hn:ns.length+ms.length<=1000000000):
  QU MG 108 #[v,u] w λ e w'=>∃Y,e=.returned Y/\Bl w w'/\w'.ownsRow w.heap.size 3 1 Y (ns++ms).length (kK (ns++ms)):=by
 have HV:=fV hv;have HU:=fV Z;clear hv Z;go_enter func108,ntmps108;go_wp2_with (first
  | (at_builtin;refine M7 w rfl (.tmp 6) (.tmp 7) rfl w.heap.size (.slice none 0 0) [] ns v rfl (MY _ _ _ 1) rfl HV.o (by simp;omega) lR ?_;intro v1 w1 I D;have Q:=fV I;have C:QP (Bl w w1):=⟨D.os,D.tape,D.output,D.size,λ k U=>D.block k U (λ e=>by cases e)⟩;clear I D)
  | (at_builtin;refine M7 w1 rfl (.tmp 9) (.tmp 10) rfl w.heap.size v1 ([]++ns) ms u rfl Q.o rfl (HU.o.below C.o lR) (by simp;omega) C.o.size ?_;intro v2 w2 J F;have X:=fV J;have V:QP (Bl w w2):=⟨F.os.trans C.o.os,F.tape.trans C.o.tape,F.output.trans C.o.output,NT C.o.size F.size,λ k U=>(F.block k (MI U C.o.size) (λ e=>by have:=(Q.o.lt k e.symm).1;omega)).trans (C.o.block k U)⟩;clear J F))
 go_ret;exact⟨v2,rfl,V.o,X.o⟩
def mB(o:Nat)(ns:List Nat)(rb:Nat)(ms:List Nat):Bool:=decide (o=rb/\ns=ms)
theorem x8(F:ns.length=ms.length)(h:∀(j x y:Nat),ns[j]?=some x->ms[j]?=some y->x=y):ns=ms:=by
 apply OP;intro j;by_cases D:j<ns.length
 ·have o:=LC D;have C:=LC (show j<ms.length by omega);rw[o,C,h j _ _ o C]
 ·rw[MU (by omega),MU (by omega)]
theorem Vm{w:tW}(D rb:Nat){v u:tV}{ns ms:List Nat}(hv:IL w v ns)(hu:IL w u ms)(hl:ns.length<=1000000/\ms.length<=1000000):
  QU MG 110 #[.agg #[.int .i64 (D:Int),v],.agg #[.int .i64 (rb:Int),u]] w λ e w'=>e=.returned (.bool (mB D ns rb ms))/\Bl w w':=by
 obtain⟨a,ca,rfl,_,hv⟩:=hv;obtain⟨b,cb,rfl,_,hu⟩:=hu;obtain⟨n,en⟩:=xE (ns.length)
 obtain⟨m,em⟩:=xE (ms.length)
 rw[en,em]at hl ⊢;have I:=fV en;have V:=fV em;have HV:=fV hv;have HU:=fV hu;clear en em hv hu;have C:QP (Bl w ((w.alloc (.cells #[.int .i64 (D:Int),.slice a n ca] 188)).alloc (.cells #[.int .i64 (rb:Int),.slice b m cb] 188))):=(bR.alloc lR _).alloc (by simp) _;have e1:(w.alloc (.cells #[.int .i64 (D:Int),.slice a n ca] 188)).heap.size=w.heap.size+1:=by simp
 have ho:((w.alloc (.cells #[.int .i64 (D:Int),.slice a n ca] 188)).alloc (.cells #[.int .i64 (rb:Int),.slice b m cb] 188)).heap[w.heap.size]?=(w.alloc (.cells #[.int .i64 (D:Int),.slice a n ca] 188)).heap[w.heap.size]? :=MC (w.alloc _) _ _ (by omega);have a0:((w.alloc (.cells #[.int .i64 (D:Int),.slice a n ca] 188)).alloc (.cells #[.int .i64 (rb:Int),.slice b m cb] 188)).cell? ⟨w.heap.size,0,none⟩=some (.int .i64 (D:Int)):=(LJ (a:=⟨w.heap.size,0,none⟩) ho).trans ((MR _ _ _ 0 rfl).trans rfl);have a1:((w.alloc (.cells #[.int .i64 (D:Int),.slice a n ca] 188)).alloc (.cells #[.int .i64 (rb:Int),.slice b m cb] 188)).cell? ⟨w.heap.size,1,none⟩=some (.slice a n ca):=(LJ (a:=⟨w.heap.size,1,none⟩) ho).trans ((MR _ _ _ 1 rfl).trans rfl);have b0:((w.alloc (.cells #[.int .i64 (D:Int),.slice a n ca] 188)).alloc (.cells #[.int .i64 (rb:Int),.slice b m cb] 188)).cell? ⟨w.heap.size+1,0,none⟩=some (.int .i64 (rb:Int)):=(MR _ _ _ 0 e1.symm).trans rfl;have b1:((w.alloc (.cells #[.int .i64 (D:Int),.slice a n ca] 188)).alloc (.cells #[.int .i64 (rb:Int),.slice b m cb] 188)).cell? ⟨w.heap.size+1,1,none⟩=some (.slice b m cb):=(MR _ _ _ 1 e1.symm).trans rfl;clear e1 ho;by_cases k1:D=rb/\n=m
 ·obtain⟨h1,Y⟩:=k1;have d1:((D:Int) !=(rb:Int))=false:=by rw[h1];simp
  have d2:((n:Int) !=(m:Int))=false:=by rw[Y];simp
  have aW:=fV h1;have aL:=fV Y;clear h1 Y;go_enter func110,ntmps110;go_wp2_with fail;generalize (w.alloc (.cells #[.int .i64 (D:Int),.slice a n ca] 188)).alloc (.cells #[.int .i64 (rb:Int),.slice b m cb] 188)=W at*
  go_loopw [5] (λ z wr=>∃(i q:Nat),i<=n/\z=.int .i64 (i:Int)/\QP (∀(j x y:Nat),j<i->ns[j]?=some x->ms[j]?=some y->x=y)/\wr=W.drewN q) (λ z _=>n-(QO z).toNat)
  case atStart=>exact⟨0,0,by omega,rfl,fV (λ j x y hj=>absurd hj (by omega)),rfl⟩
  case round=>
   obtain⟨i,q,hi,rfl,HA,rfl⟩:=hrel;by_cases Q:i<n
   ·have aO:i<m:=by rw[<-aL.o];exact Q
    obtain⟨x,J⟩:∃x,ns[i]?=some x:=⟨ns[i]'(by rw[I.o];exact Q),LC _⟩
    obtain⟨y,U⟩:∃y,ms[i]?=some y:=⟨ms[i]'(by rw[V.o];exact aO),LC _⟩
    obtain⟨g,o,rfl,hg,hc⟩:=HV.o.resolve_left (λ e=>by rw[e]at J;simp at J);obtain⟨g2,o2,rfl,aT,aR⟩:=HU.o.resolve_left (λ e=>by rw[e]at U;simp at U);have y1:W.cell? ⟨g,o+i,none⟩=some (.int .i64 (x:Int)):=(C.o.cell (p:=⟨g,o+i,none⟩) hg).trans (hc i x J);have y2:W.cell? ⟨g2,o2+i,none⟩=some (.int .i64 (y:Int)):=(C.o.cell (p:=⟨g2,o2+i,none⟩) aT).trans (aR i y U);have bM:=iI i n (by omega)
    have bK:=iI i m (by omega)
    have HX:=fV J;have HY:=fV U;clear J U hc aR;by_cases F:x=y
    ·have bC:QP (∀(j x y:Nat),j<i+1->ns[j]?=some x->ms[j]?=some y->x=y):=λ j p r hj Z hr=>by
      by_cases e:j=i
      ·subst e;rw[HX.o]at Z;rw[HY.o]at hr;injection Z with Z;injection hr with hr;rw[<-Z,<-hr];exact F
      ·exact HA.o j p r (by omega) Z hr
     have dx:((x:Int) !=(y:Int))=false:=by rw[F];simp
     clear F;go_upto_region 6 with fail;go_big_region
     all_goals
      go_wp2;go_roundw
      case rel=>exact⟨i+1,q+1,Q,by go_num,bC,rfl⟩
      case measure=>simp[QO];omega
    ·have X:QP (mB D ns rb ms=false):=by
      unfold QP mB;rw[aF];rintro⟨_,e⟩;have:=HX.o;rw[e,HY.o]at this;injection this with this;exact F this.symm
     have dx:((x:Int) !=(y:Int))=true:=by rw[aD];omega
     clear F;go_upto_region 6 with fail;go_big_region
     all_goals
      go_wp2;go_ret;exact⟨by rw[X.o];rfl,C.o.os,C.o.tape,C.o.output,C.o.size,C.o.block⟩
   ·have X:QP (mB D ns rb ms=true):=by
     unfold QP mB;rw[aE];exact⟨aW.o,x8 (by rw[I.o,V.o];exact aL.o) (λ j x y J U=>HA.o j x y (by have:=(LN.1 J).1;rw[I.o]at this;omega) J U)⟩
    have dl:=dF i n (by omega)
    go_wp2;go_ret;exact⟨by rw[X.o];rfl,C.o.os,C.o.tape,C.o.output,C.o.size,C.o.block⟩
 ·have X:QP (mB D ns rb ms=false):=by
   unfold QP mB;rw[aF];rintro⟨h1,Y⟩;exact k1 ⟨h1,by rw[<-I.o,<-V.o,Y]⟩
  by_cases k2:D=rb
  ·have d1:((D:Int) !=(rb:Int))=false:=by rw[k2];simp
   have d2:((n:Int) !=(m:Int))=true:=by rw[aD];intro e;exact k1 ⟨k2,by omega⟩
   clear k1 k2;go_enter func110,ntmps110;go_wp2;go_ret;exact⟨by rw[X.o];rfl,C.o⟩
  ·have d1:((D:Int) !=(rb:Int))=true:=by rw[aD];omega
   clear k1 k2;go_enter func110,ntmps110;go_wp2;go_ret;exact⟨by rw[X.o];rfl,C.o⟩
def Fj(w:tW)(B:Nat)(ob:Option Nat)(v:tV)(ns:List Nat):Prop:=
 ∃a aJ,v=.slice a ns.length aJ/\ns.length<=aJ/\(ns=[]\/∃g o,a=some ⟨g,o,none⟩/\B<=g/\g<w.heap.size/\ob≠some g/\∀(i m:Nat),ns[i]?=some m->w.cell? ⟨g,o+i,none⟩=some (.int .i64 (m:Int)))
theorem Fj.il{w:tW}{v:tV}(h:Fj w B ob v ns):IL w v ns:=by
 obtain⟨a,aJ,e,C,h⟩:=h;refine⟨a,aJ,e,C,?_⟩;rcases h with h|⟨g,o,D,_,F,_,I⟩
 ·exact .inl h
 ·exact .inr ⟨g,o,D,F,I⟩
theorem Fj.nil(w:tW)(B:Nat)(ob:Option Nat):Fj w B ob (.slice none 0 0) []:=⟨none,0,rfl,lR,.inl rfl⟩
theorem Fj.keep{w w':tW}{C:Option Nat}{v:tV}(h:Fj w B ob v ns)(hz:w.heap.size<=w'.heap.size)(U:∀k,B<=k->k<w.heap.size->ob≠some k->w'.heap[k]?=w.heap[k]? /\C≠some k)(hb:B'<=B):Fj w' B' C v ns:=by
 obtain⟨a,aJ,e,D,h⟩:=h;refine⟨a,aJ,e,D,?_⟩;rcases h with h|⟨g,o,J,Q,V,X,Y⟩
 ·exact .inl h
 ·obtain⟨F,I⟩:=U g Q V X;exact .inr ⟨g,o,J,by omega,by omega,I,λ i m Z=>(LJ (w:=w) (a:=⟨g,o+i,none⟩) F).trans (Y i m Z)⟩
theorem Fj.of_row{w:tW}{v:tV}(h:w.ownsRow B 3 1 v ns.length (kK ns))(F:∀k,ob=some k->k<B)(U:B'<=B):Fj w B' ob v ns:=by
 obtain⟨a,aJ,e⟩:=gA h;refine⟨a,aJ,e,Tt (by rw[<-e];exact h),?_⟩;rcases iL h with o|⟨g,Q,o⟩
 ·left;rw[e]at o;injection o with _ C _;exact MZ.1 C
 ·right;have D:=h.lt g (by rw[o];rfl);rw[e]at o;injection o with C _ _;refine⟨g,0,C,by omega,D.2,λ J=>by have:=F g J;omega,λ i m I=>?_⟩;have:=h.cells (g:=g) (by rw[e,C];rfl) i _ (qH I);rw[oM]at this;exact this
structure LL(w:tW)(B:Nat)(v:tV)(xs:List (List Nat))(vs:List tV):Prop where
 ro:w.ownsRow B 59 1 v xs.length vs
 el:∀(j:Nat)(u:tV)(x:List Nat),vs[j]?=some u->xs[j]?=some x->Fj w B v.ownBlock u x
theorem LL.start(w:tW)(B:Nat):LL w B (.slice none 0 0) [] []:=⟨MY w B _ 1,λ j u x h=>by simp at h⟩
theorem LL.below{w w':tW}{v:tV}{vs:List tV}(h:LL w B v xs vs)(C:Bl w w'):LL w' B v xs vs:=
 ⟨iH h.ro (λ k o=>C.block k (h.ro.lt k o).2),λ j u x D F=>(h.el j u x D F).keep C.size (λ k _ o I=>⟨C.block k o,I⟩) lR⟩
theorem LL.app{w w4:tW}{v u:tV}{vs:List tV}(h:LL w B v xs vs)(hu:Fj w B v.ownBlock u x){o:Obj}{g aJ:Nat}
  (F:w4.ownsRow B 59 1 (.slice (some ⟨g,0,none⟩) (xs.length+1) aJ) (xs.length+1) (vs++[u])) (D:(w.alloc o).grownBy w4 v.ownBlock) (Q:v.ownBlock=some g\/g=w.heap.size+1):
  LL w4 B (.slice (some ⟨g,0,none⟩) (xs.length+1) aJ) (xs++[x]) (vs++[u]):=by
 have aL:=D.size;have ez:(w.alloc o).heap.size=w.heap.size+1:=by simp
 have Y:vs.length=xs.length:=by have:=h.ro.1;omega
 have C:∀k,k<w.heap.size->v.ownBlock≠some k->w4.heap[k]?=w.heap[k]? /\(OC (some ⟨g,0,none⟩) (xs.length+1) aJ).ownBlock≠some k:=λ k hk X=>by
  refine⟨(D.block k (by omega) (λ e=>X e.symm)).trans (MC w o k hk),λ e=>?_⟩;have e:g=k:=by simpa[NE]using e
  subst e;rcases Q with V|V
  ·exact X V
  ·omega
 refine⟨by rw[LD,LS];exact F,λ j a b I J=>?_⟩;by_cases Z:j<vs.length
 ·rw[LO Z]at I;rw[LO (by omega)]at J;exact(h.el j a b I J).keep (by omega) (λ k _=>C k) lR
 ·have U:=(LN.1 I).1;rw[LD,LS]at U;have e:j=vs.length:=by omega
  subst e;rw[LU lR,MW]at I;rw[Y,LU lR,MW]at J;have ea:=sJ I
  have eb:=sJ J
  subst ea eb;exact hu.keep (by omega) (λ k _=>C k) lR
def Zb(w:tW)(B:Nat)(v:tV)(xs:List (List Nat)):Prop:=
 ∃a aJ,v=.slice a xs.length aJ/\(xs=[]\/∃g,a=some ⟨g,0,none⟩/\B<=g/\g<w.heap.size/\∀(k:Nat)(x:List Nat),xs[k]?=some x->∃u,w.cell? ⟨g,k,none⟩=some u/\Fj w B none u x)
theorem Zb.keep{w w':tW}{v:tV}(h:Zb w B v xs)(F:w.heap.size<=w'.heap.size)(D:∀k,B<=k->k<w.heap.size->w'.heap[k]?=w.heap[k]?)(U:B'<=B):Zb w' B' v xs:=by
 obtain⟨a,aJ,e,h⟩:=h;refine⟨a,aJ,e,?_⟩;rcases h with h|⟨g,o,C,J,Q⟩
 ·exact .inl h
 ·refine .inr ⟨g,o,by omega,by omega,λ k x I=>?_⟩;obtain⟨u,X,V⟩:=Q k x I;exact⟨u,(LJ (w:=w) (a:=⟨g,k,none⟩) (D g C J)).trans X,V.keep F (λ k o C _=>⟨D k o C,λ e=>by cases e⟩) U⟩
theorem LL.read{w:tW}{v:tV}{vs:List tV}(h:LL w B v xs vs):Zb w B v xs:=by
 obtain⟨a,aJ,e⟩:=gA h.ro;refine⟨a,aJ,e,?_⟩;have U:vs.length=xs.length:=by have:=h.ro.1;omega
 rcases iL h.ro with o|⟨g,V,o⟩
 ·left;rw[e]at o;injection o with _ D _;exact MZ.1 D
 ·right;have C:=h.ro.lt g (by rw[o];rfl);rw[e]at o;injection o with D _ _;refine⟨g,D,C.1,C.2,λ k x F=>?_⟩;have Q:k<vs.length:=by have:=(LN.1 F).1;omega
  have I:=LC Q;have J:=h.ro.cells (g:=g) (by rw[e,D];rfl) k _ I;rw[oM,MH]at J;exact⟨_,J,(h.el k _ x I F).keep lR (λ _ _ _ _=>⟨rfl,λ e=>by cases e⟩) lR⟩
structure RI(w w1:tW)(vo1:tV)(wr:tW)(vo:tV)(xs:List (List Nat)):Prop where
 ll:∃vs,LL wr w.heap.size vo xs vs
 gr:w1.grownBy wr vo1.ownBlock
 ow:∀g,vo.ownBlock=some g->vo1.ownBlock=some g\/w1.heap.size<=g
 bl:Bl w wr
theorem RI.start(w:tW):RI w w (.slice none 0 0) w (.slice none 0 0) []:=⟨⟨[],LL.start w _⟩,⟨rfl,rfl,rfl,lR,λ _ _ _=>rfl⟩,λ g e=>(by cases e),bR⟩
theorem RI.from{w w1 wr:tW}{o vo:tV}(h:RI w w1 o wr vo xs):RI w wr vo wr vo xs:=⟨h.ll,⟨rfl,rfl,rfl,lR,λ _ _ _=>rfl⟩,λ _ e=> .inl e,h.bl⟩
theorem RI.below{w w1 wr w':tW}{C vo:tV}(h:RI w w1 C wr vo xs)(o:Bl wr w'):RI w w1 C w' vo xs:=by
 obtain⟨vs,J⟩:=h.ll;have U:=h.gr.size;have Q:=h.bl.size;have I:=o.size;refine⟨⟨vs,J.below o⟩,⟨o.os.trans h.gr.os,o.tape.trans h.gr.tape,o.output.trans h.gr.output,by omega,λ k D F=>(o.block k (by omega)).trans (h.gr.block k D F)⟩,h.ow,⟨o.os.trans h.bl.os,o.tape.trans h.bl.tape,o.output.trans h.bl.output,by omega,λ k D=>(o.block k (by omega)).trans (h.bl.block k D)⟩⟩
theorem RI.app{w w1 wr w4:tW}{J vo u:tV}(h:RI w w1 J wr vo xs)(Z:Fj wr w.heap.size vo.ownBlock u x)(hn:xs.length=n){vs:List tV}(V:LL wr w.heap.size vo xs vs){o:Obj}{g aJ:Nat}
  (I:w4.ownsRow w.heap.size 59 1 (.slice (some ⟨g,0,none⟩) (n+1) aJ) (n+1) (vs++[u])) (C:(wr.alloc o).grownBy w4 vo.ownBlock) (F:vo.ownBlock=some g\/g=wr.heap.size+1):
  RI w w1 J w4 (.slice (some ⟨g,0,none⟩) (n+1) aJ) (xs++[x]):=by
 subst hn;have Y:=C.size;have ez:(wr.alloc o).heap.size=wr.heap.size+1:=by simp
 have hz:=h.gr.size;have X:=h.bl.size;refine⟨⟨_,V.app Z I C F⟩,⟨C.os.trans h.gr.os,C.tape.trans h.gr.tape,C.output.trans h.gr.output,by omega,λ k U Q=>?_⟩,λ k e=>?_,⟨C.os.trans h.bl.os,C.tape.trans h.bl.tape,C.output.trans h.bl.output,by omega,λ k U=>?_⟩⟩
 ·refine((C.block k (by omega) (λ e=>?_)).trans (MC wr o k (by omega))).trans (h.gr.block k U Q);rcases h.ow k e.symm with D|D
  ·exact Q D.symm
  ·omega
 ·have e:g=k:=by simpa[NE]using e
  subst e;rcases F with D|D
  ·exact h.ow g D
  ·right;omega
 ·exact((C.block k (by omega) (λ e=>by have:=(V.ro.lt k e.symm).1;omega)).trans (MC wr o k (by omega))).trans (h.bl.block k U)
open Go.Stn
section
abbrev jL:=Nat×List Nat
def nH(l:List jL)(x:jL):Bool:=l.any (λ y=>mB y.1 y.2 x.1 x.2)
theorem rR{l:List jL}{x:jL}:nH l x=true↔x∈l:=by
 unfold nH mB;rw[NK];constructor
 ·rintro⟨y,o,h⟩;rw[aE]at h;have:y=x:=Prod.ext h.1 h.2;rw[<-this];exact o
 ·intro h;exact⟨x,h,by simp⟩
def Cw(out:List jL)(x:jL):List jL:=if nH out x=true then out else out++[x]
def yF(r:Nat)(out:List jL)(ms:List (List Nat)):List jL:=ms.foldl (λ o m=>Cw o (r,m)) out
def yJ(N:List RN)(c:Nat)(x:List Nat):List (List Nat):=nU (bD N c) N x
def wU(N:List RN)(c:Nat)(out:List jL)(l:List jL):List jL:=l.foldl (λ o p=>yF p.1 o (yJ N c p.2)) out
def lG(N:List RN)(c:Nat)(l:List jL):List jL:=wU N c [] l
theorem Xt(r:Nat)(out:List jL)(ms:List (List Nat))(m:List Nat):yF r out (ms++[m])=Cw (yF r out ms) (r,m):=by unfold yF;rw[NU];rfl
theorem Qi(N:List RN)(c:Nat)(out l:List jL)(p:jL):wU N c out (l++[p])=yF p.1 (wU N c out l) (yJ N c p.2):=by unfold wU;rw[NU];rfl
theorem Zu{out:List jL}{x y:jL}:x∈Cw out y↔x∈out\/x=y:=by
 unfold Cw;split
 ·rename_i h;constructor
  ·exact .inl
  ·rintro(o|o)
   ·exact o
   ·rw[o];exact rR.1 h
 ·rw[LM,LH]
theorem Ea{x:jL}:∀{ms:List (List Nat)}{out:List jL},x∈yF r out ms↔x∈out\/∃m,m∈ms/\x=(r,m)
 | [],out=>by
  constructor
  ·exact .inl
  ·rintro(h|⟨m,o,_⟩)
   ·exact h
   ·exact absurd o LK
 | a::ms,out=>by
  show x∈yF r (Cw out (r,a)) ms↔_;rw[Ea,Zu];constructor
  ·rintro((h|h)|⟨m,o,h⟩)
   ·exact .inl h
   ·exact .inr ⟨a,LG,h⟩
   ·exact .inr ⟨m,LI _ o,h⟩
  ·rintro(h|⟨m,o,h⟩)
   ·exact .inl (.inl h)
   ·rcases MF.1 o with e|e
    ·rw[e]at h;exact .inl (.inr h)
    ·exact .inr ⟨m,e,h⟩
theorem T0{N:List RN}{x:jL}:∀{l out:List jL},x∈wU N c out l↔x∈out\/∃p,p∈l/\p.1=x.1/\x.2∈yJ N c p.2
 | [],out=>by
  constructor
  ·exact .inl
  ·rintro(h|⟨m,F,_⟩)
   ·exact h
   ·exact absurd F LK
 | a::l,out=>by
  show x∈wU N c (yF a.1 out (yJ N c a.2)) l↔_;rw[T0,Ea];constructor
  ·rintro((h|⟨m,F,h⟩)|⟨p,D,o,C⟩)
   ·exact .inl h
   ·exact .inr ⟨a,LG,by rw[h],by rw[h];exact F⟩
   ·exact .inr ⟨p,LI _ D,o,C⟩
  ·rintro(h|⟨p,D,o,C⟩)
   ·exact .inl (.inl h)
   ·rcases MF.1 D with e|e
    ·rw[e]at o C;exact .inl (.inr ⟨x.2,C,Prod.ext o.symm rfl⟩)
    ·exact .inr ⟨p,e,o,C⟩
theorem X5{N:List RN}{l:List jL}{x:jL}:x∈lG N c l↔∃p,p∈l/\p.1=x.1/\x.2∈yJ N c p.2:=by
 unfold lG;rw[T0];exact⟨λ h=>h.resolve_left LK,.inr⟩
theorem GG{out:List jL}{x:jL}(h:out.Nodup):(Cw out x).Nodup:=by
 unfold Cw;split
 ·exact h
 ·rename_i o;rw[List.nodup_append];refine⟨h,by simp,λ a D b C=>?_⟩;rw[LH.1 C];rintro rfl;exact o (rR.2 D)
theorem Jm:∀{ms:List (List Nat)}{out:List jL},out.Nodup->(yF r out ms).Nodup
 | [],_,h=>h
 | m::ms,out,h=>Jm (ms:=ms) (out:=Cw out (r,m)) (GG h)
theorem Dc{N:List RN}:∀{l out:List jL},out.Nodup->(wU N c out l).Nodup
 | [],_,h=>h
 | p::l,out,h=>Dc (l:=l) (out:=yF p.1 out (yJ N c p.2)) (Jm h)
theorem P6(N:List RN)(c:Nat)(l:List jL):(lG N c l).Nodup:=Dc List.nodup_nil
theorem vY{α:Type} [DecidableEq α]:∀{l S:List α},l.Nodup->(∀x,x∈l->x∈S)->l.length<=S.length
 | [],S,_,_=>zL
 | a::l,S,hn,h=>by
  have D:=h a LG;rw[OZ]at hn;have F:=vY (S:=S.erase a) hn.2 (λ x C=>by
   have o:x≠a:=λ e=>hn.1 (by rw[<-e];exact C)
   exact(List.mem_erase_of_ne o).2 (h x (LI _ C)))
  rw[List.length_erase_of_mem D]at F;have:=List.length_pos_of_mem D;rw[MB];omega
structure mO(N:List RN)(aQ ks:List Nat):Prop where
 sh:rA N
 cl:gI N
 len:ks.length=aQ.length
 tr:∀(r n k:Nat),aQ[r]?=some n->ks[r]?=some k->n<N.length/\Tr N n k
 sum:ks.sum<=10
 r8:aQ.length<=8
 n3:N.length<=3000
def UL(N:List RN)(aQ:List Nat)(p:jL):Prop:=∃n,aQ[p.1]?=some n/\p.2∈pD N n
def UB(N:List RN)(aQ:List Nat)(p:jL):Prop:=∃n,aQ[p.1]?=some n/\(p.2=[n]\/p.2∈pD N n)
theorem UL.ub{N:List RN}{aQ:List Nat}{p:jL}(h:UL N aQ p):UB N aQ p:=by
 obtain⟨n,o,C⟩:=h;exact⟨n,o,.inr C⟩
section
variable {N:List RN}{aQ ks:List Nat}
theorem AC:∀{l:List Nat}{k:Nat},k∈l->k<=l.sum
 | [],k,h=>absurd h LK
 | a::l,k,h=>by
  rw[PB];rcases MF.1 h with e|e
  ·omega
  ·have:=AC e;omega
theorem mO.top(h:mO N aQ ks){r n:Nat}(D:aQ[r]?=some n):∃k,ks[r]?=some k/\n<N.length/\Tr N n k/\k<=10:=by
 have C:=(LN.1 D).1;have o:=LC (l:=ks) (i:=r) (by rw[h.len];exact C);obtain⟨I,J⟩:=h.tr r n _ D o;have:=h.sum;have F:=AC (LZ o);exact⟨_,o,I,J,by omega⟩
theorem Ze{B:Nat->List (List Nat)}:nU B N [n]=B n:=by
 unfold nU;have:(if xJ N n=true then nU B N []else [])=[]:=by unfold nU;split<;>rfl
 rw[this,MA];simp
theorem mO.step_in(h:mO N aQ ks){p:jL}(F:UB N aQ p){c:Nat}{m:List Nat}(o:m∈yJ N c p.2):UL N aQ (p.1,m):=by
 obtain⟨n,D,I⟩:=F;obtain⟨k,_,C,_,_⟩:=h.top D;refine⟨n,D,?_⟩;unfold yJ at o;rcases I with e|e
 ·rw[e,Ze]at o;exact Cq h.cl n C m o
 ·exact DP h.cl n C p.2 e m o
theorem mO.step_all(h:mO N aQ ks){l:List jL}(I:∀p,p∈l->UB N aQ p){c:Nat}:∀p,p∈lG N c l->UL N aQ p:=λ x o=>by
 obtain⟨p,C,D,F⟩:=X5.1 o;have:=h.step_in (I p C) F;rw[D]at this;exact this
theorem KR:∀(aQ ks:List Nat)(o:Nat),ks.length=aQ.length->(∀(r n k:Nat),aQ[r]?=some n->ks[r]?=some k->n<N.length/\Tr N n k)->∃S:List jL,S.length<=ks.sum/\∀(r n:Nat)(y:List Nat),aQ[r]?=some n->y∈pD N n->(o+r,y)∈S
 | [],ks,o,_,_=>⟨[],by simp,λ r n y h=>by simp at h⟩
 | t::aQ,[],o,hl,_=>by simp at hl
 | t::aQ,k::ks,o,hl,h=>by
  obtain⟨S,Q,I⟩:=KR aQ ks (o+1) (by simpa using hl) (λ r n q C F=>h (r+1) n q (by simpa using C) (by simpa using F));obtain⟨_,⟨T,U,J⟩,_⟩:=h 0 t k rfl rfl;refine⟨T.map (λ y=>(o,y))++S,by rw[LD,NB,PB];omega,λ r n y C D=>?_⟩
  cases r with
  | zero=>
   have e:=sJ C
   subst e;exact LM.2 (.inl (LY.2 ⟨y,J y D,rfl⟩))
  | succ r=>
   have:=I r n y (by simpa using C) D;rw[show o+1+r=o+(r+1) by omega]at this;exact LM.2 (.inr this)
theorem mO.univ(h:mO N aQ ks):∃S:List jL,S.length<=10/\∀p,UL N aQ p->p∈S:=by
 obtain⟨S,I,D⟩:=Go.Proofs.YtgjgjgihceijnaaGreat.KR (N:=N) aQ ks 0 h.len h.tr;have:=h.sum;refine⟨S,by omega,λ p o=>?_⟩;obtain⟨n,F,C⟩:=o;have:=D p.1 n p.2 F C;rw[MH]at this;exact this
theorem mO.few(h:mO N aQ ks){l:List jL}(hn:l.Nodup)(D:∀p,p∈l->UL N aQ p):l.length<=10:=by
 obtain⟨S,F,C⟩:=h.univ;have:=vY hn (λ x o=>C x (D x o));omega
theorem mO.bnd(h:mO N aQ ks){p:jL}(J:UB N aQ p):(∀m,m∈p.2->m<N.length/\∀c,(bD N c m).length<=10)/\p.2.length<=700000/\p.1<aQ.length:=by
 obtain⟨n,F,I⟩:=J;obtain⟨k,_,C,Q,U⟩:=h.top F;have V:=h.n3;have D:∀m,m∈p.2->K3 N n m:=λ m o=>by
  rcases I with e|e
  ·rw[e]at o;rw[LH.1 o];exact .refl
  ·exact p7 h.cl n C p.2 e m o
 refine⟨λ m o=>⟨(D m o).lt h.cl C,λ c=>by have:=Q.2 m (D m o) c;omega⟩,?_,(LN.1 F).1⟩;rcases I with e|e
 ·rw[e,LS];omega
 ·have:=(Pc h.cl h.sh n C p.2 e).2;omega
def WL(N:List RN)(l:List jL)(r:Nat)(w:List Nat):Prop:=∃p,p∈l/\p.1=r/\rB (WN N) p.2 w
theorem mO.wl_step(h:mO N aQ ks){l:List jL}(J:∀p,p∈l->UB N aQ p){c:Nat}(V:c<256)(r:Nat)(w:List Nat):WL N (lG N c l) r w↔WL N l r (c::w):=by
 have o:∀p,p∈l->((∃y,y∈yJ N c p.2/\rB (WN N) y w)↔rB (WN N) p.2 (c::w)):=λ p C=>
  Jn h.sh p.2 (λ m U=>DU h.sh h.cl V (m+1) m (by omega) ((h.bnd (J p C)).1 m U).1) w
 constructor
 ·rintro⟨x,Q,I,F⟩;obtain⟨p,D,Z,X⟩:=X5.1 Q;exact⟨p,D,by omega,(o p D).1 ⟨x.2,X,F⟩⟩
 ·rintro⟨p,C,I,F⟩;obtain⟨y,Y,D⟩:=(o p C).2 F;exact⟨(p.1,y),X5.2 ⟨p,C,rfl,Y⟩,I,D⟩
theorem mO.done(h:mO N aQ ks)(x:List Nat):xL N x=true↔rB (WN N) x []:=by
 unfold xL;rw[MQ,R8];exact⟨λ k m o=>(P7 h.sh m).1 (k m o),λ k m o=>(P7 h.sh m).2 (k m o)⟩
end
def Fl(N:List RN)(b:Int)(p:jL):Int:=if xL N p.2=true/\(b= -1\/(p.1:Int)<b)then(p.1:Int)else b
def pT(N:List RN)(l:List jL):Int:=l.foldl (Fl N) (-1)
theorem Ge(N:List RN)(l:List jL)(p:jL):pT N (l++[p])=Fl N (pT N l) p:=by unfold pT;rw[NU];rfl
def X7(N:List RN)(l:List jL)(v:Int):Prop:=(v= -1/\∀p,p∈l->xL N p.2=false)\/∃r:Nat,v=(r:Int)/\(∃p,p∈l/\p.1=r/\xL N p.2=true)/\∀p,p∈l->xL N p.2=true->r<=p.1
theorem X7.snoc{N:List RN}{l:List jL}{v:Int}(h:X7 N l v)(p:jL):X7 N (l++[p]) (Fl N v p):=by
 unfold Fl
 cases hd:xL N p.2 with
 | false=>
  rw[aA (by simp)];rcases h with⟨D,F⟩|⟨r,D,⟨q,F,U,Q⟩,I⟩
  ·refine .inl ⟨D,λ q V=>?_⟩;rcases LM.1 V with e|e
   ·exact F q e
   ·rw[LH.1 e];exact hd
  ·refine .inr ⟨r,D,⟨q,LM.2 (.inl F),U,Q⟩,λ x C o=>?_⟩;rcases LM.1 C with e|e
   ·exact I x e o
   ·rw[LH.1 e,hd]at o;cases o
 | true=>
  simp only[true_and];rcases h with⟨D,F⟩|⟨r,D,⟨q,F,U,Q⟩,I⟩
  ·rw[aB (.inl D)];refine .inr ⟨p.1,rfl,⟨p,LM.2 (.inr LG),rfl,hd⟩,λ x C o=>?_⟩;rcases LM.1 C with e|e
   ·rw[F x e]at o;cases o
   ·rw[LH.1 e];exact lR
  ·by_cases J:(p.1:Int)<v
   ·rw[aB (.inr J)];refine .inr ⟨p.1,rfl,⟨p,LM.2 (.inr LG),rfl,hd⟩,λ x C o=>?_⟩;rcases LM.1 C with e|e
    ·have:=I x e o;omega
    ·rw[LH.1 e];exact lR
   ·rw[aA (by omega)];refine .inr ⟨r,D,⟨q,LM.2 (.inl F),U,Q⟩,λ x C o=>?_⟩;rcases LM.1 C with e|e
    ·exact I x e o
    ·rw[LH.1 e];omega
theorem BB(N:List RN)(l:List jL):X7 N l (pT N l):=by
 have C:∀(m l:List jL),X7 N l (pT N l)->X7 N (l++m) (pT N (l++m)):=by
  intro m
  induction m with
  | nil=>intro l h;rw[MA];exact h
  | cons p m ih=>
   intro l h;have:=ih (l++[p]) (by rw[Ge];exact h.snoc p);rw[LR]at this;exact this
 have:=C l [] (.inl ⟨rfl,λ p o=>absurd o LK⟩);rw[OK]at this;exact this
def pP(a b:List jL):Bool:=decide (a.length=b.length)&&a.all (λ x=>nH b x)
theorem Do{a b:List jL}(D:a.Nodup)(J:b.Nodup):pP a b=true↔∀x,x∈a↔x∈b:=by
 unfold pP;rw[NW,aE,MQ];constructor
 ·rintro⟨I,C⟩ x;refine⟨λ o=>rR.1 (C x o),λ o=>?_⟩;apply LP;intro F;have:=vY (l:=x::a) (S:=b) (by rw[OZ];exact⟨F,D⟩) (λ y Q=>by
   rcases MF.1 Q with e|e
   ·rw[e];exact o
   ·exact rR.1 (C y e))
  rw[MB]at this;omega
 ·intro h;refine⟨?_,λ x o=>rR.2 ((h x).1 o)⟩;have I:=vY D (λ x o=>(h x).1 o);have C:=vY J (λ x o=>(h x).2 o);omega
def wQ(N:List RN)(a b:Nat):Bool:=N.all (λ x=>x.k !=0||x.f a==x.f b)
theorem AT{N:List RN}{b:Nat}(h:wQ N a b=true){n:Nat}{x:RN}(C:N[n]?=some x)(o:x.k=0):x.f a=x.f b:=by
 unfold wQ at h;rw[MQ]at h;have:=h x (LZ C);rw[o]at this;simpa using this
theorem FQ{N:List RN}(D:gI N){a b:Nat}(h:wQ N a b=true):∀n,bD N a n=bD N b n:=by
 intro n
 induction n using MT with
 | ind n ih=>
  cases hx:N[n]? with
  | none=>unfold bD vH;rw[hx]
  | some x=>
   have o:∀m,m∈x.l->bD N a m=bD N b m:=λ m o=>ih m (D n x hx m o)
   rw[Q1 D hx,Q1 D hx,tE x.l o (λ _ _=>rfl),uH x.l o];by_cases C:x.k=0
   ·rw[aB C,aB C,AT h hx C]
   ·rw[aA C,aA C]
    cases hl:x.l with
    | nil=>rfl
    | cons m l=>
     rw[hl]at o;simp only[o m LG]
theorem Fw{N:List RN}(o:gI N){a b:Nat}(h:wQ N a b=true)(l:List jL):lG N a l=lG N b l:=by
 have e:yJ N a=yJ N b:=by
  funext x
  unfold yJ;exact tE x (λ m _=>FQ o h m) (λ _ _=>rfl)
 unfold lG wU;rw[e]
end
section
def ED(w:tW)(P:Nat->Prop)(v:tV)(ns:List Nat):Prop:=
 ∃a aJ,v=.slice a ns.length aJ/\ns.length<=aJ/\(ns=[]\/∃g o,a=some ⟨g,o,none⟩/\P g/\g<w.heap.size/\∀(i m:Nat),ns[i]?=some m->w.cell? ⟨g,o+i,none⟩=some (.int .i64 (m:Int)))
theorem ED.il{w:tW}{P:Nat->Prop}{v:tV}(h:ED w P v ns):IL w v ns:=by
 obtain⟨a,aJ,e,C,h⟩:=h;refine⟨a,aJ,e,C,?_⟩;rcases h with h|⟨g,o,D,_,F,I⟩
 ·exact .inl h
 ·exact .inr ⟨g,o,D,F,I⟩
theorem ED.keep{w w':tW}{P P':Nat->Prop}{v:tV}(h:ED w P v ns)(Y:w.heap.size<=w'.heap.size)(Q:∀k,P k->k<w.heap.size->w'.heap[k]?=w.heap[k]? /\P' k):ED w' P' v ns:=by
 obtain⟨a,aJ,e,C,h⟩:=h;refine⟨a,aJ,e,C,?_⟩;rcases h with h|⟨g,o,I,J,U,V⟩
 ·exact .inl h
 ·obtain⟨D,F⟩:=Q g J U;exact .inr ⟨g,o,I,F,by omega,λ i m X=>(LJ (w:=w) (a:=⟨g,o+i,none⟩) D).trans (V i m X)⟩
def Ah{α:Type}(E:tW->(Nat->Prop)->List tV->α->Prop):Prop:=
 ∀(w w':tW)(P P':Nat->Prop)(c:List tV)(x:α),E w P c x->w.heap.size<=w'.heap.size->(∀k,P k->k<w.heap.size->w'.heap[k]?=w.heap[k]? /\P' k)->E w' P' c x
theorem Cm:∀{cs:List (List tV)}{j i:Nat}{c:List tV},(∀c,c∈cs->c.length=z)->cs[j]?=some c->i<z->cs.flatten[j*z+i]?=c[i]?
 | [],j,i,c,_,h,_=>by simp at h
 | d::cs,0,i,c,hl,h,hi=>by
  have e:=sJ h
  subst e;rw[OR,Nat.zero_mul,MH,LO (by rw[hl d LG];exact hi)]
 | d::cs,j+1,i,c,hl,h,hi=>by
  have o:=hl d LG;have e:(j+1)*z+i=z+(j*z+i):=by rw[Nat.add_mul];omega
  rw[OR,e,LU (by omega),o,Nat.add_sub_cancel_left];exact Cm (λ c C=>hl c (LI _ C)) (by simpa using h) hi
def sV{α:Type}(E:tW->(Nat->Prop)->List tV->α->Prop)(T:TypeId)(z:Nat)(w:tW)(B:Nat)(P:Nat->Prop)(v:tV)(xs:List α)(cs:List (List tV)):Prop:=
 w.ownsRow B T z v xs.length cs.flatten/\cs.length=xs.length/\(∀c,c∈cs->c.length=z)/\∀(j:Nat)(c:List tV)(x:α),cs[j]?=some c->xs[j]?=some x->E w P c x
section
variable {α:Type}{E:tW->(Nat->Prop)->List tV->α->Prop}{T:TypeId}{z B:Nat}{w w':tW}{P P':Nat->Prop}{v:tV}{xs:List α}{cs:List (List tV)}
theorem sV.start(w:tW)(B:Nat)(P:Nat->Prop):sV E T z w B P (.slice none 0 0) [] []:=⟨MY w B T z,rfl,λ c o=>absurd o LK,λ j c x h=>by simp at h⟩
theorem sV.keep(J:Ah E)(h:sV E T z w B P v xs cs)(F:w.heap.size<=w'.heap.size)(I:∀k,v.ownBlock=some k->w'.heap[k]?=w.heap[k]?)(o:∀k,P k->k<w.heap.size->w'.heap[k]?=w.heap[k]? /\P' k):sV E T z w' B P' v xs cs:=
 ⟨iH h.1 I,h.2.1,h.2.2.1,λ j c x D C=>J w w' P P' c x (h.2.2.2 j c x D C) F o⟩
theorem sV.app(X:Ah E)(h:sV E T z w B P v xs cs){w4:tW}{o:Obj}{g aJ n:Nat}{u:List tV}{x:α}(hn:xs.length=n)(hu:E w P u x)(Q:u.length=z)
  (I:w4.ownsRow B T z (.slice (some ⟨g,0,none⟩) (n+1) aJ) (n+1) (cs.flatten++u)) (F:(w.alloc o).grownBy w4 v.ownBlock)
  (hP:∀k,P k->k<w.heap.size->v.ownBlock≠some k/\P' k):sV E T z w4 B P' (.slice (some ⟨g,0,none⟩) (n+1) aJ) (xs++[x]) (cs++[u]):=by
 subst hn;have aL:=F.size;have ez:(w.alloc o).heap.size=w.heap.size+1:=by simp
 have C:∀k,P k->k<w.heap.size->w4.heap[k]?=w.heap[k]? /\P' k:=λ k Z Y=>by
  obtain⟨h1,h2⟩:=hP k Z Y;exact⟨(F.block k (by omega) (λ e=>h1 e.symm)).trans (MC w o k Y),h2⟩
 have V:=h.2.1;refine⟨by rw[LD,LS,List.flatten_append,List.flatten_singleton];exact I,by simp[V],λ c D=>?_,λ j c y D J=>?_⟩
 ·rcases LM.1 D with e|e
  ·exact h.2.2.1 c e
  ·rw[LH.1 e];exact Q
 ·by_cases hj:j<cs.length
  ·rw[LO hj]at D;rw[LO (by omega)]at J;exact X w w4 P P' c y (h.2.2.2 j c y D J) (by omega) C
  ·have U:=(LN.1 D).1;rw[LD,LS]at U;have e:j=cs.length:=by omega
   subst e;rw[LU lR,MW]at D;rw[V,LU lR,MW]at J;have ea:=sJ D
   have eb:=sJ J
   subst ea eb;exact X w w4 P P' u x hu (by omega) C
theorem sV.at(h:sV E T z w B P v xs cs){j:Nat}{x:α}(I:xs[j]?=some x):∃(g aJ:Nat)(c:List tV),v=.slice (some ⟨g,0,none⟩) xs.length aJ/\B<=g/\g<w.heap.size/\E w P c x/\c.length=z/\∀(i:Nat)(u:tV),c[i]?=some u->w.cell? ⟨g,j*z+i,none⟩=some u:=by
 obtain⟨a,aJ,e⟩:=gA h.1;have D:=(LN.1 I).1;have U:j<cs.length:=by rw[h.2.1];exact D
 have C:=LC U;rcases iL h.1 with o|⟨g,V,o⟩
 ·rw[e]at o;injection o with _ F _;omega
 ·have Q:=h.1.lt g (by rw[o];rfl);rw[e]at o;injection o with F _ _;refine⟨g,aJ,_,by rw[e,F],Q.1,Q.2,h.2.2.2 j _ x C I,h.2.2.1 _ (LZ C),λ i u J=>?_⟩;have hi:i<z:=by
   have:=(LN.1 J).1;rw[h.2.2.1 _ (LZ C)]at this;exact this
  have:=h.1.cells (g:=g) (by rw[e,F];rfl) (j*z+i) u ((Cm h.2.2.1 C hi).trans J);rw[oM,MH]at this;exact this
end
def wE(w:tW)(P:Nat->Prop)(c:List tV)(x:jL):Prop:=∃u,c=[.int .i64 (x.1:Int),u]/\ED w P u x.2
theorem wE.keeps:Ah wE:=λ _ _ _ _ _ _ ⟨u,h1,h2⟩ hz hB=>⟨u,h1,h2.keep hz hB⟩
def Aw(w:tW)(P:Nat->Prop)(v:tV)(ls:List jL):Prop:=
 ∃a aJ,v=.slice a ls.length aJ/\(ls=[]\/∃g,a=some ⟨g,0,none⟩/\P g/\g<w.heap.size/\∀(k:Nat)(x:jL),ls[k]?=some x->∃u,w.rangeAt g (k*2) [.int .i64 (x.1:Int),u]/\ED w P u x.2)
theorem Aw.keep{w w':tW}{P P':Nat->Prop}{v:tV}{ls:List jL}(h:Aw w P v ls)(D:w.heap.size<=w'.heap.size)(o:∀k,P k->k<w.heap.size->w'.heap[k]?=w.heap[k]? /\P' k):Aw w' P' v ls:=by
 obtain⟨a,aJ,e,h⟩:=h;refine⟨a,aJ,e,?_⟩;rcases h with h|⟨g,I,Q,U,V⟩
 ·exact .inl h
 ·obtain⟨C,F⟩:=o g Q U;refine .inr ⟨g,I,F,by omega,λ k x J=>?_⟩;obtain⟨u,Y,X⟩:=V k x J;exact⟨u,λ i y Z=>(LJ (w:=w) (a:=⟨g,k*2+i,none⟩) C).trans (Y i y Z),X.keep D o⟩
theorem Aw.below{w w':tW}{P:Nat->Prop}{v:tV}{ls:List jL}(h:Aw w P v ls)(o:Bl w w'):Aw w' P v ls:=h.keep o.size (λ k D C=>⟨o.block k C,D⟩)
theorem Aw.mono{w:tW}{P P':Nat->Prop}{v:tV}{ls:List jL}(h:Aw w P v ls)(o:∀k,P k->k<w.heap.size->P' k):Aw w P' v ls:=h.keep lR (λ k C D=>⟨rfl,o k C D⟩)
theorem sV.lf{w:tW}{P P':Nat->Prop}{v:tV}{ls:List jL}{cs:List (List tV)}(h:sV wE 188 2 w B P v ls cs)(V:∀k,P k->k<w.heap.size->P' k)(Y:∀k,B<=k->v.ownBlock=some k->P' k):Aw w P' v ls:=by
 obtain⟨a,aJ,e⟩:=gA h.1;refine⟨a,aJ,e,?_⟩
 cases hl:ls with
 | nil=>exact .inl rfl
 | cons y l=>
  right;obtain⟨g,Q,_,I,hb,X,_⟩:=h.at (j:=0) (x:=y) (by rw[hl];rfl);rw[e]at I;injection I with D _ _;refine⟨g,D,Y g hb (by rw[e,D];rfl),X,λ k x J=>?_⟩;rw[<-hl]at J;obtain⟨g2,F,c,U,_,_,⟨u,hc,hu⟩,_,o⟩:=h.at J;rw[e,D]at U;injection U with C _ _;have e6:g=g2:=by injection C with C;injection C
  subst e6;refine⟨u,λ i y hy=>o i y (by rw[hc];exact hy),hu.keep lR (λ k Z h2=>⟨rfl,V k Z h2⟩)⟩
structure GR{α:Type}(E:tW->(Nat->Prop)->List tV->α->Prop)(T:TypeId)(z:Nat)(w w1:tW)(v1:tV)(wr:tW)(v:tV)(xs:List α)(cs:List (List tV)):Prop where
 ro:sV E T z wr w.heap.size (λ g=>w.heap.size<=g/\v.ownBlock≠some g) v xs cs
 gr:w1.grownBy wr v1.ownBlock
 ow:∀g,v.ownBlock=some g->v1.ownBlock=some g\/w1.heap.size<=g
 bl:Bl w wr
section
variable {α:Type}{E:tW->(Nat->Prop)->List tV->α->Prop}{T:TypeId}{z:Nat}{w w1 wr:tW}{v1 v:tV}{xs:List α}{cs:List (List tV)}
theorem GR.start(E:tW->(Nat->Prop)->List tV->α->Prop)(T:TypeId)(z:Nat)(w:tW):GR E T z w w (.slice none 0 0) w (.slice none 0 0) [] []:=⟨sV.start w _ _,⟨rfl,rfl,rfl,lR,λ _ _ _=>rfl⟩,λ g e=>(by cases e),bR⟩
theorem GR.from(h:GR E T z w w1 v1 wr v xs cs):GR E T z w wr v wr v xs cs:=⟨h.ro,⟨rfl,rfl,rfl,lR,λ _ _ _=>rfl⟩,λ _ e=> .inl e,h.bl⟩
theorem GR.below(Q:Ah E){w':tW}(h:GR E T z w w1 v1 wr v xs cs)(o:Bl wr w'):GR E T z w w1 v1 w' v xs cs:=by
 have U:=h.gr.size;have J:=h.bl.size;have F:=o.size;exact⟨h.ro.keep Q o.size (λ k C=>o.block k (h.ro.1.lt k C).2) (λ k I C=>⟨o.block k C,I⟩),⟨o.os.trans h.gr.os,o.tape.trans h.gr.tape,o.output.trans h.gr.output,by omega,λ k C D=>(o.block k (by omega)).trans (h.gr.block k C D)⟩,h.ow,⟨o.os.trans h.bl.os,o.tape.trans h.bl.tape,o.output.trans h.bl.output,by omega,λ k C=>(o.block k (by omega)).trans (h.bl.block k C)⟩⟩
theorem GR.app(Z:Ah E)(h:GR E T z w w1 v1 wr v xs cs){w4:tW}{o:Obj}{g aJ n:Nat}{u:List tV}{x:α}(hn:xs.length=n)(hu:E wr (λ g=>w.heap.size<=g/\v.ownBlock≠some g) u x)(V:u.length=z)
  (I:w4.ownsRow w.heap.size T z (.slice (some ⟨g,0,none⟩) (n+1) aJ) (n+1) (cs.flatten++u)) (C:(wr.alloc o).grownBy w4 v.ownBlock) (F:v.ownBlock=some g\/g=wr.heap.size+1):
  GR E T z w w1 v1 w4 (.slice (some ⟨g,0,none⟩) (n+1) aJ) (xs++[x]) (cs++[u]):=by
 have Y:=C.size;have ez:(wr.alloc o).heap.size=wr.heap.size+1:=by simp
 have hz:=h.gr.size;have X:=h.bl.size;refine⟨h.ro.app Z hn hu V I C (λ k U Q=>⟨U.2,U.1,λ e=>?_⟩),⟨C.os.trans h.gr.os,C.tape.trans h.gr.tape,C.output.trans h.gr.output,by omega,λ k Q J=>?_⟩,λ k e=>?_,⟨C.os.trans h.bl.os,C.tape.trans h.bl.tape,C.output.trans h.bl.output,by omega,λ k Q=>?_⟩⟩
 ·have e:g=k:=by simpa[NE]using e
  subst e;rcases F with D|D
  ·exact U.2 D
  ·omega
 ·refine((C.block k (by omega) (λ e=>?_)).trans (MC wr o k (by omega))).trans (h.gr.block k Q J);rcases h.ow k e.symm with D|D
  ·exact J D.symm
  ·omega
 ·have e:g=k:=by simpa[NE]using e
  subst e;rcases F with D|D
  ·exact h.ow g D
  ·right;omega
 ·exact((C.block k (by omega) (λ e=>by have:=(h.ro.1.lt k e.symm).1;omega)).trans (MC wr o k (by omega))).trans (h.bl.block k Q)
end
end
