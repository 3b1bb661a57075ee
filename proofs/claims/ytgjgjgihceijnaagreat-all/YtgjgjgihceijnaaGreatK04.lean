import Derived.Test.YtgjgjgihceijnaaGreatK03
open Go.RowKit renaming ownsRow_setCell_below->QO,intOf->QP,Hid->QQ
open Go renaming info_parts->QR,wpList_make_full->QS,madeCells->QT,run_underlying->QU,Calls->QV
open List renaming getElem?_eq_getElem->LD,length_append->LF,getD_eq_getElem?_getD->LG,mem_cons_self->LH,mem_singleton->LI,mem_cons_of_mem->LJ,not_mem_nil->LM,mem_append->LN,getElem?_eq_some_iff->LO,getElem?_append_left->LP,append_assoc->LS,length_singleton->LU,getElem?_append_right->LY,mem_map->LZ,mem_of_getElem?->MA,append_nil->MB,length_cons->MD,getElem?_cons_succ->ME,getElem?_map->MF,mem_cons->MG,mem_flatMap->MM,all_eq_true->MQ,getElem?_cons_zero->MR,getElem?_eq_none->MV,length_eq_zero_iff->MZ,length_map->NC,getElem_mem->NE,flatMap_cons->NI,getElem_of_mem->NK,any_eq_true->NM,length_nil->NQ,foldl_append->NT,map_cons->NZ,take_add_one->OG,nil_append->OL,getD_cons_succ->ON,filter_append->OP,ext_getElem?->OQ,flatten_cons->OR,cons_append->OU,flatMap_nil->OV,map_toArray->OX,take_length->OY,nodup_cons->PA,sum_cons->PC,map_id'->PE,map_nil->PF
open Go.World renaming cell?_of_block->LK,frozen?_of_block->ML,cell?_setCell_other->MN,cell?_setCell_same->MO,cell?_alloc_at->MS,frozen?_setCell->MW,ownsRow_nil->NB,setCell->ND,cell?_alloc_new->NG,frozen?_alloc_at->NO,cell?->PH
open Classical renaming byContradiction->LQ
open UInt8 renaming ofNat->LR
open Go.RowKit.Below renaming heap_alloc->MC,refl->OF
open Go.Proofs.Tryz renaming prog->MH,underlying59->NJ,ntmps116->OB,func116->OE,underlying80->OH
open Nat renaming lt_of_lt_of_le->MI,zero_add->MJ,add_zero->MT,strongRecOn->MU,sub_self->MY,le_of_lt->NU,le_trans->NW,mul_le_mul_right->OC,mod_eq_of_lt->OI,succ_mul->OK,mul_one->OM,lt_trichotomy->OS,sub_zero->PG
open Go.Value renaming ownBlock->NF,oneCell'->NN,slice->OD,bool->PB
open Bool renaming eq_iff_iff->NH,and_eq_true->NY,false_eq_true->OO,or_eq_true->OZ
open Option renaming map_some->NR,getD_some->OJ
open Int renaming toNat_natCast->NS
open Go.Proofs.Tryz
set_option maxRecDepth 100000
set_option maxHeartbeats 8000000
namespace Go.Stn
open Go.Proofs.YtgjgjgihceijnaaGreat (rQ zD vC)
variable {r k c n L K s m i a f f' j fr:Nat}{aK aN l:List Nat}{A B:List UInt8}{ls:List (List (Nat×List Int))}
theorem Gp:∀(l m:List (Int×Int×Int)) (k:Nat) (ps:Nat->qM) (aG:Nat->Int),jJ (l++m) k ps aG=jJ m (k+l.length) (jJ l k ps aG).1 (jJ l k ps aG).2
 | [],m,k,ps,aG=>rfl
 | x::l,m,k,ps,aG=>by
  rw[OU,jJ,Gp l m,jJ,MD,show k+1+l.length=k+(l.length+1) by omega]
def kW:Nat->List gX->List (Rx×Nat)
 | _,[]=>[]
 | k,x::l=>(x.2.2,k)::kW (k+x.2.2.np) l
theorem tF:∀(l:List gX)(k:Nat),(kW k l).length=l.length
 | [],_=>rfl
 | x::l,k=>by simp[kW,tF l]
theorem Bq:∀(l:List gX)(k:Nat)(y:Rx×Nat),y∈kW k l->k<=y.2/\y.2+y.1.np<=k+mW l
 | [],_,y,h=>absurd h LM
 | x::l,k,y,h=>by
  rcases MG.1 h with e|e
  ·rw[e];show k<=k/\k+x.2.2.np<=k+(x.2.2.np+mW l);omega
  ·have:=Bq l _ y e;show k<=y.2/\y.2+y.1.np<=k+(x.2.2.np+mW l);omega
theorem zX:∀(l:List gX)(k i j:Nat)(y z:Rx×Nat),(kW k l)[i]?=some y->(kW k l)[j]?=some z->i<j->y.2+y.1.np<=z.2
 | [],_,_,_,_,_,h,_,_=>by simp[kW]at h
 | x::l,k,i,j,y,z,o,hz,hij=>by
  obtain⟨C,rfl⟩:∃C,j=C+1:=⟨j-1,by omega⟩
  rw[kW,ME]at hz
  cases i with
  | zero=>
   rw[kW,MR]at o;injection o with o;have:=Bq l _ z (MA hz);rw[<-o];exact this.1
  | succ i'=>
   rw[kW,ME]at o;exact zX l _ i' C y z o hz (by omega)
def Zg(aW:List (Nat->Bool))(p b:Nat):Bool:=aW.getD p gK b
theorem xQ:∀(r:Rx)(C o:List (Nat->Bool)),r.says (Zg (C++(r.fns++o))) C.length
 | .pl f,C,o=>λ b _=>by
  unfold Zg;rw[LG,LY lR,MY]
  rfl
 | .cat a b,C,o=>by
  refine⟨?_,?_⟩
  ·have:=xQ a C (b.fns++o);show a.says (Zg (C++((a.fns++b.fns)++o))) C.length;rw[LS];exact this
  ·have:=xQ b (C++a.fns) o;rw[LF,a.fns_len,LS]at this;show b.says (Zg (C++((a.fns++b.fns)++o))) (C.length+a.np);rw[LS];exact this
 | .alt a b,C,o=>by
  refine⟨?_,?_⟩
  ·have:=xQ a C (b.fns++o);show a.says (Zg (C++((a.fns++b.fns)++o))) C.length;rw[LS];exact this
  ·have:=xQ b (C++a.fns) o;rw[LF,a.fns_len,LS]at this;show b.says (Zg (C++((a.fns++b.fns)++o))) (C.length+a.np);rw[LS];exact this
 | .opt a,C,o=>xQ a C o
 | .plus a,C,o=>xQ a C o
 | .star a,C,o=>xQ a C o
def pY:List gX->List (Nat->Bool)
 | []=>[]
 | x::l=>x.2.2.fns++pY l
theorem vU:∀(l:List gX)(st:gS),(fW st l).aW=st.aW++pY l
 | [],st=>(MB _).symm
 | x::l,st=>by
  rw[fW,vU l];show(st.aW++x.2.2.fns)++pY l=_;rw[LS];rfl
theorem Br:∀(l:List gX)(o:List (Nat->Bool)) (y:Rx×Nat),y∈kW o.length l->y.1.says (Zg (o++pY l)) y.2
 | [],_,y,h=>absurd h LM
 | x::l,o,y,h=>by
  rcases MG.1 h with e|e
  ·rw[e];exact xQ x.2.2 o (pY l)
  ·have:=Br l (o++x.2.2.fns) y (by rw[LF,Rx.fns_len];exact e);rw[LS]at this;exact this
theorem Cr(C:Nat->qM)(o:Nat->Int):∀(l:List gX)(st:gS),st.aW.length+mW l<=10->(∀p,jA ((jJ st.aV 0 C o).2 p))->
  (∀i,i<st.aV.length->(jJ (fW st l).aV 0 C o).1 i=(jJ st.aV 0 C o).1 i)/\st.aV.length<=(fW st l).aV.length/\
  (∀p,jA ((jJ (fW st l).aV 0 C o).2 p))/\
  (∀p q,nO ((jJ (fW st l).aV 0 C o).2 p) q=true↔(nO ((jJ st.aV 0 C o).2 p) q=true\/∃y∈kW st.aW.length l,y.1.fol y.2 p q))/\
  ∃R:List ((Nat->Bool)×Int×Int),(fW st l).aX=st.aX++R/\R.length=l.length/\∀(r:Nat)(x:gX)(y:Rx×Nat),l[r]?=some x->(kW st.aW.length l)[r]?=some y->
   ∃root:Nat,R[r]?=some (x.1,x.2.1,(root:Int))/\wG ((jJ (fW st l).aV 0 C o).1 root) y.1 y.2
 | [],st,_,hn=>by
  refine⟨λ _ _=>rfl,lR,hn,λ p q=>⟨λ h=> .inl h,λ h=>h.elim id (λ⟨y,D,_⟩=>absurd D LM)⟩,[],(MB _).symm,rfl,λ r x y h=>by simp at h⟩
 | x::l,st,Z,hn=>by
  have Z:st.aW.length+(x.2.2.np+mW l)<=10:=Z;obtain⟨V,n1,Y,k1,p1,o1⟩:=uL x.2.2 st.aV.length st.aW.length [] (jJ st.aV 0 C o).1 (jJ st.aV 0 C o).2 (by omega) hn;have aL:=x.2.2.sz_pos;have F:jJ (kS st x st.at_).aV 0 C o=(V,n1):=by
   show jJ (st.aV++x.2.2.flat st.aV.length st.aW.length) 0 C o=_;rw[Gp,MJ];rw[MB]at Y;rw[Y];rfl
  have J:(kS st x st.at_).aV.length=st.aV.length+x.2.2.sz:=by
   show(st.aV++x.2.2.flat st.aV.length st.aW.length).length=_;rw[LF,Rx.flat_len]
  have Q:(kS st x st.at_).aW.length=st.aW.length+x.2.2.np:=by
   show(st.aW++x.2.2.fns).length=_;rw[LF,Rx.fns_len]
  obtain⟨a1,a2,a3,U,R,b1,b2,X⟩:=Cr C o l (kS st x st.at_) (by rw[Q];omega) (by rw[F];exact o1.s);rw[F]at a1 U;rw[Q]at U X;rw[J]at a1 a2;refine⟨λ i hi=>?_,by show st.aV.length<=(fW (kS st x st.at_) l).aV.length;omega,a3,λ p q=>?_,(x.1,x.2.1,((st.aV.length+x.2.2.sz-1:Nat):Int))::R,?_,by simp[b2],λ r z y I D=>?_⟩
  ·show(jJ (fW (kS st x st.at_) l).aV 0 C o).1 i=_;rw[a1 i (by omega)];exact k1 i hi
  ·show nO ((jJ (fW (kS st x st.at_) l).aV 0 C o).2 p) q=true↔_;rw[U,o1.f];constructor
   ·rintro((h|h)|⟨y,D,h⟩)
    ·exact .inl h
    ·exact .inr ⟨(x.2.2,st.aW.length),LH,h⟩
    ·exact .inr ⟨y,LJ _ D,h⟩
   ·rintro(h|⟨y,D,h⟩)
    ·exact .inl (.inl h)
    ·rcases MG.1 D with e|e
     ·rw[e]at h;exact .inl (.inr h)
     ·exact .inr ⟨y,e,h⟩
  ·show(fW (kS st x st.at_) l).aX=_;rw[b1];show(st.aX++[_])++R=_;rw[LS];rfl
  ·cases r with
   | zero=>
    rw[MR]at I;rw[kW,MR]at D;injection I with I;injection D with D;rw[<-I,<-D];refine⟨st.aV.length+x.2.2.sz-1,rfl,?_⟩;show wG ((jJ (fW (kS st x st.at_) l).aV 0 C o).1 _) _ _;rw[a1 _ (by omega)];exact p1
   | succ r'=>
    rw[ME]at I;rw[kW,ME]at D;obtain⟨root,h1,h2⟩:=X r' z y I D;exact⟨root,by rw[ME];exact h1,h2⟩
structure KK(l:List gX)(aG:Nat->Int)(fi la:List Int):Prop where
 s:∀p,jA (aG p)
 f:∀p q,nO (aG p) q=true↔∃y∈kW 0 l,y.1.fol y.2 p q
 fl:fi.length=l.length
 ll:la.length=l.length
 fs:∀x∈fi,jA x
 ls:∀x∈la,jA x
 ff:∀r y,(kW 0 l)[r]?=some y->∀p,nO (fi.getD r 0) p=true↔y.1.fst y.2 p
 lf:∀r y,(kW 0 l)[r]?=some y->∀p,nO (la.getD r 0) p=true↔y.1.lst y.2 p
theorem Jb(l:List gX)(h:mW l<=10):KK l (rQ (fW jX l).aV) (zD (fW jX l).aV (fW jX l).aX) (vC (fW jX l).aV (fW jX l).aX)/\
  (fW jX l).aX.map (λ x=>(x.1,x.2.1))=l.map (λ x=>(x.1,x.2.1)):=by
 have e0:jX.aW.length=0:=rfl;have en:jX.aV=[]:=rfl;obtain⟨_,_,a3,a4,R,b1,b2,b3⟩:=Cr (λ _=>qP) (λ _=>0) l jX (by omega) (λ p=>tR);rw[e0]at a4 b3;have U:(fW jX l).aX=R:=by rw[b1];rfl
 have C:∀(r:Nat)(y:Rx×Nat),(kW 0 l)[r]?=some y->∃(x:gX)(o:Nat),l[r]?=some x/\R[r]?=some (x.1,x.2.1,((o:Nat):Int))/\wG ((jJ (fW jX l).aV 0 (λ _=>qP) (λ _=>0)).1 o) y.1 y.2:=λ r y I=>by
  have V:r<l.length:=by rw[<-tF l 0];exact(LO.1 I).1
  obtain⟨o,Y,D⟩:=b3 r l[r] y (LD V) I;exact⟨l[r],o,LD V,Y,D⟩
 have Q:∀x∈R,∃y:Rx×Nat,wG ((jJ (fW jX l).aV 0 (λ _=>qP) (λ _=>0)).1 x.2.2.toNat) y.1 y.2:=λ x J=>by
  obtain⟨r,V,he⟩:=NK J;have Z:r<(kW 0 l).length:=by rw[tF,<-b2];exact V
  obtain⟨z,o,_,D,X⟩:=C r _ (LD Z);rw[LD V,he]at D;injection D with D;exact⟨_,by rw[D];exact X⟩
 refine⟨⟨a3,λ p q=>?_,?_,?_,λ x J=>?_,λ x J=>?_,λ r y I p=>?_,λ r y I p=>?_⟩,?_⟩
 ·show nO ((jJ (fW jX l).aV 0 (λ _=>qP) (λ _=>0)).2 p) q=true↔_;rw[a4];constructor
  ·rintro(F|F)
   ·rw[show(jJ jX.aV 0 (λ _=>qP) (λ _=>(0:Int))).2 p=0 from rfl,uJ]at F;cases F
   ·exact F
  ·intro F;exact .inr F
 ·unfold zD;rw[NC,U,b2]
 ·unfold vC;rw[NC,U,b2]
 ·unfold zD at J;rw[LZ]at J;obtain⟨z,F,rfl⟩:=J;rw[U]at F;obtain⟨y,I⟩:=Q z F;exact I.s1
 ·unfold vC at J;rw[LZ]at J;obtain⟨z,F,rfl⟩:=J;rw[U]at F;obtain⟨y,I⟩:=Q z F;exact I.s2
 ·obtain⟨x,o,Y,D,X⟩:=C r y I;unfold zD;rw[U,LG,MF,D];simp only[NR,OJ,NS];exact X.f p
 ·obtain⟨x,o,Y,D,X⟩:=C r y I;unfold vC;rw[U,LG,MF,D];simp only[NR,OJ,NS];exact X.l p
 ·rw[U];refine OQ (λ r=>?_);rw[MF,MF];by_cases V:r<l.length
  ·obtain⟨x,o,Y,D,X⟩:=C r _ (LD (by rw[tF];exact V));rw[Y,D];rfl
  ·rw[MV (by omega),MV (by omega)]
   rfl
theorem Kq(f:Nat->Bool)(fr:Int)(c:Nat)(b:Int):G4 f fr c 4 b=if c<4/\f c=true then Ad b fr else b:=by
 have h:∀k,k<=4->G4 f fr c k b=if c<k/\f c=true then Ad b fr else b:=by
  intro k
  induction k with
  | zero=>intro _;rw[G4,aA (by omega)]
  | succ j ih=>
   intro C;rw[G4,ih (by omega)];by_cases e:j=c
   ·subst e;by_cases o:f j=true
    ·rw[aB ⟨o,rfl⟩,aA (by omega),aB ⟨by omega,o⟩]
    ·rw[aA (λ h=>o h.1),aA (by omega),aA (λ h=>o h.2)]
   ·rw[aA (λ h=>e h.2)];by_cases o:c<j/\f c=true
    ·rw[aB o,aB ⟨by omega,o.2⟩]
    ·rw[aA o,aA (λ h=>o ⟨by omega,h.2⟩)]
 exact h 4 lR
theorem Fx(fi:Nat->Int)(c:Nat):∀(aX:List ((Nat->Bool)×Int×Int)) (r:Nat) (b:Int),jA b->(∀i,i<aX.length->jA (fi (r+i)))->
  jA (rM fi c aX r b)/\∀q,nO (rM fi c aX r b) q=true↔(nO b q=true\/∃i x,aX[i]?=some x/\(c<4/\x.1 c=true)/\nO (fi (r+i)) q=true)
 | [],r,b,hb,_=>⟨hb,λ q=>⟨λ h=> .inl h,λ h=>h.elim id (λ⟨i,x,h,_⟩=>by simp at h)⟩⟩
 | x::l,r,b,hb,hf=>by
  have C:=hf 0 (by simp);rw[MT]at C;have I:jA (G4 x.1 (fi r) c 4 b):=by
   rw[Kq];split
   ·exact uK hb C
   ·exact hb
  obtain⟨J,Q⟩:=Fx fi c l (r+1) (G4 x.1 (fi r) c 4 b) I (λ i hi=>by have:=hf (i+1) (by simp;omega);rw[show r+1+i=r+(i+1) by omega];exact this);rw[rM];refine⟨J,λ q=>?_⟩;rw[Q,Kq];constructor
  ·rintro(h|⟨i,y,o,F,D⟩)
   ·split at h
    ·rename_i U;rw[vA hb C,OZ]at h;rcases h with h|h
     ·exact .inl h
     ·exact .inr ⟨0,x,rfl,U,h⟩
    ·exact .inl h
   ·exact .inr ⟨i+1,y,by rw[ME];exact o,F,by rw[show r+(i+1)=r+1+i by omega];exact D⟩
  ·rintro(h|⟨i,y,o,F,D⟩)
   ·left;split
    ·rw[vA hb C,h];rfl
    ·exact h
   ·cases i with
    | zero=>
     rw[MR]at o;injection o with o;subst o;left;rw[aB F,vA hb C];rw[MT]at D;rw[D,Bool.or_true]
    | succ j=>
     rw[ME]at o;exact .inr ⟨j,y,o,F,by rw[show r+1+j=r+(j+1) by omega];exact D⟩
theorem Tc(b:Nat):∀(l:List (Nat->Bool)) (k:Nat) (a:Int),jA a->k+l.length<=10->jA (Ev b l k a)/\∀p,nO (Ev b l k a) p=true↔(nO a p=true\/(k<=p/\p<k+l.length/\l.getD (p-k) gK b=true))
 | [],k,a,ha,_=>⟨ha,λ p=>⟨λ h=> .inl h,λ h=>h.elim id (λ h=>by simp at h;omega)⟩⟩
 | f::l,k,a,ha,hk=>by
  simp only[MD]at hk;have Q:jA (if f b=true then Ad a (sO k)else a):=by
   split
   ·exact uK ha (tQ (by omega))
   ·exact ha
  obtain⟨C,D⟩:=Tc b l (k+1) _ Q (by omega);rw[Ev];refine⟨C,λ p=>?_⟩;rw[D];simp only[MD];constructor
  ·rintro(h|⟨F,I,o⟩)
   ·split at h
    ·rename_i J;rw[vA ha (tQ (by omega)),OZ,E9,aE]at h;rcases h with h|h
     ·exact .inl h
     ·subst h;exact .inr ⟨lR,by omega,by rw[MY];exact J⟩
    ·exact .inl h
   ·refine .inr ⟨by omega,by omega,?_⟩;rw[show p-k=(p-(k+1))+1 by omega,ON];exact o
  ·rintro(h|⟨F,I,o⟩)
   ·left;split
    ·rw[vA ha (tQ (by omega)),h];rfl
    ·exact h
   ·by_cases e:p=k
    ·subst e;rw[MY,List.getD_cons_zero]at o;left;rw[aB o,vA ha (tQ (by omega)),E9];simp
    ·right;refine⟨by omega,by omega,?_⟩;rw[show p-k=(p-(k+1))+1 by omega,ON]at o;exact o
theorem DS{aW:List (Nat->Bool)}(h:aW.length<=10)(b:Nat):jA (G3 aW b)/\∀p,nO (G3 aW b) p=true↔Zg aW p b=true:=by
 obtain⟨C,D⟩:=Tc b aW 0 0 tR (by omega);refine⟨C,λ p=>?_⟩;unfold G3;rw[D,uJ];unfold Zg;constructor
 ·rintro(h|⟨_,_,h⟩)
  ·cases h
  ·rw[PG]at h;exact h
 ·intro o;refine .inr ⟨zL,?_,by rw[PG];exact o⟩;rw[MJ];apply LQ;intro F;rw[LG,MV (by omega)]at o
  cases o
section
def nG(A:Nat->Nat->Bool)(F:Nat->Nat->Prop):(Nat->Prop)->List Nat->Nat->Prop
 | P,[]=>P
 | P,b::u=>nG A F (λ q=>∃p,P p/\F p q/\A q b=true) u
theorem xO{A:Nat->Nat->Bool}{F o:Nat->Nat->Prop}(C:∀p q,F p q->o p q):∀(u:List Nat)(P P':Nat->Prop),(∀p,P p->P' p)->∀q,nG A F P u q->nG A o P' u q
 | [],_,_,h,q,hq=>h q hq
 | _::u,_,_,h,q,hq=>xO C u _ _ (λ q ⟨p,h1,h2,h3⟩=>⟨p,h p h1,C p q h2,h3⟩) q hq
theorem xP{A:Nat->Nat->Bool}{F:Nat->Nat->Prop}:∀(u:List Nat)(P:Nat->Prop),(∀p,¬P p)->∀q,¬nG A F P u q
 | [],_,h,q,hq=>h q hq
 | _::u,_,h,q,hq=>xP u _ (λ _ ⟨p,h1,_⟩=>h p h1) q hq
theorem Dp{A:Nat->Nat->Bool}{F:Nat->Nat->Prop}(u:List Nat){P P':Nat->Prop}(h:∀p,P p↔P' p)(q:Nat):nG A F P u q↔nG A F P' u q:=
 ⟨xO (λ _ _ h=>h) u P P' (λ p=>(h p).1) q,xO (λ _ _ h=>h) u P' P (λ p=>(h p).2) q⟩
theorem C8{A:Nat->Nat->Bool}(r:Rx)(k:Nat)(D:r.says A k):∀(u:List Nat)(P:Nat->Prop)(v:List Nat),lF 256 u->((∃p,P p/\r.rest k p (u++v))↔∃q,nG A (r.fol k) P u q/\r.rest k q v)
 | [],_,_,_=>Iff.rfl
 | b::u,P,v,hu=>by
  have U:=hu b LH;have X:=C8 r k D u (λ q=>∃p,P p/\r.fol k p q/\A q b=true) v (λ c V=>hu c (LJ _ V));rw[nG,<-X];constructor
  ·rintro⟨p,o,C⟩;obtain⟨q,a1,Y,F,I⟩:=(r.goes k D p b (u++v)).1 C;exact⟨q,⟨p,o,a1,F⟩,I⟩
  ·rintro⟨q,⟨p,o,C,J⟩,Q⟩;exact⟨p,o,(r.goes k D p b (u++v)).2 ⟨q,C,U,J,Q⟩⟩
def Ss(l:List gX)(p q:Nat):Prop:=∃y∈kW 0 l,y.1.fol y.2 p q
theorem Fv{l:List gX}{y z:Rx×Nat}{r' q:Nat}(o:(kW 0 l)[r]?=some y)(C:(kW 0 l)[r']?=some z)(D:y.2<=q/\q<y.2+y.1.np)(F:z.2<=q/\q<z.2+z.1.np):r=r':=by
 rcases OS r r' with h|h|h
 ·have:=zX l 0 r r' y z o C h;omega
 ·exact h
 ·have:=zX l 0 r' r z y C o h;omega
theorem Y9:∀(l:List gX)(k p:Nat),k<=p->p<k+mW l->∃(r:Nat)(y:Rx×Nat),(kW k l)[r]?=some y/\y.2<=p/\p<y.2+y.1.np
 | [],k,p,h1,o=>by have o:p<k+0:=o;omega
 | x::l,k,p,h1,o=>by
  have o:p<k+(x.2.2.np+mW l):=o;by_cases e:p<k+x.2.2.np
  ·exact⟨0,(x.2.2,k),rfl,h1,e⟩
  ·obtain⟨r,y,a,b⟩:=Y9 l (k+x.2.2.np) p (by omega) (by omega);exact⟨r+1,y,by rw[kW,ME];exact a,b⟩
theorem Dq{A:Nat->Nat->Bool}{l:List gX}{y:Rx×Nat}(D:(kW 0 l)[r]?=some y):∀(u:List Nat)(P P':Nat->Prop),(∀q,y.2<=q->q<y.2+y.1.np->(P q↔P' q))->(∀q,P' q->y.2<=q/\q<y.2+y.1.np)->
  ∀q,y.2<=q->q<y.2+y.1.np->(nG A (Ss l) P u q↔nG A (y.1.fol y.2) P' u q)
 | [],P,P',h,_,q,h1,h2=>h q h1 h2
 | b::u,P,P',h,hin,q,h1,h2=>by
  refine Dq D u _ _ (λ q U V=>?_) (λ q ⟨p,_,h5,_⟩=>(y.1.fol_in y.2 p q h5).2) q h1 h2;constructor
  ·rintro⟨p,a1,⟨z,Y,C⟩,F⟩;obtain⟨r',J,X⟩:=NK Y;have o:(kW 0 l)[r']?=some z:=by rw[LD J,X]
   have I:=z.1.fol_in z.2 p q C;have:=Fv D o ⟨U,V⟩ I.2;subst this;rw[D]at o;injection o with o;subst o;exact⟨p,(h p I.1.1 I.1.2).1 a1,C,F⟩
  ·rintro⟨p,a1,C,F⟩;have Q:=hin p a1;exact⟨p,(h p Q.1 Q.2).2 a1,⟨y,MA D,C⟩,F⟩
theorem Mr{A:Nat->Nat->Bool}{r:Rx}:∀(u:List Nat)(P:Nat->Prop),(∀q,P q->k<=q/\q<k+r.np)->∀q,nG A (r.fol k) P u q->k<=q/\q<k+r.np
 | [],_,h,q,hq=>h q hq
 | _::u,_,_,q,hq=>Mr u _ (λ q ⟨p,_,h5,_⟩=>(r.fol_in k p q h5).2) q hq
structure KJ(aW:List (Nat->Bool))(G:List Int)(of_:Nat->Nat):Prop where
 lt:∀b,b<256->of_ b<G.length
 al:∀b,b<256->G.getD (of_ b) 0=G3 aW b
 lo:∃lo:Nat->Nat,(∀g,g<G.length->lo g<256/\of_ (lo g)=g)/\(∀g g',g<g'->g'<G.length->lo g<lo g')/\∀b,b<256->lo (of_ b)<=b
structure GI(al:Nat->Int)(b:Nat)(bG:List Nat)(P:List Int)(lo:Nat->Nat):Prop where
 len:bG.length=b
 lt:∀i,i<b->bG.getD i 0<P.length/\P.getD (bG.getD i 0) 0=al i
 lo1:∀g,g<P.length->lo g<b/\bG.getD (lo g) 0=g
 lo2:∀g g',g<g'->g'<P.length->lo g<lo g'
 lo3:∀i,i<b->lo (bG.getD i 0)<=i
theorem Is(al:Nat->Int):∀(d b:Nat)(bG:List Nat)(P:List Int)(lo:Nat->Nat),GI al b bG P lo->∃U,GI al (b+d) (U1 al d b bG P).1 (U1 al d b bG P).2 U
 | 0,b,bG,P,lo,h=>⟨lo,h⟩
 | d+1,b,bG,P,lo,h=>by
  rw[U1,show b+(d+1)=(b+1)+d by omega];by_cases C:jT P (al b)=P.length
  ·rw[aB C];refine Is al d (b+1) _ _ (λ g=>if g=P.length then b else lo g) ⟨by simp[h.len],λ i hi=>?_,λ g hg=>?_,λ g V F Q=>?_,λ i hi=>?_⟩
   ·by_cases e:i=b
    ·subst e;rw[C,<-h.len,sB,LF,sB,h.len];exact⟨by simp,rfl⟩
    ·have o:i<b:=by omega
     rw[sL (by rw[h.len];exact o),sL (h.lt i o).1];exact⟨by have:=(h.lt i o).1;rw[LF];simp only[LU];omega,(h.lt i o).2⟩
   ·simp at hg;by_cases e:g=P.length
    ·subst e;simp only[aB];rw[C,<-h.len,sB];exact⟨by omega,rfl⟩
    ·simp only[aA e];have:=h.lo1 g (by omega);rw[sL (by rw[h.len];exact this.1)];exact⟨by omega,this.2⟩
   ·simp at Q;by_cases e:V=P.length
    ·subst e;simp only[aB,aA (show¬g=P.length by omega)];exact(h.lo1 g F).1
    ·simp only[aA e,aA (show¬g=P.length by omega)];exact h.lo2 g V F (by omega)
   ·by_cases e:i=b
    ·subst e;rw[C];have:(bG++[P.length]).getD i 0=P.length:=by rw[<-h.len,sB]
     rw[this,aB rfl];exact lR
    ·have o:i<b:=by omega
     rw[sL (by rw[h.len];exact o)];have:=(h.lt i o).1;rw[aA (by omega)];exact h.lo3 i o
  ·rw[aA C];have I:jT P (al b)<P.length:=by have:=J4 P (al b);omega
   have J:al b∈P:=by
    apply LQ;intro X;exact C (Cj X)
   have D:P.getD (jT P (al b)) 0=al b:=by rw[LG,T8 J];rfl
   refine Is al d (b+1) _ _ lo ⟨by simp[h.len],λ i hi=>?_,λ g hg=>?_,h.lo2,λ i hi=>?_⟩
   ·by_cases e:i=b
    ·subst e;have:(bG++[jT P (al i)]).getD i 0=jT P (al i):=by
      have:= @sB Nat bG (jT P (al i)) 0;rw[h.len]at this;exact this
     rw[this];exact⟨I,D⟩
    ·have o:i<b:=by omega
     rw[sL (by rw[h.len];exact o)];exact h.lt i o
   ·have:=h.lo1 g hg;rw[sL (by rw[h.len];exact this.1)];exact⟨by omega,this.2⟩
   ·by_cases e:i=b
    ·subst e;have:(bG++[jT P (al i)]).getD i 0=jT P (al i):=by
      have:= @sB Nat bG (jT P (al i)) 0;rw[h.len]at this;exact this
     rw[this];exact NU (h.lo1 _ I).1
    ·have o:i<b:=by omega
     rw[sL (by rw[h.len];exact o)];exact h.lo3 i o
theorem s7(aW:List (Nat->Bool)):KJ aW (qF aW).2 (λ b=>(qF aW).1.getD b 0):=by
 obtain⟨lo,h⟩:=Is (G3 aW) 256 0 [] [] (λ _=>0) ⟨rfl,λ i hi=>by omega,λ g hg=>by simp at hg,λ g C _ hg=>by simp at hg,λ i hi=>by omega⟩;rw[MJ]at h;exact⟨λ b o=>(h.lt b o).1,λ b o=>(h.lt b o).2,lo,h.lo1,h.lo2,h.lo3⟩
def G9(l:List gX)(c:Nat)(w:List Nat)(v:Nat):Prop:=
 (v=0/\∀(r:Nat)(x:gX),l[r]?=some x->¬(x.1 c=true/\W x.2.2 w))\/
 ∃(r:Nat)(x:gX),v=r+1/\l[r]?=some x/\(x.1 c=true/\W x.2.2 w)/\∀(r':Nat)(o:gX),r'<r->l[r']?=some o->¬(o.1 c=true/\W o.2.2 w)
theorem U3{l:List gX}{w:List Nat}{v I:Nat}(h:G9 l c w v)(k:G9 l c w I):v=I:=by
 rcases h with⟨J,o⟩|⟨r,x,J,o,D,Q⟩<;>rcases k with⟨U,C⟩|⟨s,y,U,C,F,V⟩
 ·omega
 ·exact absurd F (o s y C)
 ·exact absurd D (C r x o)
 ·rcases OS r s with e|e|e
  ·exact absurd D (V r x e o)
  ·omega
  ·exact absurd F (Q s y e C)
structure nK(l:List gX)(c:Nat)(A:Nat->Nat->Bool)(aG:Nat->Int)(aP:Int)(la G:List Int)(of_:Nat->Nat):Prop where
 np:mW l<=10
 ns:∀p,jA (aG p)
 nf:∀p q,nO (aG p) q=true↔Ss l p q
 bs:jA aP
 bf:∀q,nO aP q=true↔∃(r:Nat)(x:gX)(y:Rx×Nat),l[r]?=some x/\(kW 0 l)[r]?=some y/\x.1 c=true/\y.1.fst y.2 q
 ll:la.length=l.length
 ls:∀x∈la,jA x
 lf:∀(r:Nat)(y:Rx×Nat),(kW 0 l)[r]?=some y->∀p,nO (la.getD r 0) p=true↔y.1.lst y.2 p
 gs:∀g,g<G.length->jA (G.getD g 0)
 gl:∀b,b<256->of_ b<G.length
 gf:∀b,b<256->∀p,nO (G.getD (of_ b) 0) p=true↔A p b=true
 gn:∀g,g<G.length->∃b,b<256/\of_ b=g
 sy:∀y∈kW 0 l,y.1.says A y.2
 al:∀p,p<mW l->∃b,b<256/\A p b=true
 far:∀p b,b<256->A p b=true->p<mW l
section
variable {l:List gX}{c:Nat}{A:Nat->Nat->Bool}{aG:Nat->Int}{aP:Int}{la G:List Int}{of_:Nat->Nat}
theorem nK.bI(_h:nK l c A aG aP la G of_){s:Nat}(C:s<wY aG aP G):jA (rU aG aP G s):=by
 have o:=(tY aG aP G).1;have:rU aG aP G s∈(jF aG aP G).1:=by
  unfold rU;rw[LG,LD C];exact NE C
 exact o.rg _ this
theorem nK.step(h:nK l c A aG aP la G of_){s b:Nat}(hs:s<wY aG aP G)(V:b<256)(P:Nat->Prop)(hP:∀q,nO (if s=0 then aP else Bt aG (rU aG aP G s)) q=true↔P q):
  (wZ aG aP G s (of_ b)= -1/\∀q,¬(P q/\A q b=true))\/
  ∃I:Nat,wZ aG aP G s (of_ b)=(I:Int)/\0<I/\I<wY aG aP G/\(∀q,nO (rU aG aP G I) q=true↔(P q/\A q b=true))/\0<rU aG aP G I:=by
 have hg:=h.gl b V;have D:=FY aG aP G hs hg;have o:jA (if s=0 then aP else Bt aG (rU aG aP G s)):=by
  split
  ·exact h.bs
  ·exact f7 (λ p _=>h.ns p) _
 have X:=Gj o (h.gs _ hg);have C:∀q,nO (nQ (if s=0 then aP else Bt aG (rU aG aP G s)) (G.getD (of_ b) 0)) q=true↔(P q/\A q b=true):=λ q=>by
  rw[It o (h.gs _ hg),NY,hP,h.gf b V]
 rcases D with⟨Q,U⟩|⟨q,Q,U,J,Z,h5⟩
 ·left;refine⟨Q,λ q hq=>?_⟩;have:=(Jp X).2 ⟨q,(C q).2 hq⟩;have:=X.2;omega
 ·right;have F:rU aG aP G q=nQ (if s=0 then aP else Bt aG (rU aG aP G s)) (G.getD (of_ b) 0):=J;refine⟨q,Q,?_,U,λ p=>?_,by rw[F];exact Z⟩
  ·rcases Nat.eq_zero_or_pos q with e|e
   ·exfalso;subst e;have Y:=(tY aG aP G).1.zero;rw[LG,Y]at J;have J:(0:Int)=_:=J;omega
   ·exact e
  ·rw[F];exact C p
theorem nK.run(h:nK l c A aG aP la G of_):∀(u:List Nat)(s:Nat),0<s->s<wY aG aP G->lF 256 u->
  (sI (wZ aG aP G) s (u.map of_)=none/\∀q,¬nG A (Ss l) (λ p=>nO (rU aG aP G s) p=true) u q)\/
  ∃F,sI (wZ aG aP G) s (u.map of_)=some F/\0<F/\F<wY aG aP G/\∀q,nO (rU aG aP G F) q=true↔nG A (Ss l) (λ p=>nO (rU aG aP G s) p=true) u q
 | [],s,h0,hs,_=> .inr ⟨s,rfl,h0,hs,λ q=>Iff.rfl⟩
 | b::u,s,h0,hs,hu=>by
  have Z:=hu b LH;have U:lF 256 u:=λ d hd=>hu d (LJ _ hd)
  have D:=h.step hs Z (λ q=>∃p,nO (rU aG aP G s) p=true/\Ss l p q) (λ q=>by
   rw[aA (by omega),DW (λ p _=>h.ns p) (h.bI hs)];constructor
   ·rintro⟨p,_,o,I⟩;exact⟨p,o,(h.nf p q).1 I⟩
   ·rintro⟨p,o,I⟩;refine⟨p,?_,o,(h.nf p q).2 I⟩;apply LQ;intro hc;rw[Tk (h.bI hs) (by omega)]at o
    cases o)
  have C:∀q,(∃p,nO (rU aG aP G s) p=true/\Ss l p q/\A q b=true)↔((∃p,nO (rU aG aP G s) p=true/\Ss l p q)/\A q b=true):=λ q=>
   ⟨λ⟨p,a,b,c⟩=>⟨⟨p,a,b⟩,c⟩,λ⟨⟨p,a,b⟩,c⟩=>⟨p,a,b,c⟩⟩
  rw[NZ,sI];rcases D with⟨J,o⟩|⟨F,J,o,I,Y,_⟩
  ·left;rw[aB J];exact⟨rfl,xP u _ (λ q Q=>o q ((C q).1 Q))⟩
  ·rw[aA (by rw[J];omega),J,NS];have hi:∀q,nG A (Ss l) (λ p=>nO (rU aG aP G F) p=true) u q↔nG A (Ss l) (λ p=>nO (rU aG aP G s) p=true) (b::u) q:=λ q=>by
    rw[nG];exact Dp u (λ p=>(Y p).trans (C p).symm) q
   rcases nK.run h u F o I U with⟨V,X⟩|⟨s2,V,X,k3,k4⟩
   ·exact .inl ⟨V,λ q Q=>X q ((hi q).2 Q)⟩
   ·exact .inr ⟨s2,V,X,k3,λ q=>(k4 q).trans (hi q)⟩
def G6(aG:Nat->Int)(aP:Int)(la G:List Int):Nat->Nat:=λ s=>yT la (rU aG aP G s)
theorem nK.begun(h:nK l c A aG aP la G of_){r:Nat}{x:gX}{y:Rx×Nat}(X:l[r]?=some x)(J:(kW 0 l)[r]?=some y)(b:Nat)(u:List Nat)(q:Nat)(C:y.2<=q)(D:q<y.2+y.1.np):
  nG A (Ss l) (λ p=>nO aP p=true/\A p b=true) u q↔(x.1 c=true/\nG A (y.1.fol y.2) (λ p=>y.1.fst y.2 p/\A p b=true) u q):=by
 have U:∀q,y.2<=q->q<y.2+y.1.np->(nO aP q=true↔(x.1 c=true/\y.1.fst y.2 q)):=λ q C D=>by
  rw[h.bf];constructor
  ·rintro⟨r',Z,Y,a1,o,Q,I⟩;have:=Fv J o ⟨C,D⟩ (Y.1.fst_in Y.2 q I);subst this;rw[J]at o;rw[X]at a1;injection o with o;injection a1 with a1;subst a1 o;exact⟨Q,I⟩
  ·rintro⟨Q,I⟩;exact⟨r,x,y,X,J,Q,I⟩
 rw[Dq J u (λ p=>nO aP p=true/\A p b=true) (λ p=>x.1 c=true/\(y.1.fst y.2 p/\A p b=true)) (λ q C D=>by rw[U q C D,and_assoc]) (λ q F=>y.1.fst_in y.2 q F.2.1) q C D];by_cases V:x.1 c=true
 ·simp only[V,true_and]
 ·simp only[V,false_and,OO];constructor
  ·intro F;exact absurd F (xP u _ (λ p U=>U) q)
  ·intro F;exact F.elim
theorem nK.tok(h:nK l c A aG aP la G of_)(b:Nat)(u:List Nat)(hw:lF 256 (b::u)):G9 l c (b::u) (jN (G6 aG aP la G) (wZ aG aP G) 0 ((b::u).map of_)):=by
 have hb:=hw b LH;have hu:lF 256 u:=λ d hd=>hw d (LJ _ hd)
 have hn:=(Dm aG aP G).pos;have J:∀(r:Nat)(x:gX)(y:Rx×Nat),l[r]?=some x->(kW 0 l)[r]?=some y->((x.1 c=true/\W x.2.2 (b::u))↔∃q,nG A (Ss l) (λ p=>nO aP p=true/\A p b=true) u q/\y.1.lst y.2 q):=λ r x y C D=>by
  have bM:y.1=x.2.2:=by
   have:∀(l:List gX)(k r:Nat)(x:gX)(y:Rx×Nat),l[r]?=some x->(kW k l)[r]?=some y->y.1=x.2.2:=by
    intro l
    induction l with
    | nil=>intro k r x y h _;simp at h
    | cons z l ih=>
     intro k r x y Q V
     cases r with
     | zero=>
      rw[MR]at Q;rw[kW,MR]at V;injection Q with Q;injection V with V;rw[<-Q,<-V]
     | succ j=>
      rw[ME]at Q;rw[kW,ME]at V;exact ih _ _ _ _ Q V
   exact this l 0 r x y C D
  have aT:=h.sy y (MA D);have U:=C8 y.1 y.2 aT u (λ p=>y.1.fst y.2 p/\A p b=true) [] hu;rw[MB]at U;have hW:W x.2.2 (b::u)↔∃q,nG A (y.1.fol y.2) (λ p=>y.1.fst y.2 p/\A p b=true) u q/\y.1.rest y.2 q []:=by
   rw[<-U,<-bM,y.1.begins y.2 aT b u];constructor
   ·rintro⟨p,a1,_,Y,a4⟩;exact⟨p,⟨a1,Y⟩,a4⟩
   ·rintro⟨p,⟨a1,Y⟩,a4⟩;exact⟨p,a1,hb,Y,a4⟩
  rw[hW];constructor
  ·rintro⟨a1,q,X,Y⟩;have Z:=Mr u _ (λ q Z=>y.1.fst_in y.2 q Z.1) q X;exact⟨q,(h.begun C D b u q Z.1 Z.2).2 ⟨a1,X⟩,(y.1.ends y.2 q).1 Y⟩
  ·rintro⟨q,X,Y⟩;have Z:=y.1.lst_in y.2 q Y;obtain⟨k1,k2⟩:=(h.begun C D b u q Z.1 Z.2).1 X;exact⟨k1,q,k2,(y.1.ends y.2 q).2 Y⟩
 have o:∀(r:Nat)(x:gX),l[r]?=some x->∃y,(kW 0 l)[r]?=some y:=λ r x C=>by
  have:r<(kW 0 l).length:=by rw[tF];exact(LO.1 C).1
  exact⟨_,LD this⟩
 have aL:=h.step hn hb (λ q=>nO aP q=true) (λ q=>by rw[aB rfl]);rw[NZ];rcases aL with⟨Q,V⟩|⟨s',Q,V,h3,h4,_⟩
 ·rw[lS Q];refine .inl ⟨rfl,λ r x C I=>?_⟩;obtain⟨y,D⟩:=o r x C;obtain⟨q,a1,_⟩:=(J r x y C D).1 I;exact xP u _ (λ p hp=>V p hp) q a1
 ·rw[iT (by rw[Q];omega),Q,NS];have hi:∀q,nG A (Ss l) (λ p=>nO (rU aG aP G s') p=true) u q↔nG A (Ss l) (λ p=>nO aP p=true/\A p b=true) u q:=λ q=>Dp u h4 q
  rcases h.run u s' V h3 hu with⟨k1,k2⟩|⟨s2,k1,k2,k3,k4⟩
  ·have:jN (G6 aG aP la G) (wZ aG aP G) s' (u.map of_)=0:=by unfold jN;rw[k1]
   rw[this];refine .inl ⟨rfl,λ r x C I=>?_⟩;obtain⟨y,D⟩:=o r x C;obtain⟨q,a1,_⟩:=(J r x y C D).1 I;exact k2 q ((hi q).2 a1)
  ·have aO:jN (G6 aG aP la G) (wZ aG aP G) s' (u.map of_)=yT la (rU aG aP G s2):=by unfold jN;rw[k1];rfl
   rw[aO];have aR:=h.bI k3;have F:∀(r:Nat)(x:gX)(y:Rx×Nat),l[r]?=some x->(kW 0 l)[r]?=some y->((x.1 c=true/\W x.2.2 (b::u))↔∃p,nO (rU aG aP G s2) p=true/\nO (la.getD r 0) p=true):=λ r x y C D=>by
    rw[J r x y C D];constructor
    ·rintro⟨q,a1,X⟩;exact⟨q,(k4 q).2 ((hi q).2 a1),(h.lf r y D q).2 X⟩
    ·rintro⟨q,a1,X⟩;exact⟨q,(hi q).1 ((k4 q).1 a1),(h.lf r y D q).1 X⟩
   rcases X9 aR la 0 h.ls with⟨t1,t2⟩|⟨r,t1,t2,t3,t4⟩
   ·refine .inl ⟨t1,λ r x C I=>?_⟩;obtain⟨y,D⟩:=o r x C;have hr:r<la.length:=by rw[h.ll];exact(LO.1 C).1
    refine t2 (la.getD r 0) ?_ ((F r x y C D).1 I);rw[LG,LD hr];exact NE hr
   ·have hr:r<l.length:=by rw[<-h.ll];exact t2
    obtain⟨y,D⟩:=o r _ (LD hr);refine .inr ⟨r,l[r],by show L8 la _ 0=_;omega,LD hr,(F r _ y (LD hr) D).2 t3,λ r' x' bC aW I=>?_⟩;obtain⟨y',bK⟩:=o r' x' aW;exact t4 r' bC ((F r' x' y' aW bK).1 I)
theorem nK.lively(h:nK l c A aG aP la G of_):Bj (wY aG aP G) G.length (G6 aG aP la G) (wZ aG aP G):=by
 intro s g hs hg aL;obtain⟨b,hb,rfl⟩:=h.gn g hg;have F:=h.step hs hb (λ q=>nO (if s=0 then aP else Bt aG (rU aG aP G s)) q=true) (λ q=>Iff.rfl);rcases F with⟨h1,_⟩|⟨s',h1,h2,h3,h4,U⟩
 ·exact absurd h1 aL
 ·rw[h1,NS];have X:=h.bI h3;obtain⟨q,hq⟩:=(Jp X).1 U;have aR:=((h4 q).1 hq).2;have aT:=h.far q b hb aR;obtain⟨r,y,Y,y1,y2⟩:=Y9 l 0 q zL (by omega);have I:=h.sy y (MA Y);have aW:=Bq l 0 y (MA Y);obtain⟨v,hv⟩:=y.1.alive y.2 I (λ p p1 p2=>h.al p (by omega)) q y1 y2;have o:=y.1.rest_lets y.2 I v q hv;have D:=(C8 y.1 y.2 I v (λ p=>p=q) [] o).1 ⟨q,rfl,by rw[MB];exact hv⟩;obtain⟨J,a1,Z⟩:=D;have Z:=(y.1.ends y.2 J).1 Z;have V:nG A (Ss l) (λ p=>nO (rU aG aP G s') p=true) v J:=xO (λ p q aO=>⟨y,MA Y,aO⟩) v _ _ (λ p hp=>by rw[hp];exact hq) J a1;refine⟨v.map of_,λ d hd=>?_,?_⟩
  ·rw[LZ]at hd;obtain⟨e,he,rfl⟩:=hd;exact h.gl e (o e he)
  ·rcases h.run v s' h2 h3 o with⟨_,k2⟩|⟨s2,k1,k2,k3,k4⟩
   ·exact absurd V (k2 J)
   ·have Q:jN (G6 aG aP la G) (wZ aG aP G) s' (v.map of_)=yT la (rU aG aP G s2):=by unfold jN;rw[k1];rfl
    rw[Q];have C:∃p,nO (rU aG aP G s2) p=true/\nO (la.getD r 0) p=true:=⟨J,(k4 J).2 V,(h.lf r y Y J).2 Z⟩
    have hr:r<la.length:=by rw[h.ll,<-tF l 0];exact(LO.1 Y).1
    rcases X9 (h.bI k3) la 0 h.ls with⟨_,t2⟩|⟨r',t1,_⟩
    ·exact absurd C (t2 (la.getD r 0) (by rw[LG,LD hr];exact NE hr))
    ·show L8 la _ 0≠0;omega
theorem nK.zero(h:nK l c A aG aP la G of_):G6 aG aP la G 0=0:=by
 have C:=(tY aG aP G).1.zero;have e:rU aG aP G 0=0:=by unfold rU;rw[LG,C];rfl
 unfold G6;rw[e];rcases X9 tR la 0 h.ls with⟨t1,_⟩|⟨r,_,_,⟨p,o,_⟩,_⟩
 ·exact t1
 ·rw[uJ]at o;cases o
end
end
open Go.Proofs.YtgjgjgihceijnaaGreat (rQ zD vC pP)
theorem Dw{tr o:Nat->Nat->Int}(h:oT n L tr)(D:∀p b,p<n->b<L->tr p b=o p b):∀(w:List Nat)(p:Nat),p<n->lF L w->sI tr p w=sI o p w
 | [],_,_,_=>rfl
 | b::w,p,hp,hl=>by
  have C:=hl b LH;rw[sI,sI,<-D p b hp C];split
  ·rfl
  ·rename_i I;have:=h.rng p b hp C;exact Dw h D w _ (by omega) (λ c F=>hl c (LJ _ F))
theorem zE{mk mk':Nat->Nat}{tr o:Nat->Nat->Int}(h:oT n L tr)(I:∀p,p<n->mk p=mk' p)(F:∀p b,p<n->b<L->tr p b=o p b)(w:List Nat)(p:Nat)(D:p<n)(C:lF L w):jN mk tr p w=jN mk' o p w:=by
 unfold jN;rw[<-Dw h F w p D C]
 cases e:sI tr p w with
 | none=>rfl
 | some q=>exact I q (vW h w p q D C e)
theorem uE.congr{mk mk':Nat->Nat}{tr V:Nat->Nat->Int}(h:uE n L mk tr)(hm:∀p,p<n->mk p=mk' p)(I:∀p b,p<n->b<L->tr p b=V p b):uE n L mk' V:=by
 have Z:=λ w p o hl=>zE (mk:=mk) (mk':=mk') h.au hm I w p o hl
 refine⟨⟨h.au.pos,λ p b o C=>by rw[<-I p b o C];exact h.au.rng p b o C⟩,⟨λ p b q o C J U=>?_,λ q J aL=>?_⟩,λ p b o C D=>?_,λ p q o J D=>?_⟩
 ·rw[<-I p b o C]at U;obtain⟨p',b',F,X,Y⟩:=h.od.d1 p b q o C J U;exact⟨p',b',F,X,by rw[<-I p' b' (by omega) F];exact Y⟩
 ·obtain⟨p,b,F,X,Y⟩:=h.od.d2 q J aL;exact⟨p,b,F,X,by rw[<-I p b (by omega) X];exact Y⟩
 ·rw[<-I p b o C]at D ⊢;obtain⟨z,Q,F⟩:=h.li p b o C D;have:=h.au.rng p b o C;exact⟨z,Q,by rw[<-Z z _ (by omega) Q];exact F⟩
 ·obtain⟨z,Q,F⟩:=h.ap p q o J D;exact⟨z,Q,by rw[<-Z z p o Q,<-Z z q J Q];exact F⟩
theorem sY.congr{tk o:Nat->Nat}{nx nx':Nat->Nat->Int}(h:oT n K nx)(D:∀p,p<n->tk p=o p)(C:∀p b,p<n->b<K->nx p b=nx' p b):∀(r s t:Nat),s<n->t<n->sY tk nx K r s t->sY o nx' K r s t
 | 0,_,_,_,_,_=>trivial
 | r+1,s,t,hs,ht,hE=>by
  refine⟨sY.congr h D C r s t hs ht hE.1,by rw[<-D s hs,<-D t ht];exact hE.2.1,λ g hg=>?_⟩;rw[<-C s g hs hg,<-C t g ht hg];obtain⟨F,J⟩:=hE.2.2 g hg;refine⟨F,λ e=>?_⟩;have Q:=h.rng s g hs hg;have U:=h.rng t g ht hg;have:nx t g≠ -1:=λ I=>e (F.2 I)
  exact sY.congr h D C r _ _ (by omega) (by omega) (J e)
def K4(n:Nat)(tk:Nat->Nat)(nx:Nat->Nat->Int)(K:Nat):Option (List Nat×List Nat):=tS n tk nx K 102 (List.replicate n 0) 0
theorem AA(n:Nat)(tk:Nat->Nat)(nx:Nat->Nat->Int)(K:Nat):zC n tk nx K=(K4 n tk nx K).map λ x=>nX tk nx K x.1 x.2:=by unfold zC K4;rfl
theorem Iy{tk:Nat->Nat}{nx:Nat->Nat->Int}(hn:0<n)(o:∀s g,s<n->g<K->nx s g= -1\/(0<=nx s g/\nx s g<(n:Int))):
  (∀x,K4 n tk nx K=some x->∃r',kF n tk nx K x.1 x.2 r')/\(K4 n tk nx K=none->DF n tk nx K):=by
 unfold K4;exact Ix hn o
theorem Oz(aG:Nat->Int)(aP:Int)(G la:List Int):Ik aG aP G la=zC (wY aG aP G) (G6 aG aP la G) (wZ aG aP G) G.length:=by
 unfold Ik Ub wY G6 wZ rU
 dsimp only
theorem C4(mk:Nat->Nat)(tr:Nat->Nat->Int)(of_:Nat->Nat):∀(w:List Nat)(p:Nat),jN mk (λ p b=>tr p (of_ b)) p w=jN mk tr p (w.map of_)
 | [],_=>rfl
 | b::w,p=>by
  rw[NZ];by_cases e:tr p (of_ b)= -1
  ·rw[lS e,lS (tr:=λ p b=>tr p (of_ b)) e]
  ·rw[iT e,iT (tr:=λ p b=>tr p (of_ b)) e];exact C4 mk tr of_ w _
theorem uE.bytes{mk:Nat->Nat}{tr:Nat->Nat->Int}(h:uE n K mk tr){of_:Nat->Nat}(Z:∀b,b<256->of_ b<K){lo:Nat->Nat}(U:∀g,g<K->lo g<256/\of_ (lo g)=g)(h3:∀g o,g<o->o<K->lo g<lo o)(h4:∀b,b<256->lo (of_ b)<=b):
  uE n 256 mk (λ p b=>tr p (of_ b)):=by
 have Y:∀z,lF K z->∃w,lF 256 w/\w.map of_=z:=λ z Y=>by
  refine⟨z.map lo,λ b D=>?_,?_⟩
  ·rw[LZ]at D;obtain⟨g,hg,rfl⟩:=D;exact(U g (Y g hg)).1
  ·rw[List.map_map];have:∀g∈z,(of_ ∘ lo) g=g:=λ g hg=>(U g (Y g hg)).2
   rw[List.map_congr_left this,PE]
 have aL:∀g o,g<=o->o<K->lo g<=lo o:=λ g o V hg=>by
  by_cases e:g=o
  ·rw[e];exact lR
  ·exact NU (h3 g o (by omega) hg)
 refine⟨⟨h.au.pos,λ p b J D=>h.au.rng p (of_ b) J (Z b D)⟩,⟨λ p b q J D X V=>?_,λ q X aO=>?_⟩,λ p b J D I=>?_,λ p q J X I=>?_⟩
 ·obtain⟨p',o,a1,F,a3⟩:=h.od.d1 p (of_ b) q J (Z b D) X V;refine⟨p',lo o,(U o a1).1,?_,by simp only[(U o a1).2];exact a3⟩;rcases F with F|⟨F,a4⟩
  ·exact .inl F
  ·exact .inr ⟨F,NW (aL o (of_ b) a4 (Z b D)) (h4 b D)⟩
 ·obtain⟨p,g,a1,F,a3⟩:=h.od.d2 q X aO;exact⟨p,lo g,a1,(U g F).1,by simp only[(U g F).2];exact a3⟩
 ·obtain⟨z,Q,C⟩:=h.li p (of_ b) J (Z b D) I;obtain⟨w,hw,e⟩:=Y z Q;exact⟨w,hw,by rw[C4,e];exact C⟩
 ·obtain⟨z,Q,C⟩:=h.ap p q J X I;obtain⟨w,hw,e⟩:=Y z Q;exact⟨w,hw,by rw[C4 mk tr of_ w p,C4 mk tr of_ w q,e];exact C⟩
def De(l:List gX)(b:Nat):Nat:=(qF (pY l)).1.getD b 0
def lJ(l:List gX):List Int:=(qF (pY l)).2
def pU(l:List gX)(c:Nat):Int:=rM (λ r=>(zD (fW jX l).aV (fW jX l).aX).getD r 0) c (fW jX l).aX 0 0
theorem Cl:∀(l:List gX),(∀x∈l,tD x)->∀f∈pY l,Ka f
 | [],_,f,hf=>absurd hf LM
 | x::l,h,f,hf=>by
  rcases LN.1 hf with o|o
  ·exact(h x LH).g f o
  ·exact Cl l (λ y C=>h y (LJ _ C)) f o
theorem E7:∀(l:List gX),(pY l).length=mW l
 | []=>rfl
 | x::l=>by show(x.2.2.fns++pY l).length=x.2.2.np+mW l;rw[LF,Rx.fns_len,E7 l]
theorem Kz(l:List gX)(hl:∀x∈l,tD x)(hn:mW l<=10)(c:Nat)(hc:c<4):
  nK l c (Zg (pY l)) (rQ (fW jX l).aV) (pU l c) (vC (fW jX l).aV (fW jX l).aX) (lJ l) (De l):=by
 obtain⟨o,aL⟩:=Jb l hn;have C:=s7 (pY l);have aO:(pY l).length<=10:=by rw[E7];exact hn
 have Q:(fW jX l).aX.length=l.length:=by rw[qI];show 0+l.length=l.length;omega
 have V:=λ b=>DS aO b
 obtain⟨lo,U,aT,aW⟩:=C.lo;have J:∀g,g<(lJ l).length->jA ((lJ l).getD g 0):=λ g hg=>by
  obtain⟨D,I⟩:=U g hg;have:=C.al (lo g) D;rw[I]at this;show jA ((qF (pY l)).2.getD g 0);rw[this];exact(V _).1
 have F:=Fx (λ r=>(zD (fW jX l).aV (fW jX l).aX).getD r 0) c (fW jX l).aX 0 0 tR (λ i hi=>by
  rw[MJ];have Y:i<(zD (fW jX l).aV (fW jX l).aX).length:=by rw[o.fl,<-Q];exact hi
  refine o.fs _ ?_;rw[LG,LD Y];exact NE Y)
 refine⟨hn,o.s,o.f,F.1,λ q=>?_,o.ll,o.ls,o.lf,J,C.lt,λ b hb p=>?_,λ g hg=>⟨lo g,(U g hg).1,(U g hg).2⟩,λ y hy=>?_,λ p hp=>?_,λ p b hb hA=>?_⟩
 ·show nO (rM _ c _ 0 0) q=true↔_;rw[F.2,uJ];constructor
  ·rintro(h|⟨i,x,D,I,h3⟩)
   ·cases h
   ·have hi:i<l.length:=by rw[<-Q];exact(LO.1 D).1
    have X:i<(kW 0 l).length:=by rw[tF];exact hi
    refine⟨i,l[i],(kW 0 l)[i],LD hi,LD X,?_,?_⟩
    ·have:=congrArg (λ m=>m[i]?) aL;simp only[MF,D,LD hi,NR]at this;injection this with this;injection this with this _;rw[<-this];exact I.2
    ·rw[MJ]at h3;exact(o.ff i _ (LD X) q).1 h3
  ·rintro⟨r,x,y,D,I,h3,h4⟩;have hr:r<(fW jX l).aX.length:=by rw[Q];exact(LO.1 D).1
   refine .inr ⟨r,(fW jX l).aX[r],LD hr,⟨hc,?_⟩,?_⟩
   ·have:=congrArg (λ m=>m[r]?) aL;simp only[MF,D,LD hr,NR]at this;injection this with this;injection this with this _;rw[this];exact h3
   ·rw[MJ];exact(o.ff r y I q).2 h4
 ·have:=C.al b hb;show nO ((qF (pY l)).2.getD ((qF (pY l)).1.getD b 0) 0) p=true↔_;rw[this];exact(V b).2 p
 ·have:=Br l [] y hy;rw[OL]at this;exact this
 ·have Z:p<(pY l).length:=by rw[E7];exact hp
  obtain⟨b,D,I⟩:=Cl l hl _ (NE Z);refine⟨b,D,?_⟩;unfold Zg;rw[LG,LD Z];exact I
 ·rw[<-E7];apply LQ;intro aR;unfold Zg at hA;rw[LG,MV (by omega)]at hA
  cases hA
structure IJ(l:List gX)(c:Nat)(tab:List (Nat×List Int)):Prop where
 cn:uE tab.length (lJ l).length (λ s=>(tab.getD s (0,[])).1) (λ s g=>(tab.getD s (0,[])).2.getD g 0)
 few:tab.length<=100
 apr:∃r,r<=tab.length/\∀p q,p<tab.length->q<tab.length->p≠q->¬sY (λ s=>(tab.getD s (0,[])).1) (λ s g=>(tab.getD s (0,[])).2.getD g 0) (lJ l).length r p q
 z:(tab.getD 0 (0,[])).1=0
 tok:∀b u,lF 256 (b::u)->G9 l c (b::u) (jN (λ s=>(tab.getD s (0,[])).1) (λ s g=>(tab.getD s (0,[])).2.getD g 0) 0 ((b::u).map (De l)))
 len:∀x∈tab,x.2.length=(lJ l).length
 rul:∀x∈tab,x.1<=l.length
def E0(l:List gX)(c:Nat):Prop:=DF (wY (rQ (fW jX l).aV) (pU l c) (lJ l)) (G6 (rQ (fW jX l).aV) (pU l c) (vC (fW jX l).aV (fW jX l).aX) (lJ l)) (wZ (rQ (fW jX l).aV) (pU l c) (lJ l)) (lJ l).length
theorem Gd(l:List gX)(hl:∀x∈l,tD x)(hn:mW l<=10)(c:Nat)(hc:c<4):
  (∀Y,pP (fW jX l).aV (fW jX l).aX (lJ l) c=some Y->IJ l c Y)/\(pP (fW jX l).aV (fW jX l).aX (lJ l) c=none->E0 l c):=by
 have I:=Kz l hl hn c hc;have D:=Dm (rQ (fW jX l).aV) (pU l c) (lJ l);have bC:=V9 (rQ (fW jX l).aV) (pU l c) (lJ l);have aL:=Iy (tk:=G6 (rQ (fW jX l).aV) (pU l c) (vC (fW jX l).aV (fW jX l).aX) (lJ l)) D.pos D.rng;have aR:pP (fW jX l).aV (fW jX l).aX (lJ l) c=zC (wY (rQ (fW jX l).aV) (pU l c) (lJ l)) (G6 (rQ (fW jX l).aV) (pU l c) (vC (fW jX l).aV (fW jX l).aX) (lJ l)) (wZ (rQ (fW jX l).aV) (pU l c) (lJ l)) (lJ l).length:=by
  unfold Go.Proofs.YtgjgjgihceijnaaGreat.pP;rw[Oz];unfold pU
  rfl
 rw[AA]at aR;rw[aR];have aT:=I.lively;have bK:=I.tok;have bM:=I.zero;have aO:∀s,G6 (rQ (fW jX l).aV) (pU l c) (vC (fW jX l).aV (fW jX l).aX) (lJ l) s<=l.length:=λ s=>by
  show L8 _ _ 0<=_;have:∀(m:List Int)(pl:Int)(k:Nat),L8 m pl k<=k+m.length:=by
   intro m
   induction m with
   | nil=>intro pl k;exact zL
   | cons a m ih=>
    intro pl k;rw[L8];split
    ·have:=ih pl (k+1);simp only[MD];omega
    ·simp only[MD];omega
  have h1:=this (vC (fW jX l).aV (fW jX l).aX) (rU (rQ (fW jX l).aV) (pU l c) (lJ l) s) 0;rw[I.ll]at h1;omega
 unfold E0;generalize wY (rQ (fW jX l).aV) (pU l c) (lJ l)=n at*;generalize G6 (rQ (fW jX l).aV) (pU l c) (vC (fW jX l).aV (fW jX l).aX) (lJ l)=tk at*;generalize wZ (rQ (fW jX l).aV) (pU l c) (lJ l)=nx at*;refine⟨λ Y V=>?_,λ V=>?_⟩
 ·cases hm:K4 n tk nx (lJ l).length with
  | none=>rw[hm]at V;cases V
  | some x=>
   rw[hm]at V;obtain⟨r,Z⟩:=aL.1 x hm;injection V with V;subst V;have hz:=Z.zero D.pos;have o:(nX tk nx (lJ l).length x.1 x.2).length=x.2.length:=by simp[nX]
   have J:∀p,p<x.2.length->(nX tk nx (lJ l).length x.1 x.2).getD p (0,[])=(tk (x.2.getD p 0),(List.range (lJ l).length).map λ g=>pG (iV x.1) (nx (x.2.getD p 0) g)):=λ p C=>by
    unfold nX;rw[LG,MF,LD C,LG,LD C]
    rfl
   have Q:∀p,p<x.2.length->KG tk x.2 p=((nX tk nx (lJ l).length x.1 x.2).getD p (0,[])).1:=λ p C=>by rw[J p C];rfl
   have U:∀p g,p<x.2.length->g<(lJ l).length->Hc nx x.1 x.2 p g=((nX tk nx (lJ l).length x.1 x.2).getD p (0,[])).2.getD g 0:=λ p g C hg=>by
    rw[J p C]
    dsimp only
    rw[LG,MF,List.getElem?_range hg]
    rfl
   have F:=Z.canon D bC aT;refine⟨?_,by rw[o];exact Z.few,⟨r,by rw[o];exact Z.rd,λ p q C hq aW hE=>?_⟩,?_,λ b u hw=>?_,λ y X=>?_,λ y X=>?_⟩
   ·rw[o];exact F.congr Q U
   ·rw[o]at C hq;refine Z.qapart D C hq aW ?_;refine sY.congr (n:=x.2.length) ?_ (λ p C=>(Q p C).symm) (λ p g C hg=>(U p g C hg).symm) r p q C hq hE;have:=(F.congr Q U).au;exact this
   ·rw[J 0 hz.1,hz.2];exact bM
   ·have h1:=bK b u hw;have h2:lF (lJ l).length ((b::u).map (De l)):=λ d hd=>by
     rw[LZ]at hd;obtain⟨e,he,rfl⟩:=hd;exact I.gl e (hw e he)
    have h3:=Z.qobs D ((b::u).map (De l)) 0 hz.1 h2;rw[hz.2]at h3;rw[<-zE F.au Q U _ 0 hz.1 h2,h3];exact h1
   ·unfold nX at X;rw[LZ]at X;obtain⟨s,_,rfl⟩:=X;simp
   ·unfold nX at X;rw[LZ]at X;obtain⟨s,_,rfl⟩:=X;exact aO s
 ·cases hm:K4 n tk nx (lJ l).length with
  | none=>exact aL.2 hm
  | some x=>rw[hm]at V;cases V
theorem PJ.new{q:Nat->Nat->Bool}(h:PJ q s aK aN)(V:gW q aN s aN.length=aN.length):PJ q (s+1) (aK++[aN.length]) (aN++[s]):=by
 have U:=A7 (q:=q) (l:=aN) (s:=s) aN.length lR V;have C:=h.pi.len;have I:(aK++[aN.length]).getD s 0=aN.length:=by have:= @jD aK aN.length;rw[C]at this;exact this
 refine⟨⟨by simp[C],λ x X=>?_,λ f o=>?_⟩,λ x X=>?_,λ f f' o D=>?_,λ f f' o D=>?_,λ _=>?_⟩
 ·by_cases e:x=s
  ·subst e;rw[I];exact⟨by simp,.inl jD⟩
  ·have F:x<s:=by omega
   obtain⟨J,Q⟩:=h.pi.cl x F;rw[gV (l:=aK) (by rw[C];exact F),gV J];exact⟨MI J (by simp),Q⟩
 ·simp at o;by_cases e:f=aN.length
  ·subst e;rw[jD,I];exact⟨by omega,rfl⟩
  ·have D:f<aN.length:=by omega
   obtain⟨J,Q⟩:=h.pi.rep f D;rw[gV D,gV (by rw[C];exact J)];exact⟨by omega,Q⟩
 ·by_cases e:x=s
  ·subst e;rw[I,jD];exact lR
  ·have F:x<s:=by omega
   rw[gV (l:=aK) (by rw[C];exact F),gV (h.pi.cl x F).1];exact h.le x F
 ·simp at D;by_cases e:f'=aN.length
  ·subst e;rw[jD,gV o];exact(h.pi.rep f o).1
  ·rw[gV (by omega),gV (by omega)];exact h.mono f f' o (by omega)
 ·simp at D;by_cases e:f'=aN.length
  ·subst e;rw[jD,gV o];exact U f (by omega) o
  ·rw[gV (by omega),gV (by omega)];exact h.no f f' o (by omega)
 ·refine⟨by simp,?_⟩;by_cases e:s=0
  ·subst e;have:aN=[]:=by
    cases aN with
    | nil=>rfl
    | cons a r=>have:=(h.pi.rep 0 (by simp)).1;omega
   rw[this];rfl
  ·have:=h.zero (by omega);rw[gV this.1];exact this.2
theorem PJ.old{q:Nat->Nat->Bool}(h:PJ q s aK aN)(X:¬gW q aN s aN.length=aN.length):PJ q (s+1) (aK++[gW q aN s aN.length]) aN:=by
 have o:=h.pi.len;have D:gW q aN s aN.length<aN.length:=by have:=tN q aN s aN.length;omega
 have U:=Lh _ lR D;have F:(aK++[gW q aN s aN.length]).getD s 0=gW q aN s aN.length:=by have:= @jD aK (gW q aN s aN.length);rw[o]at this;exact this
 refine⟨⟨by simp[o],λ x V=>?_,λ f I=>?_⟩,λ x V=>?_,h.mono,h.no,λ _=>?_⟩
 ·by_cases e:x=s
  ·subst e;rw[F];exact⟨D,.inr U⟩
  ·have C:x<s:=by omega
   rw[gV (l:=aK) (by rw[o];exact C)];exact h.pi.cl x C
 ·obtain⟨J,Q⟩:=h.pi.rep f I;rw[gV (by rw[o];exact J)];exact⟨by omega,Q⟩
 ·by_cases e:x=s
  ·subst e;rw[F];exact NU (h.pi.rep _ D).1
  ·have C:x<s:=by omega
   rw[gV (l:=aK) (by rw[o];exact C)];exact h.le x C
 ·have:0<s:=by have:=(h.pi.rep _ D).1;omega
  exact h.zero this
theorem DZ{q:Nat->Nat->Bool}:∀d s aK aN,PJ q s aK aN->PJ q (s+d) (uV q d s aK aN).1 (uV q d s aK aN).2:=by
 intro d
 induction d with
 | zero=>intro s aK aN h;exact h
 | succ k ih=>
  intro s aK aN h;rw[uV,show s+(k+1)=s+1+k by omega];by_cases o:gW q aN s aN.length=aN.length
  ·rw[aB o];exact ih _ _ _ (h.new o)
  ·rw[aA o];exact ih _ _ _ (h.old o)
theorem ED(K:Nat)(q:Nat->Nat->Bool):PJ q K (mU K q).1 (mU K q).2:=by
 have:=DZ (q:=q) K 0 [] [] ⟨⟨rfl,λ x C=>by omega,λ f o=>by simp at o⟩,λ x C=>by omega,λ f f' _ o=>by simp at o,λ f f' _ o=>by simp at o,λ h=>by omega⟩;rw[MJ]at this;exact this
structure IH(K k:Nat)(q:Nat->Nat->Bool)(cls fi:Nat->Nat):Prop where
 pos:0<K->0<k
 le:k<=K
 lt:∀g,g<K->cls g<k
 eq:∀g g',g<K->g'<K->(cls g=cls g'↔q g g'=true)
 fi1:∀j,j<k->fi j<K/\cls (fi j)=j
 fi2:∀g,g<K->fi (cls g)<=g
 fi3:∀j j',j<j'->j'<k->fi j<fi j'
theorem JH(K:Nat)(q:Nat->Nat->Bool)(F:∀x,q x x=true)(I:∀x y,q x y=true->q y x=true)(J:∀x y z,q x y=true->q y z=true->q x z=true):
  IH K (mU K q).2.length q (λ g=>(mU K q).1.getD g 0) (λ j=>(mU K q).2.getD j 0):=by
 have h:=ED K q;have C:=J1 q K;exact⟨C.2.2.2.2,C.2.1,λ g hg=>(h.pi.cl g hg).1,λ g U hg o=>h.part F I J hg o,λ j D=>h.pi.rep j D,λ g hg=>h.le g hg,λ j Q=>h.mono j Q⟩
theorem Ya(ns:Nat->Nat)(nx:Nat->Nat->Nat->Int)(n g:Nat):mJ ns nx n g g=true:=Dy (λ _ _ _ _=>rfl)
theorem rG{ns:Nat->Nat}{nx:Nat->Nat->Nat->Int}{g h:Nat}:mJ ns nx n g h=true↔∀c,c<n->∀s,s<ns c->nx c s g=nx c s h:=by unfold mJ;rw[aE]
theorem Jl(K:Nat)(ns:Nat->Nat)(nx:Nat->Nat->Nat->Int)(n:Nat):IH K (mU K (mJ ns nx n)).2.length (mJ ns nx n) (λ g=>(mU K (mJ ns nx n)).1.getD g 0) (λ j=>(mU K (mJ ns nx n)).2.getD j 0):=
 JH K _ (Ya ns nx n) (λ _ _ h=>rG.2 (λ c o s C=>(rG.1 h c o s C).symm)) (λ _ _ _ h k=>rG.2 (λ c o s C=>(rG.1 h c o s C).trans (rG.1 k c o s C)))
theorem E5{f:Nat->List UInt8}:∀n,(∀i,i<n->(f i).length=m)->(oS n f).length=n*m
 | 0,_=>by simp[oS]
 | n+1,h=>by
  rw[nW,LF,E5 n (λ i hi=>h i (by omega)),h n (by omega),OK]
theorem P2{f:Nat->List UInt8}:∀n i j,(∀i,i<n->(f i).length=m)->i<n->j<m->(oS n f).getD (i*m+j) 0=(f i).getD j 0
 | 0,i,j,_,hi,_=>by omega
 | n+1,i,j,h,hi,hj=>by
  have o:=E5 n (λ i hi=>h i (show i<n+1 by omega));rw[nW];by_cases e:i<n
  ·have:i*m+j<(oS n f).length:=by
    rw[o];have:=OC m (show i+1<=n from e);rw[OK]at this;omega
   rw[LG,LP this,<-LG];exact P2 n i j (λ i hi=>h i (by omega)) e hj
  ·have e:i=n:=by omega
   subst e;rw[LG,LY (by rw[o];omega),o,<-LG];congr 1;omega
def rS(ns:Nat->Nat)(k:Nat):Nat->Nat
 | 0=>0
 | c+1=>rS ns k c+1+ns c*(1+k)
theorem Ir{ns:Nat->Nat}{f:Nat->List UInt8}(h:∀c,(f c).length=1+ns c*(1+k)):∀n,(oS n f).length=rS ns k n
 | 0=>rfl
 | n+1=>by rw[nW,LF,Ir h n,h n,rS];omega
theorem V1{ns:Nat->Nat}{d:Nat}(h:c<=d):rS ns k c<=rS ns k d:=by
 induction d with
 | zero=>
  have:c=0:=by omega
  subst this;exact lR
 | succ e ih=>
  by_cases o:c=e+1
  ·subst o;exact lR
  ·have:=ih (by omega);rw[rS];omega
theorem Z6{ns:Nat->Nat}{f:Nat->List UInt8}(h:∀c,(f c).length=1+ns c*(1+k)):∀n c j,c<n->j<1+ns c*(1+k)->(oS n f).getD (rS ns k c+j) 0=(f c).getD j 0
 | 0,c,j,hc,_=>by omega
 | n+1,c,j,hc,hj=>by
  have o:=Ir h n;rw[nW];by_cases e:c<n
  ·have:rS ns k c+j<(oS n f).length:=by
    rw[o];have:=V1 (ns:=ns) (k:=k) (show c+1<=n from e);rw[rS]at this;omega
   rw[LG,LP this,<-LG];exact Z6 h n c j e hj
  ·have e:c=n:=by omega
   subst e;rw[LG,LY (by rw[o];omega),o,<-LG];congr 1;omega
theorem J5(h:A.length=n):(A++B).getD (n+i) 0=B.getD i 0:=by
 rw[LG,LY (by omega),<-LG,h];congr 1;omega
theorem uY(h:i<A.length):(A++B).getD i 0=A.getD i 0:=by
 rw[LG,LP h,<-LG]
theorem oV{x:Nat}(h:x<256):(LR x).toNat=x:=by
 rw[UInt8.toNat_ofNat'];exact OI h
structure KZ(s:tB)(R n k:Nat)(beh cls:Nat->Nat)(ns:Nat->Nat)(tk:Nat->Nat->Nat)(ld:Nat->Nat->Nat->Nat):Prop where
 ok:iF s=true
 fr:iR s=R
 fm:iM s=n
 fk:iK s=k
 fb:∀i,i<R->nC s i=beh i
 fc:∀b,b<256->tK s b=cls b
 fn:∀c,c<n->qZ s c=ns c
 ft:∀c st,c<n->st<ns c->jM s c st=tk c st
 fl:∀c st j,c<n->st<ns c->j<k->bt s (qC s c st+1+j)=ld c st j
 fz:s.size=262+R+rS ns k n
theorem Ek(aX:List ((Nat->Bool)×Int×Int))(n K:Nat)(bG ns:Nat->Nat)(tk:Nat->Nat->Nat)(nx:Nat->Nat->Nat->Int)
  (eL:1<=aX.length) (eM:aX.length<=8) (hE:1<=n) (hF:n<=4) (eX:0<K) (hK:K<=256) (bO:∀i,i<aX.length->tG aX i<=1+n) (eO:∀b,b<256->bG b<K) (aL:∀c,c<n->1<=ns c/\ns c<=100) (aO:∀c st,c<n->st<ns c->tk c st<=aX.length)
  (hB:∀c st g,c<n->st<ns c->g<K->nx c st g= -1\/(0<=nx c st g/\nx c st g<(ns c:Int))):
  KZ ⟨(Jx aX n K bG ns tk nx).toArray⟩ aX.length n (mU K (mJ ns nx n)).2.length (tG aX) (λ b=>(mU K (mJ ns nx n)).1.getD (bG b) 0) ns tk (λ c st j=>H7 (nx c st ((mU K (mJ ns nx n)).2.getD j 0))):=by
 have F:=Jl K ns nx n;obtain⟨fi,cN⟩:∃fi,fi=(mU K (mJ ns nx n)).2:=⟨_,rfl⟩
 obtain⟨cs,cF⟩:∃cs,cs=(mU K (mJ ns nx n)).1:=⟨_,rfl⟩
 have hL:Jx aX n K bG ns tk nx=(sZ aX++oS aX.length (λ k=>[LR (tG aX k)])++[LR n,LR (fi.length-1)]++oS 256 (λ b=>[LR (cs.getD (bG b) 0)]))++oS n (λ c=>[LR (ns c)]++oS (ns c) (S8 tk nx fi c)):=by
  rw[cN,cF];rfl
 rw[hL];rw[<-cN,<-cF]at F ⊢;clear hL cN cF;have gL:=F.pos eX;have hA:=F.le;obtain⟨R,hR⟩:=xE (aX.length)
 rw[hR]at eL eM bO aO ⊢;obtain⟨k,hk⟩:=xE (fi.length)
 rw[hk]at F gL hA ⊢;have l1:(sZ aX).length=4:=rfl;have l2:(oS R (λ k=>[LR (tG aX k)])).length=R:=by have:=E5 (m:=1) (f:=λ k=>[LR (tG aX k)]) R (λ _ _=>rfl);omega
 have l4:(oS 256 (λ b=>[LR (cs.getD (bG b) 0)])).length=256:=by have:=E5 (m:=1) (f:=λ b=>[LR (cs.getD (bG b) 0)]) 256 (λ _ _=>rfl);omega
 have eS:∀c st,(S8 tk nx fi c st).length=1+k:=λ c st=>by
  unfold S8;rw[LF,E5 (m:=1) fi.length (λ _ _=>rfl),hk];simp
 have hc:∀c,([LR (ns c)]++oS (ns c) (S8 tk nx fi c)).length=1+ns c*(1+k):=λ c=>by
  rw[LF,E5 (ns c) (λ st _=>eS c st)];simp
 have lH:(sZ aX++oS R (λ k=>[LR (tG aX k)])++[LR n,LR (k-1)]++oS 256 (λ b=>[LR (cs.getD (bG b) 0)])).length=262+R:=by
  simp only[LF,l1,l2,l4,MD,NQ];omega
 obtain⟨s,hs⟩:∃s:tB,s=⟨((sZ aX++oS R (λ k=>[LR (tG aX k)])++[LR n,LR (k-1)]++oS 256 (λ b=>[LR (cs.getD (bG b) 0)]))++oS n (λ c=>[LR (ns c)]++oS (ns c) (S8 tk nx fi c))).toArray⟩:=⟨_,rfl⟩
 rw[<-hs];have Q:∀i,bt s i=(((sZ aX++oS R (λ k=>[LR (tG aX k)])++[LR n,LR (k-1)]++oS 256 (λ b=>[LR (cs.getD (bG b) 0)]))++oS n (λ c=>[LR (ns c)]++oS (ns c) (S8 tk nx fi c))).getD i 0).toNat:=λ i=>by
  rw[hs];rfl
 have J:s.size=262+R+rS ns k n:=by
  rw[hs];show(List.toArray _).size=_;rw[List.size_toArray,LF,lH,Ir hc]
 have b0:bt s 0=83/\bt s 1=84/\bt s 2=1/\bt s 3=R:=by
  refine⟨?_,?_,?_,?_⟩
  all_goals
   rw[Q];rw[uY (by rw[lH];omega),uY (by simp only[LF,l1,l2,MD,NQ];omega),uY (by simp only[LF,l1,l2];omega),uY (by rw[l1];omega)]
  ·rfl
  ·rfl
  ·rfl
  ·show(LR aX.length).toNat=R;rw[hR];exact oV (by omega)
 have U:iR s=R:=b0.2.2.2;have cP:∀i,i<R->bt s (4+i)=tG aX i:=λ i hi=>by
  rw[Q,uY (by rw[lH];omega),uY (by simp only[LF,l1,l2,MD,NQ];omega),uY (by simp only[LF,l1,l2];omega),J5 l1];have:=P2 (m:=1) (f:=λ k=>[LR (tG aX k)]) R i 0 (λ _ _=>rfl) hi (by omega);rw[OM,MT]at this;rw[this];show(LR (tG aX i)).toNat=_;exact oV (by have:=bO i hi;omega)
 have X:(sZ aX++oS R (λ k=>[LR (tG aX k)])).length=4+R:=by rw[LF,l1,l2]
 have bM:bt s (4+R)=n:=by
  rw[Q,uY (by rw[lH];omega),uY (by rw[LF,X];simp)];have:=J5 (i:=0) (B:= [LR n,LR (k-1)]) X;rw[MT]at this;rw[this];exact oV (by omega)
 have bK:bt s (5+R)=k-1:=by
  rw[Q,uY (by rw[lH];omega),uY (by rw[LF,X];simp;omega)];have:=J5 (i:=1) (B:= [LR n,LR (k-1)]) X;rw[show 5+R=4+R+1 by omega,this];exact oV (by omega)
 have eT:(sZ aX++oS R (λ k=>[LR (tG aX k)])++[LR n,LR (k-1)]).length=6+R:=by rw[LF,X];simp;omega
 have bC:∀b,b<256->bt s (6+R+b)=cs.getD (bG b) 0:=λ b hb=>by
  rw[Q,uY (by rw[lH];omega),J5 eT];have:=P2 (m:=1) (f:=λ b=>[LR (cs.getD (bG b) 0)]) 256 b 0 (λ _ _=>rfl) hb (by omega);rw[OM,MT]at this;rw[this];show(LR (cs.getD (bG b) 0)).toNat=_;exact oV (by have:=F.lt (bG b) (eO b hb);omega)
 have bT:∀c j,c<n->j<1+ns c*(1+k)->bt s (262+R+(rS ns k c+j))=(([LR (ns c)]++oS (ns c) (S8 tk nx fi c)).getD j 0).toNat:=λ c j C I=>by
  rw[Q,J5 lH,Z6 hc n c j C I]
 have bN:∀c,c<n->bt s (262+R+rS ns k c)=ns c:=λ c C=>by
  have:=bT c 0 C (by omega);rw[MT]at this;rw[this];exact oV (by have:=(aL c C).2;omega)
 have bS:∀c st j,c<n->st<ns c->j<1+k->bt s (262+R+rS ns k c+1+st*(1+k)+j)=((S8 tk nx fi c st).getD j 0).toNat:=λ c st j C o I=>by
  have hD:st*(1+k)+j<ns c*(1+k):=by
   have:=OC (1+k) (show st+1<=ns c from o);rw[OK]at this;omega
  have:=bT c (1+(st*(1+k)+j)) C (by omega);rw[show 262+R+rS ns k c+1+st*(1+k)+j=262+R+(rS ns k c+(1+(st*(1+k)+j))) by omega,this,J5 (by rfl),P2 (ns c) st j (λ st _=>eS c st) o I]
 have aW:∀c st,c<n->st<ns c->bt s (262+R+rS ns k c+1+st*(1+k))=tk c st:=λ c st C o=>by
  have:=bS c st 0 C o (by omega);rw[MT]at this;rw[this];show(LR (tk c st)).toNat=_;exact oV (by have:=aO c st C o;omega)
 have aT:∀c st j,c<n->st<ns c->j<k->bt s (262+R+rS ns k c+1+st*(1+k)+(j+1))=H7 (nx c st (fi.getD j 0)):=λ c st j C o I=>by
  have:=bS c st (j+1) C o (by omega);rw[this];unfold S8;rw[Nat.add_comm j 1,J5 (by rfl)];have:=P2 (m:=1) (f:=λ i=>[LR (H7 (nx c st (fi.getD i 0)))]) fi.length j 0 (λ _ _=>rfl) (by omega) (by omega);rw[OM,MT]at this;rw[this];show(LR (H7 (nx c st (fi.getD j 0)))).toNat=_;refine oV ?_;unfold H7;split
  ·omega
  ·exact Nat.mod_lt _ (by omega)
 have aR:∀c st j,c<n->st<ns c->j<k->H7 (nx c st (fi.getD j 0))<ns c\/H7 (nx c st (fi.getD j 0))=255:=λ c st j C o I=>by
  unfold H7;have hC:=(aL c C).2;rcases hB c st (fi.getD j 0) C o (F.fi1 j I).1 with e|e
  ·rw[aB e];exact .inr rfl
  ·rw[aA (by omega)];left;rw[OI (by omega)];omega
 have eN:iM s=n:=by unfold iM;rw[U];exact bM
 have Z:iK s=k:=by unfold iK;rw[U,bK];omega
 have Y:∀c,c<=n->pE s c=262+R+rS ns k c/\(c<n->rX s R k (pE s c)=true):=by
  intro c
  induction c with
  | zero=>
   intro _;have e0:pE s 0=262+R+rS ns k 0:=by show 262+iR s=262+R+0;omega
   refine⟨e0,λ D=>?_⟩;rw[e0];have V:=V1 (ns:=ns) (k:=k) (show 0+1<=n from D);rw[rS]at V;rw[nJ,bN 0 D,J];have:=aL 0 D;refine⟨by omega,by omega,by omega,by omega,λ st o=>?_⟩;rw[qJ];refine⟨by rw[aW 0 st D o];exact aO 0 st D o,λ j I=>?_⟩;rw[aT 0 st j D o I];exact aR 0 st j D o I
  | succ d ih=>
   intro hd;obtain⟨h1,h2⟩:=ih (by omega);have h2:=h2 (by omega);have e1:pE s (d+1)=262+R+rS ns k (d+1):=by
    show tZ s (iR s) (iK s) (pE s d)=_;rw[U,Z,(Ed h2).2,h1,bN d (by omega),rS];omega
   refine⟨e1,λ D=>?_⟩;rw[e1];have V:=V1 (ns:=ns) (k:=k) (show d+1+1<=n from D);rw[rS]at V;rw[nJ,bN (d+1) D,J];have:=aL (d+1) D;refine⟨by omega,by omega,by omega,by omega,λ st o=>?_⟩;rw[qJ];refine⟨by rw[aW (d+1) st D o];exact aO (d+1) st D o,λ j I=>?_⟩;rw[aT (d+1) st j D o I];exact aR (d+1) st j D o I
 have eR:∀c st,c<n->qC s c st=262+R+rS ns k c+1+st*(1+k):=λ c st C=>by
  unfold qC;rw[(Y c (by omega)).1,Z]
 refine⟨?_,U,eN,Z,cP,λ b hb=>by unfold tK;rw[U];exact bC b hb,λ c C=>by unfold qZ;rw[(Y c (by omega)).1];exact bN c C,λ c st C o=>by unfold jM;rw[eR c st C];exact aW c st C o,λ c st j C o I=>?_,J⟩
 ·rw[mM,pJ];unfold xJ zO yH;rw[U,eN,Z];refine⟨⟨by omega,⟨b0.1,b0.2.1,b0.2.2.1⟩,eL,eM⟩,?_,?_,?_,λ c C=>(Y c (by omega)).2 C,by rw[(Y n lR).1,J]⟩
  ·rw[NY,aE];refine⟨oC (by omega) (λ j I=>?_),by omega⟩;have:j=0:=by omega
   subst this;rw[MT,bM];omega
  ·rw[NY];refine⟨oC (by omega) (λ j I=>?_),oC (by omega) (λ j I=>?_)⟩
   ·rw[cP j I];have:=bO j I;omega
   ·have:=mT s (5+R+j);omega
  ·refine oC (by omega) (λ j I=>?_);rw[bC j I];have:=F.lt (bG j) (eO j I);omega
 ·rw[eR c st C,show 262+R+rS ns k c+1+st*(1+k)+1+j=262+R+rS ns k c+1+st*(1+k)+(j+1) by omega];exact aT c st j C o I
open Go.Proofs.YtgjgjgihceijnaaGreat (rQ zD vC pP pC)
theorem Ii(f:Nat->Bool):∀k c,c<=vP f k c/\vP f k c<=max c k/\∀j,j<k->f j=true->j+1<=vP f k c
 | 0,c=>⟨lR,by rw[vP];omega,λ j C=>by omega⟩
 | k+1,c=>by
  obtain⟨D,I,F⟩:=Ii f k c;rw[vP];split
  ·rename_i h;exact⟨by omega,by omega,λ j C _=>by omega⟩
  ·rename_i h;refine⟨D,by omega,λ j C o=>?_⟩;by_cases e:j=k
   ·subst e;apply LQ;intro J;exact h ⟨o,by omega⟩
   ·exact F j (by omega) o
theorem EF(x:(Nat->Bool)×Int×Int)(c:Nat):c<=N2 x c/\(x.2.1<=5->N2 x c<=max c 4)/\x.2.1<=1+(N2 x c:Int)/\∀j,j<4->x.1 j=true->j+1<=N2 x c:=by
 obtain⟨C,D,o⟩:=Ii x.1 4 c;unfold N2;split
 ·exact⟨by omega,λ h=>by omega,by omega,λ j I F=>by have:=o j I F;omega⟩
 ·exact⟨C,λ _=>D,by omega,o⟩
theorem O4:∀(l:List ((Nat->Bool)×Int×Int)) (c:Nat),c<=iP l c/\((∀x∈l,x.2.1<=5)->iP l c<=max c 4)/\∀x∈l,x.2.1<=1+(iP l c:Int)/\∀j,j<4->x.1 j=true->j+1<=iP l c
 | [],c=>⟨lR,λ _=>by rw[iP];omega,λ x J=>absurd J LM⟩
 | x::l,c=>by
  obtain⟨V,C,X,D⟩:=EF x c;obtain⟨Y,Q,U⟩:=O4 l (N2 x c);rw[iP];refine⟨by omega,λ h=>?_,λ y o=>?_⟩
  ·have:=C (h x LH);have:=Q (λ y o=>h y (LJ _ o));omega
  ·rcases MG.1 o with e|e
   ·rw[e];exact⟨by omega,λ j I F=>by have:=D j I F;omega⟩
   ·exact U y e
theorem Fs(cs:Nat->Option (List (Nat×List Int))):∀(d c:Nat)(aS:List (List (Nat×List Int))),(∀ls,xT cs d c aS=some ls->∃L,ls=aS++L/\L.length=d/\∀i,i<d->cs (c+i)=some (L.getD i []))/\(xT cs d c aS=none->∃i,i<d/\cs (c+i)=none)
 | 0,c,aS=>⟨λ ls h=>by rw[xT]at h;injection h with h;exact⟨[],by rw[h,MB],rfl,λ i hi=>by omega⟩,λ h=>by rw[xT]at h;cases h⟩
 | d+1,c,aS=>by
  cases e:cs c with
  | none=>
   refine⟨λ ls h=>?_,λ _=>⟨0,by omega,by rw[MT];exact e⟩⟩;rw[xT,e]at h;cases h
  | some x=>
   obtain⟨D,F⟩:=Fs cs d (c+1) (aS++[x]);refine⟨λ ls h=>?_,λ h=>?_⟩
   ·rw[xT,e]at h;obtain⟨L,a1,o,C⟩:=D ls h;refine⟨x::L,by rw[a1,LS];rfl,by simp[o],λ i hi=>?_⟩
    cases i with
    | zero=>rw[MT];exact e
    | succ j=>
     have:=C j (by omega);rw[show c+(j+1)=c+1+j by omega,this]
     rfl
   ·rw[xT,e]at h;obtain⟨i,a1,o⟩:=F h;exact⟨i+1,by omega,by rw[show c+(i+1)=c+1+i by omega];exact o⟩
def gU(l:List gX):Nat:=iP (fW jX l).aX 1
theorem vZ(l:List gX)(Y:∀x∈l,tD x)(hn:mW l<=10):1<=gU l/\gU l<=4/\(∀x∈l,x.2.1<=1+(gU l:Int))/\∀x∈l,∀c,x.1 c=true->c<gU l:=by
 obtain⟨Z,h2,V⟩:=O4 (fW jX l).aX 1;have F:=C6 l jX CE Y (by show 0+mW l<=10;omega);have I:=(Jb l hn).2;have o:∀x∈l,∃y∈(fW jX l).aX,(y.1,y.2.1)=(x.1,x.2.1):=λ x C=>by
  have:(x.1,x.2.1)∈l.map (λ x=>(x.1,x.2.1)):=LZ.2 ⟨x,C,rfl⟩;rw[<-I,LZ]at this;exact this
 refine⟨Z,?_,λ x C=>?_,λ x C c D=>?_⟩
 ·have:=h2 (λ x C=>(F.be x C).2);unfold gU;omega
 ·obtain⟨y,J,e⟩:=o x C;injection e with Q U;have:=(V y J).1;rw[U]at this;exact this
 ·obtain⟨y,J,e⟩:=o x C;injection e with Q U;have h4:c<4:=by
   apply LQ;intro X;have:=(Y x C).c4 c (by omega);rw[this]at D;cases D
  have:=(V y J).2 c h4 (by rw[Q];exact D);unfold gU;omega
structure DL(l:List gX)(ls:List (List (Nat×List Int))):Prop where
 len:ls.length=gU l
 tab:∀c,c<gU l->IJ l c (ls.getD c [])
theorem Fz{t:tB}(h:kB t=0){l:List gX}(J:vE t=some l):
  (∀ls,xT (pP (iB t).aV (iB t).aX (qF (iB t).aW).2) (iP (iB t).aX 1) 0 []=some ls->DL l ls)/\
  (xT (pP (iB t).aV (iB t).aX (qF (iB t).aW).2) (iP (iB t).aX 1) 0 []=none->∃c,c<gU l/\E0 l c):=by
 obtain⟨hs,l',o,I,V,X,Y⟩:=R3 h;rw[J]at o;injection o with o;subst o;have D:=(wL J).1;have hm:=vZ l D I;have Z:(fW jX l).aW=pY l:=by rw[vU];rfl
 rw[V,X,Y,Z];obtain⟨a1,Q⟩:=Fs (pP (fW jX l).aV (fW jX l).aX (qF (pY l)).2) (iP (fW jX l).aX 1) 0 [];refine⟨λ ls C=>?_,λ C=>?_⟩
 ·obtain⟨L,F,b2,U⟩:=a1 ls C;rw[OL]at F;subst F;refine⟨b2,λ c hc=>?_⟩;have:=U c hc;rw[MJ]at this;exact(Gd l D I c (by omega)).1 _ this
 ·obtain⟨c,F,b2⟩:=Q C;rw[MJ]at b2;exact⟨c,F,(Gd l D I c (by show c<4;have:c<gU l:=F;omega)).2 b2⟩
theorem EU(l:List gX):0<(lJ l).length/\(lJ l).length<=256:=by
 obtain⟨o,C,_⟩:=Cm (pY l);exact⟨o,C⟩
theorem k8{l:List gX}(h:DL l ls)(Y:l.length<=8)(Z:gU l<=4):Aw (lJ l).length ls:=by
 have o:∀x∈ls,∃c,c<gU l/\x=ls.getD c []:=λ x D=>by
  obtain⟨c,C,e⟩:=NK D;exact⟨c,by rw[<-h.len];exact C,by rw[LG,LD C,<-e];rfl⟩
 refine⟨by rw[h.len];omega,λ x D=>?_,λ x D z F=>?_,λ x D z F=>?_,λ x D z F y X=>?_⟩
 ·obtain⟨c,C,rfl⟩:=o x D;have:=(h.tab c C).few;omega
 ·obtain⟨c,C,rfl⟩:=o x D;have:=(h.tab c C).rul z F;omega
 ·obtain⟨c,C,rfl⟩:=o x D;exact(h.tab c C).len z F
 ·obtain⟨c,C,rfl⟩:=o x D;have J:=h.tab c C;obtain⟨s,Q,e⟩:=NK F;obtain⟨g,hg,U⟩:=NK X;have I:g<(lJ l).length:=by rw[<-J.len z F];exact hg
  have:=J.cn.au.rng s g Q I;have V:((ls.getD c []).getD s (0,[])).2.getD g 0=y:=by
   rw[show(ls.getD c []).getD s (0,[])=z by rw[LG,LD Q,<-e];rfl];rw[LG,LD hg,<-U];rfl
  simp only[V]at this;have:=J.few;omega
theorem J2(t:tB):(kB t≠0/\pC t=([],kB t))\/(kB t=0/\∃l,vE t=some l/\mW l<=10/\
  ((pC t=([],4)/\∃c,c<gU l/\E0 l c)\/
   ∃ls,DL l ls/\pC t=(Jx (fW jX l).aX (gU l) (lJ l).length (De l) (S7 ls) (Yv ls) (V0 ls),0))):=by
 by_cases h:kB t=0
 ·right;obtain⟨Z,l,C,V,I,Y,J⟩:=R3 h;have Q:(fW jX l).aW=pY l:=by rw[vU];rfl
  refine⟨h,l,C,V,?_⟩;obtain⟨a1,F⟩:=Fz h C;have o:∀X,xT (pP (iB t).aV (iB t).aX (qF (iB t).aW).2) (iP (iB t).aX 1) 0 []=X->pC t=match X with
    | none=>([],4)
    | some ls=>(Jx (iB t).aX ls.length (qF (iB t).aW).2.length (λ b=>(qF (iB t).aW).1.getD b 0) (S7 ls) (Yv ls) (V0 ls),0):=λ X U=>by
   unfold Go.Proofs.YtgjgjgihceijnaaGreat.pC;rw[aB h,U]
   cases X<;>rfl
  cases e:xT (pP (iB t).aV (iB t).aX (qF (iB t).aW).2) (iP (iB t).aX 1) 0 []with
  | none=>exact .inl ⟨o _ e,F e⟩
  | some ls=>
   have D:=a1 ls e;refine .inr ⟨ls,D,?_⟩;rw[o _ e];simp only;rw[D.len,I,J,Q]
   rfl
 ·left;refine⟨h,?_⟩;unfold Go.Proofs.YtgjgjgihceijnaaGreat.pC;rw[aA h]
structure xA(l:List gX)(s:tB):Prop where
 ok:iF s=true
 sz:s.size<=120000
 fr:iR s=l.length
 fm:iM s=gU l
 fb:∀(i:Nat)(x:gX),l[i]?=some x->(nC s i:Int)=x.2.1
 cn:∀c,c<gU l->uE (qZ s c) 256 (jM s c) (λ p b=>oL (iA s c p b))
 z:∀c,c<gU l->jM s c 0=0
 tok:∀c,c<gU l->∀b u,lF 256 (b::u)->G9 l c (b::u) (jN (jM s c) (λ p b=>oL (iA s c p b)) 0 (b::u))
 apr:∀c,c<gU l->∃r,r<=qZ s c/\∀p q,p<qZ s c->q<qZ s c->p≠q->¬sY (jM s c) (λ p j=>oL (bt s (qC s c p+1+j))) (iK s) r p q
 cl:∃fb:Nat->Nat,(∀j,j<iK s->fb j<256/\tK s (fb j)=j)/\(∀b,b<256->fb (tK s b)<=b)/\(∀j j',j<j'->j'<iK s->fb j<fb j')
 ca:∀j j',j<iK s->j'<iK s->j≠j'->∃c p,c<gU l/\p<qZ s c/\bt s (qC s c p+1+j)≠bt s (qC s c p+1+j')
theorem qH{x:Int}(hn:n<=100)(h:x= -1\/(0<=x/\x<(n:Int))):oL (H7 x)=x:=by
 unfold oL H7;rcases h with h|h
 ·rw[aB h,aB rfl,h]
 ·have o:¬x= -1:=by omega
  have C:x.toNat<256:=by omega
  have D:¬x.toNat=255:=by omega
  rw[aA o,OI C,aA D];omega
theorem sY.letters{tk:Nat->Nat}{nx nx':Nat->Nat->Int}(C:oT n K nx)(h:∀g,g<K->∃j,j<k/\∀p,p<n->nx p g=nx' p j):∀(r s t:Nat),s<n->t<n->sY tk nx' k r s t->sY tk nx K r s t
 | 0,_,_,_,_,_=>trivial
 | r+1,s,t,hs,ht,hE=>by
  refine⟨sY.letters C h r s t hs ht hE.1,hE.2.1,λ g hg=>?_⟩;obtain⟨j,J,e⟩:=h g hg;obtain⟨D,F⟩:=hE.2.2 j J;rw[<-e s hs,<-e t ht]at D F;refine⟨D,λ o=>?_⟩;have Q:=C.rng s g hs hg;have U:=C.rng t g ht hg;have:nx t g≠ -1:=λ I=>o (D.2 I)
  exact sY.letters C h r _ _ (by omega) (by omega) (F o)
theorem Lo{l:List gX}(cN:∀x∈l,tD x)(h1:0<l.length)(h8:l.length<=8)(hn:mW l<=10)(h:DL l ls):
  xA l ⟨(Jx (fW jX l).aX (gU l) (lJ l).length (De l) (S7 ls) (Yv ls) (V0 ls)).toArray⟩:=by
 obtain⟨m1,m4,mb,_⟩:=vZ l cN hn;have aO:(fW jX l).aX.length=l.length:=by rw[qI];show 0+l.length=l.length;omega
 have eR:=(Jb l hn).2;have Z:=s7 (pY l);obtain⟨lo,cP,bK,eL⟩:=Z.lo;have hK:=EU l;have aT:∀(i:Nat)(x:gX),l[i]?=some x->(tG (fW jX l).aX i:Int)=x.2.1:=λ i x hx=>by
  have hi:i<(fW jX l).aX.length:=by rw[aO];exact(LO.1 hx).1
  have e:=congrArg (λ m=>m[i]?) eR;simp only[MF,hx,LD hi,NR]at e;injection e with e;injection e with _ e2;unfold tG;rw[LG,MF,LD hi];simp only[NR,OJ];rw[e2];have:=(cN x (MA hx)).b0;omega
 have Y:∀c st g,c<gU l->st<S7 ls c->g<(lJ l).length->V0 ls c st g= -1\/(0<=V0 ls c st g/\V0 ls c st g<(S7 ls c:Int)):=λ c st g o F hg=>(h.tab c o).cn.au.rng st g F hg
 have J:∀c,c<gU l->1<=S7 ls c/\S7 ls c<=100:=λ c o=>⟨(h.tab c o).cn.au.pos,(h.tab c o).few⟩
 have I:=Ek (fW jX l).aX (gU l) (lJ l).length (De l) (S7 ls) (Yv ls) (V0 ls) (by omega) (by omega) m1 m4 hK.1 hK.2 (λ i hi=>by
   have bS:i<l.length:=by omega
   have e:=aT i l[i] (LD bS);have:=mb l[i] (NE bS);omega) Z.lt J (λ c st o F=>by
   rw[aO];refine(h.tab c o).rul _ ?_;have F:st<(ls.getD c []).length:=F;show(ls.getD c []).getD st (0,[])∈ls.getD c [];generalize ls.getD c []=tab at*;rw[LG,LD F];exact NE F) Y
 have C:=Jl (lJ l).length (S7 ls) (V0 ls) (gU l);generalize (⟨(Jx (fW jX l).aX (gU l) (lJ l).length (De l) (S7 ls) (Yv ls) (V0 ls)).toArray⟩:tB)=s at*;generalize hk:(mU (lJ l).length (mJ (S7 ls) (V0 ls) (gU l))).2.length=k at*;generalize (mU (lJ l).length (mJ (S7 ls) (V0 ls) (gU l))).2=fi at*;generalize (mU (lJ l).length (mJ (S7 ls) (V0 ls) (gU l))).1=cs at*;have aR:∀c st g,c<gU l->st<S7 ls c->g<(lJ l).length->V0 ls c st (fi.getD (cs.getD g 0) 0)=V0 ls c st g:=λ c st g o F hg=>by
  have U:=C.lt g hg;obtain⟨f1,f2⟩:=C.fi1 _ U;have:=(C.eq _ g f1 hg).1 f2;exact rG.1 this c o st F
 have Q:∀b,b<256->De l b<(lJ l).length:=λ b V=>Z.lt b V
 have aL:∀c st b,c<gU l->st<S7 ls c->b<256->oL (iA s c st b)=V0 ls c st (De l b):=λ c st b o F V=>by
  unfold iA;rw[I.fc b V,I.fl c st _ o F (C.lt _ (Q b V)),aR c st _ o F (Q b V)];exact qH (J c o).2 (Y c st _ o F (Q b V))
 have bN:∀c,c<gU l->uE (S7 ls c) 256 (Yv ls c) (λ p b=>V0 ls c p (De l b)):=λ c o=>(h.tab c o).cn.bytes Q cP bK eL
 have aW:∀c,c<gU l->∀b u,lF 256 (b::u)->jN (jM s c) (λ p b=>oL (iA s c p b)) 0 (b::u)=jN (Yv ls c) (V0 ls c) 0 ((b::u).map (De l)):=λ c o b u eS=>by
  rw[<-C4];exact(zE (bN c o).au (λ p D=>(I.ft c p o D).symm) (λ p b D V=>(aL c p b o D V).symm) (b::u) 0 (J c o).1 eS).symm
 refine⟨I.ok,?_,by rw[I.fr,aO],I.fm,λ i x hx=>?_,λ c o=>?_,λ c o=>?_,λ c o b u bT=>?_,λ c o=>?_,?_,λ j j' U X bC=>?_⟩
 ·rw[I.fz,aO];have:∀d,d<=gU l->rS (S7 ls) k d<=d*25801:=by
   intro d
   induction d with
   | zero=>intro _;exact zL
   | succ e ih=>
    intro he;have h1:=ih (by omega);have h2:=Nat.mul_le_mul (J e (by omega)).2 (show 1+k<=257 by have:=C.le;omega);rw[rS,OK];omega
  have h2:=this (gU l) lR;have h3:=OC 25801 m4;omega
 ·rw[I.fb i (by rw[aO];exact(LO.1 hx).1)];exact aT i x hx
 ·rw[I.fn c o];exact(bN c o).congr (λ p D=>(I.ft c p o D).symm) (λ p b D V=>(aL c p b o D V).symm)
 ·rw[I.ft c 0 o (J c o).1];exact(h.tab c o).z
 ·rw[aW c o b u bT];exact(h.tab c o).tok b u bT
 ·obtain⟨r,hr,eM⟩:=(h.tab c o).apr;rw[I.fn c o];refine⟨r,hr,λ p q D hq bC hE=>eM p q D hq bC ?_⟩;have bM:=(h.tab c o).cn;refine sY.letters (nx':=λ p j=>V0 ls c p (fi.getD j 0)) (k:=k) bM.au (λ g hg=>⟨cs.getD g 0,C.lt g hg,λ p D=>(aR c p g o D hg).symm⟩) r p q D hq ?_;rw[I.fk]at hE;have eN:oT (S7 ls c) k (λ p j=>oL (bt s (qC s c p+1+j))):=⟨(J c o).1,λ p j D U=>by
   rw[I.fl c p j o D U,qH (J c o).2 (Y c p _ o D (C.fi1 j U).1)];exact Y c p _ o D (C.fi1 j U).1⟩
  exact sY.congr eN (λ p D=>I.ft c p o D) (λ p j D U=>by rw[I.fl c p j o D U,qH (J c o).2 (Y c p _ o D (C.fi1 j U).1)]) r p q D hq hE
 ·refine⟨λ j=>lo (fi.getD j 0),λ j U=>?_,λ b V=>?_,λ j j' U X=>?_⟩
  ·rw[I.fk]at U;obtain⟨f1,f2⟩:=C.fi1 j U;obtain⟨g1,g2⟩:=cP _ f1;refine⟨g1,?_⟩;rw[I.fc _ g1];show cs.getD (De l (lo (fi.getD j 0))) 0=j;rw[show De l (lo (fi.getD j 0))=fi.getD j 0 from g2];exact f2
  ·rw[I.fc b V];have h1:=C.fi2 (De l b) (Q b V);have h2:=eL b V;have h3:lo (fi.getD (cs.getD (De l b) 0) 0)<=lo (De l b):=by
    by_cases e:fi.getD (cs.getD (De l b) 0) 0=De l b
    ·rw[e];exact lR
    ·exact NU (bK _ _ (by omega) (Q b V))
   exact NW h3 h2
  ·rw[I.fk]at X;exact bK _ _ (C.fi3 j j' U X) (C.fi1 j' X).1
 ·rw[I.fk]at U X;obtain⟨f1,f2⟩:=C.fi1 j U;obtain⟨f3,f4⟩:=C.fi1 j' X;have eO:¬mJ (S7 ls) (V0 ls) (gU l) (fi.getD j 0) (fi.getD j' 0)=true:=λ e=>by
   have:=(C.eq _ _ f1 f3).2 e;exact bC (f2.symm.trans (this.trans f4))
  apply LQ;intro bO;refine eO (rG.2 (λ c o p D=>?_));apply LQ;intro cF;refine bO ⟨c,p,o,by rw[I.fn c o];exact D,λ e=>cF ?_⟩;rw[I.fl c p j o D U,I.fl c p j' o D X]at e;have e:=congrArg oL e;rw[qH (J c o).2 (Y c p _ o D f1),qH (J c o).2 (Y c p _ o D f3)]at e;exact e
section
section
variable {n:Nat}{mk:Nat->Nat}{ld:Nat->Nat->Nat}
def oP(mk:Nat->Nat)(o:Nat->Nat->Nat)(K:Nat)(d:Nat->Nat->Bool)(i j:Nat):Bool:=
 decide (mk i≠mk j\/∃k,k<K/\((¬(o i k=255↔o j k=255))\/(o i k≠255/\d (o i k) (o j k)=true)))
end
end
structure RN where
 k:Nat
 l:List Nat
 f:Nat->Bool
def qU(L:Nat->List Nat->Prop):List Nat->List Nat->Prop
 | [],w=>w=[]
 | m::l,w=>∃u v,w=u++v/\L m u/\qU L l v
theorem qU.congr{L L':Nat->List Nat->Prop}:∀(l:List Nat)(w:List Nat),(∀m,m∈l->∀u,L m u↔L' m u)->(qU L l w↔qU L' l w)
 | [],w,_=>Iff.rfl
 | m::l,w,h=>by
  have D:=λ v=>qU.congr (L:=L) (L':=L') l v (λ x F=>h x (LJ _ F))
  constructor
  ·rintro⟨u,v,e,o,C⟩;exact⟨u,v,e,(h m LH u).1 o,(D v).1 C⟩
  ·rintro⟨u,v,e,o,C⟩;exact⟨u,v,e,(h m LH u).2 o,(D v).2 C⟩
theorem qU.app{L:Nat->List Nat->Prop}:∀(l C:List Nat)(w:List Nat),qU L (l++C) w↔∃u v,w=u++v/\qU L l u/\qU L C v
 | [],C,w=>by
  constructor
  ·intro h;exact⟨[],w,rfl,rfl,h⟩
  ·rintro⟨u,v,e,o,F⟩;have o:u=[]:=o;subst o;rw[e];exact F
 | m::l,C,w=>by
  constructor
  ·rintro⟨u,v,e,o,F⟩;obtain⟨D,v2,Q,I,U⟩:=(qU.app l C v).1 F;exact⟨u++D,v2,by rw[e,Q,LS],⟨u,D,rfl,o,I⟩,U⟩
  ·rintro⟨u,v,e,⟨V,D,J,o,F⟩,I⟩;exact⟨V,D++v,by rw[e,J,LS],o,(qU.app l C (D++v)).2 ⟨D,v,rfl,F,I⟩⟩
theorem uF.congr{L L':List Nat->Prop}(h:∀u,L u->L' u){w:List Nat}(o:uF L w):uF L' w:=by
 induction o with
 | one hw=>exact .one (h _ hw)
 | more hu _ ih=>exact .more (h _ hu) ih
def El(N:List RN):Nat->Nat->List Nat->Prop
 | 0,_,_=>False
 | f+1,n,w=>∃x,N[n]?=some x/\
  ((x.k=0/\∃b,w=[b]/\b<256/\x.f b=true)\/(x.k=1/\qU (El N f) x.l w)\/(x.k=2/\∃m,m∈x.l/\El N f m w)\/
   (x.k=3/\(w=[]\/∃m,m∈x.l/\uF (El N f m) w))\/(x.k=4/\(w=[]\/∃m,m∈x.l/\El N f m w)))
def gI(N:List RN):Prop:=∀(n:Nat)(x:RN),N[n]?=some x->∀m,m∈x.l->m<n
theorem M4{N:List RN}(J:gI N):∀(n f f':Nat),n<f->n<f'->∀w,El N f n w->El N f' n w:=by
 intro n
 induction n using MU with
 | ind n ih=>
  intro f f' V Q w h;obtain⟨f,rfl⟩:∃g,f=g+1:=⟨f-1,by omega⟩
  obtain⟨f',rfl⟩:∃g,f'=g+1:=⟨f'-1,by omega⟩
  obtain⟨x,I,h⟩:=h;have F:∀m,m∈x.l->∀u,El N f m u↔El N f' m u:=λ m C u=>by
   have:=J n x I m C;exact⟨ih m this f f' (by omega) (by omega) u,ih m this f' f (by omega) (by omega) u⟩
  refine⟨x,I,?_⟩;rcases h with h|⟨D,o⟩|⟨D,m,C,o⟩|⟨D,o⟩|⟨D,o⟩
  ·exact .inl h
  ·exact .inr (.inl ⟨D,(qU.congr x.l w F).1 o⟩)
  ·exact .inr (.inr (.inl ⟨D,m,C,(F m C w).1 o⟩))
  ·refine .inr (.inr (.inr (.inl ⟨D,?_⟩)));rcases o with o|⟨m,C,o⟩
   ·exact .inl o
   ·exact .inr ⟨m,C,o.congr (λ u U=>(F m C u).1 U)⟩
  ·refine .inr (.inr (.inr (.inr ⟨D,?_⟩)));rcases o with o|⟨m,C,o⟩
   ·exact .inl o
   ·exact .inr ⟨m,C,(F m C w).1 o⟩
theorem Zy{N M:List RN}(Q:gI N):∀(f n:Nat),n<N.length->∀w,El (N++M) f n w↔El N f n w:=by
 intro f
 induction f with
 | zero=>intro n _ w;exact Iff.rfl
 | succ f ih=>
  intro n U w;have I:(N++M)[n]?=N[n]? :=LP U;unfold El;rw[I];constructor
  ·rintro⟨x,I,h⟩;have F:∀m,m∈x.l->∀u,El (N++M) f m u↔El N f m u:=λ m C u=>ih m (by have:=Q n x I m C;omega) u
   refine⟨x,I,?_⟩;rcases h with h|⟨D,o⟩|⟨D,m,C,o⟩|⟨D,o⟩|⟨D,o⟩
   ·exact .inl h
   ·exact .inr (.inl ⟨D,(qU.congr x.l w F).1 o⟩)
   ·exact .inr (.inr (.inl ⟨D,m,C,(F m C w).1 o⟩))
   ·exact .inr (.inr (.inr (.inl ⟨D,o.imp id (λ⟨m,C,o⟩=>⟨m,C,o.congr (λ u J=>(F m C u).1 J)⟩)⟩)))
   ·exact .inr (.inr (.inr (.inr ⟨D,o.imp id (λ⟨m,C,o⟩=>⟨m,C,(F m C w).1 o⟩)⟩)))
  ·rintro⟨x,I,h⟩;have F:∀m,m∈x.l->∀u,El (N++M) f m u↔El N f m u:=λ m C u=>ih m (by have:=Q n x I m C;omega) u
   refine⟨x,I,?_⟩;rcases h with h|⟨D,o⟩|⟨D,m,C,o⟩|⟨D,o⟩|⟨D,o⟩
   ·exact .inl h
   ·exact .inr (.inl ⟨D,(qU.congr x.l w F).2 o⟩)
   ·exact .inr (.inr (.inl ⟨D,m,C,(F m C w).2 o⟩))
   ·exact .inr (.inr (.inr (.inl ⟨D,o.imp id (λ⟨m,C,o⟩=>⟨m,C,o.congr (λ u J=>(F m C u).2 J)⟩)⟩)))
   ·exact .inr (.inr (.inr (.inr ⟨D,o.imp id (λ⟨m,C,o⟩=>⟨m,C,(F m C w).2 o⟩)⟩)))
def WN(N:List RN)(n:Nat)(w:List Nat):Prop:=El N (n+1) n w
theorem I7{N:List RN}(J:gI N){n:Nat}{x:RN}(U:N[n]?=some x)(w:List Nat):WN N n w↔
  ((x.k=0/\∃b,w=[b]/\b<256/\x.f b=true)\/(x.k=1/\qU (WN N) x.l w)\/(x.k=2/\∃m,m∈x.l/\WN N m w)\/
   (x.k=3/\(w=[]\/∃m,m∈x.l/\uF (WN N m) w))\/(x.k=4/\(w=[]\/∃m,m∈x.l/\WN N m w))):=by
 have I:∀m,m∈x.l->∀u,El N n m u↔WN N m u:=λ m C u=>by
  have:=J n x U m C;exact⟨M4 J m n (m+1) this (by omega) u,M4 J m (m+1) n (by omega) this u⟩
 show El N (n+1) n w↔_;constructor
 ·rintro⟨V,F,h⟩;rw[U]at F;injection F with F;subst F;rcases h with h|⟨D,o⟩|⟨D,m,C,o⟩|⟨D,o⟩|⟨D,o⟩
  ·exact .inl h
  ·exact .inr (.inl ⟨D,(qU.congr x.l w I).1 o⟩)
  ·exact .inr (.inr (.inl ⟨D,m,C,(I m C w).1 o⟩))
  ·exact .inr (.inr (.inr (.inl ⟨D,o.imp id (λ⟨m,C,o⟩=>⟨m,C,o.congr (λ u Q=>(I m C u).1 Q)⟩)⟩)))
  ·exact .inr (.inr (.inr (.inr ⟨D,o.imp id (λ⟨m,C,o⟩=>⟨m,C,(I m C w).1 o⟩)⟩)))
 ·intro h;refine⟨x,U,?_⟩;rcases h with h|⟨D,o⟩|⟨D,m,C,o⟩|⟨D,o⟩|⟨D,o⟩
  ·exact .inl h
  ·exact .inr (.inl ⟨D,(qU.congr x.l w I).2 o⟩)
  ·exact .inr (.inr (.inl ⟨D,m,C,(I m C w).2 o⟩))
  ·exact .inr (.inr (.inr (.inl ⟨D,o.imp id (λ⟨m,C,o⟩=>⟨m,C,o.congr (λ u Q=>(I m C u).2 Q)⟩)⟩)))
  ·exact .inr (.inr (.inr (.inr ⟨D,o.imp id (λ⟨m,C,o⟩=>⟨m,C,(I m C w).2 o⟩)⟩)))
theorem DN{N M:List RN}(o:gI N){n:Nat}(hn:n<N.length)(w:List Nat):WN (N++M) n w↔WN N n w:=Zy o (n+1) n hn w
theorem gI.snoc{N:List RN}(D:gI N){x:RN}(I:∀m,m∈x.l->m<N.length):gI (N++[x]):=λ n y o m C=>by
 by_cases h:n<N.length
 ·rw[LP h]at o;exact D n y o m C
 ·have F:=(LO.1 o).1;rw[LF,LU]at F;have e:n=N.length:=by omega
  subst e;rw[LY lR,MY]at o;have e:=sJ o
  subst e;exact I m C
theorem mO{N:List RN}(x:RN):(N++[x])[N.length]?=some x:=by rw[LY lR,MY];rfl
def qX(N:List RN):Prop:=∀(n:Nat)(x:RN),N[n]?=some x->x.k<=4/\(x.k=3->∃m,x.l=[m])/\x.l.length<=200
theorem qX.snoc{N:List RN}(h:qX N){x:RN}(D:x.k<=4/\(x.k=3->∃m,x.l=[m])/\x.l.length<=200):qX (N++[x]):=λ n y o=>by
 by_cases e:n<N.length
 ·rw[LP e]at o;exact h n y o
 ·have C:=(LO.1 o).1;rw[LF,LU]at C;have e:n=N.length:=by omega
  subst e;rw[mO]at o;injection o with o;rw[<-o];exact D
def At(N:List RN):Nat->Nat->Bool
 | 0,_=>false
 | f+1,n=>match N[n]? with
  | none=>false
  | some x=>if x.k=0 then false else if x.k=3\/x.k=4 then true else if x.k=1 then x.l.all (At N f)else x.l.any (At N f)
theorem L9{L:Nat->List Nat->Prop}:∀(l:List Nat),qU L l []↔∀m,m∈l->L m []
 | []=>⟨λ _ m I=>absurd I LM,λ _=>rfl⟩
 | m::l=>by
  constructor
  ·rintro⟨u,v,e,D,F⟩ k o;have C:=List.append_eq_nil_iff.1 e.symm;rw[C.1]at D;rw[C.2]at F;rcases MG.1 o with q|q
   ·rw[q];exact D
   ·exact(L9 l).1 F k q
  ·intro h;exact⟨[],[],rfl,h m LH,(L9 l).2 (λ k o=>h k (LJ _ o))⟩
theorem Im{N:List RN}(I:qX N):∀(f n:Nat),At N f n=true↔El N f n []:=by
 intro f
 induction f with
 | zero=>intro n;exact⟨λ h=>(by cases h),λ h=>h.elim⟩
 | succ f ih=>
  intro n;unfold At El
  cases hx:N[n]? with
  | none=>exact⟨λ h=>(by cases h),λ⟨x,h,_⟩=>by cases h⟩
  | some x=>
   have Q:=(I n x hx).1;have F:x.l.all (At N f)=true↔qU (El N f) x.l []:=by
    rw[L9,MQ];exact⟨λ h m C=>(ih m).1 (h m C),λ h m C=>(ih m).2 (h m C)⟩
   have J:x.l.any (At N f)=true↔∃m,m∈x.l/\El N f m []:=by
    rw[NM];exact⟨λ⟨m,C,h⟩=>⟨m,C,(ih m).1 h⟩,λ⟨m,C,h⟩=>⟨m,C,(ih m).2 h⟩⟩
   show(if x.k=0 then false else if x.k=3\/x.k=4 then true else if x.k=1 then x.l.all (At N f)else x.l.any (At N f))=true↔_;have D:x.k=0\/x.k=1\/x.k=2\/x.k=3\/x.k=4:=by omega
   rcases D with e|e|e|e|e
   ·rw[aB e];refine⟨λ h=>(by cases h),?_⟩;rintro⟨y,o,h⟩;injection o with o;subst o;rcases h with⟨_,b,h,_⟩|⟨h,_⟩|⟨h,_⟩|⟨h,_⟩|⟨h,_⟩
    ·cases h
    all_goals omega
   ·rw[aA (by omega),aA (by omega),aB e,F];refine⟨λ h=>⟨x,rfl,.inr (.inl ⟨e,h⟩)⟩,?_⟩;rintro⟨y,o,h⟩;injection o with o;subst o;rcases h with⟨h,_⟩|⟨_,h⟩|⟨h,_⟩|⟨h,_⟩|⟨h,_⟩
    ·omega
    ·exact h
    all_goals omega
   ·rw[aA (by omega),aA (by omega),aA (by omega),J];refine⟨λ h=>⟨x,rfl,.inr (.inr (.inl ⟨e,h⟩))⟩,?_⟩;rintro⟨y,o,h⟩;injection o with o;subst o;rcases h with⟨h,_⟩|⟨h,_⟩|⟨_,h⟩|⟨h,_⟩|⟨h,_⟩
    ·omega
    ·omega
    ·exact h
    all_goals omega
   ·rw[aA (by omega),aB (by omega)];exact⟨λ _=>⟨x,rfl,.inr (.inr (.inr (.inl ⟨e,.inl rfl⟩)))⟩,λ _=>rfl⟩
   ·rw[aA (by omega),aB (by omega)];exact⟨λ _=>⟨x,rfl,.inr (.inr (.inr (.inr ⟨e,.inl rfl⟩)))⟩,λ _=>rfl⟩
def xG(N:List RN)(n:Nat):Bool:=At N (n+1) n
theorem N8{N:List RN}(o:qX N)(n:Nat):xG N n=true↔WN N n []:=Im o (n+1) n
theorem JI{N:List RN}(I:qX N)(F:gI N){n:Nat}{x:RN}(J:N[n]?=some x):
  xG N n=if x.k=0 then false else if x.k=3\/x.k=4 then true else if x.k=1 then x.l.all (xG N)else x.l.any (xG N):=by
 have D:∀m,m∈x.l->At N n m=xG N m:=λ m o=>by
  have C:=F n x J m o;rw[NH];unfold xG;rw[Im I,Im I];exact⟨M4 F m n (m+1) C (by omega) [],M4 F m (m+1) n (by omega) C []⟩
 have Q:x.l.all (At N n)=x.l.all (xG N):=by
  rw[NH,MQ,MQ];exact⟨λ h m o=>by rw[<-D m o];exact h m o,λ h m o=>by rw[D m o];exact h m o⟩
 have U:x.l.any (At N n)=x.l.any (xG N):=by
  rw[NH,NM,NM];exact⟨λ⟨m,o,h⟩=>⟨m,o,by rw[<-D m o];exact h⟩,λ⟨m,o,h⟩=>⟨m,o,by rw[D m o];exact h⟩⟩
 show At N (n+1) n=_;unfold At;rw[J];show(if x.k=0 then false else if x.k=3\/x.k=4 then true else if x.k=1 then x.l.all (At N n)else x.l.any (At N n))=_;rw[Q,U]
theorem CI(p:Nat->Bool)(l:List Nat){i m:Nat}(h:l[i]?=some m):(l.take (i+1)).all p=((l.take i).all p&&p m):=by
 rw[OG,h,List.all_append];simp
theorem CJ(p:Nat->Bool)(l:List Nat){i m:Nat}(h:l[i]?=some m):(l.take (i+1)).any p=((l.take i).any p||p m):=by
 rw[OG,h,List.any_append];simp
theorem vB{t:tB}{b:Int}(o:0<=b)(h:kU t b a=true):a<t.size:=by
 unfold kU at h;rw[aE]at h;apply LQ;intro C;rw[jW (by omega)]at h;omega
theorem IF{t:tB}(h:nT (gF t a)=true):a<t.size:=by
 apply LQ;intro o;rw[jW (by omega)]at h
 cases h
theorem Xg{t sp:tB}(h:kV (gF t a) sp=true):a<t.size:=by
 apply LQ;intro o;rw[jW (by omega)]at h
 cases h
def tA{α:Type}(t:tB)(ex:Nat->Option (α×Nat)):Prop:=∀a r a',ex a=some (r,a')->a<a'/\a'<=t.size
theorem JJ(t:tB):tA t (J3 t):=λ a r a' h=>by
 unfold J3 at h;split at h
 ·rename_i e;have:=vB (by omega) e;injection h with h;injection h with _ h;omega
 ·split at h
  ·rename_i e;have:=vB (by omega) e;injection h with h;injection h with _ h;omega
  ·split at h
   ·rename_i e;have:=IF e.1;injection h with h;injection h with _ h;omega
   ·cases h
theorem F9(t sp:tB):tA t (jK t sp):=λ a r a' h=>by
 unfold jK at h;split at h
 ·have:=JJ t _ _ _ h;omega
 ·split at h
  ·rename_i e;have:=Xg e;injection h with h;injection h with _ h;omega
  ·cases h
theorem F2(t:tB)(f:Nat->Bool):tA t (jQ t f):=λ a r a' h=>by
 unfold jQ at h
 cases e:jK t kJ a with
 | none=>rw[e]at h;cases h
 | some y=>
  obtain⟨x,a1⟩:=y;have C:=F9 _ _ _ _ _ e;rw[e]at h;simp only at h;split at h
  ·injection h with h;injection h with _ h;omega
  ·cases e2:jK t kJ (a1+1)with
   | none=>rw[e2]at h;cases h
   | some y2=>
    obtain⟨F,o⟩:=y2;have D:=F9 _ _ _ _ _ e2;rw[e2]at h;simp only at h;split at h
    ·cases h
    ·injection h with h;injection h with _ h;omega
theorem Sc(t:tB):∀(n:Nat)(f:Nat->Bool),tA t (lL t n f):=by
 intro n
 induction n with
 | zero=>intro f a r a' h;cases h
 | succ n ih=>
  intro f a r a' h;rw[lL]at h;split at h
  ·rename_i e;have:=vB (by omega) e;injection h with h;injection h with _ h;omega
  ·cases e:jQ t f a with
   | none=>rw[e]at h;cases h
   | some y=>
    obtain⟨x,a1⟩:=y;have o:=F2 _ _ _ _ _ e;rw[e]at h;have C:=ih _ _ _ _ h;omega
theorem Uj(t:tB):tA t (qD t):=λ a r a' h=>by
 unfold qD at h
 cases e:jQ t gK a with
 | none=>rw[e]at h;cases h
 | some y=>
  obtain⟨x,a1⟩:=y;have o:=F2 _ _ _ _ _ e;rw[e]at h;have C:=Sc _ _ _ _ _ _ h;omega
theorem JW(t:tB):tA t (L4 t):=λ a r a' h=>by
 unfold L4 at h;split at h
 ·cases e:qD t (a+1)with
  | none=>rw[e]at h;cases h
  | some y=>
   obtain⟨x,a1⟩:=y;have o:=Uj _ _ _ _ e;rw[e]at h;injection h with h;injection h with _ h;omega
 ·exact Uj _ _ _ _ h
theorem Bo(t:tB):tA t (jC t):=λ a r a' h=>by
 unfold jC at h;split at h
 ·have:=JW _ _ _ _ h;omega
 ·split at h
  ·rename_i e;have:=vB (by omega) e;injection h with h;injection h with _ h;omega
  ·cases e:jK t kK a with
   | none=>rw[e]at h;cases h
   | some y=>
    obtain⟨x,a1⟩:=y;have o:=F9 _ _ _ _ _ e;rw[e]at h;injection h with h;injection h with _ h;omega
theorem Ie{t:tB}{ex:Nat->Option (Rx×Nat)}(D:tA t ex):tA t (lZ t ex):=λ a r a' h=>by
 unfold lZ at h;split at h
 ·cases e:ex (a+1)with
  | none=>rw[e]at h;cases h
  | some y=>
   obtain⟨F,o⟩:=y;have C:=D _ _ _ e;rw[e]at h;simp only at h;split at h
   ·rename_i e;have:=vB (by omega) e;injection h with h;injection h with _ h;omega
   ·cases h
 ·cases e:jC t a with
  | none=>rw[e]at h;cases h
  | some y=>
   obtain⟨f,o⟩:=y;have C:=Bo _ _ _ _ e;rw[e]at h;injection h with h;injection h with _ h;omega
theorem wQ{t:tB}{ex:Nat->Option (Rx×Nat)}(D:tA t ex):tA t (iZ t ex):=λ a r a' h=>by
 unfold iZ at h
 cases e:lZ t ex a with
 | none=>rw[e]at h;cases h
 | some y=>
  obtain⟨I,C⟩:=y;have hg:=Ie D _ _ _ e;rw[e]at h;simp only at h;split at h
  ·injection h with h;injection h with _ h;omega
  ·rename_i o;have:C<t.size:=by
    apply LQ;intro F;rw[jW (by omega)]at o;exact o rfl
   injection h with h;injection h with _ h;omega
theorem Oh{t:tB}{ex:Nat->Option (Rx×Nat)}(C:tA t ex):∀(n:Nat)(r:Rx)(a:Nat)(r':Rx)(a':Nat),a<=t.size->lX t ex n r a=some (r',a')->a<=a'/\a'<=t.size:=by
 intro n
 induction n with
 | zero=>intro r a r' a' _ h;cases h
 | succ k ih=>
  intro r a r' a' F h;rw[lX]at h;split at h
  ·injection h with h;injection h with _ h;omega
  ·cases e:iZ t ex a with
   | none=>rw[e]at h;cases h
   | some y=>
    obtain⟨I,D⟩:=y;have o:=wQ C _ _ _ e;rw[e]at h;have:=ih _ _ _ _ o.2 h;omega
theorem Ia{t:tB}{ex:Nat->Option (Rx×Nat)}(o:tA t ex):tA t (vJ t ex):=λ a r a' h=>by
 unfold vJ at h
 cases e:iZ t ex a with
 | none=>rw[e]at h;cases h
 | some y=>
  obtain⟨F,D⟩:=y;have C:=wQ o _ _ _ e;rw[e]at h;have:=Oh o _ _ _ _ _ C.2 h;omega
theorem Le{t:tB}{ex:Nat->Option (Rx×Nat)}(C:tA t ex):∀(n:Nat)(r:Rx)(a:Nat)(r':Rx)(a':Nat),a<=t.size->kN t ex n r a=some (r',a')->a<=a'/\a'<=t.size:=by
 intro n
 induction n with
 | zero=>intro r a r' a' _ h;cases h
 | succ k ih=>
  intro r a r' a' F h;rw[kN]at h;split at h
  ·injection h with h;injection h with _ h;omega
  ·cases e:vJ t ex (a+1)with
   | none=>rw[e]at h;cases h
   | some y=>
    obtain⟨I,D⟩:=y;have o:=Ia C _ _ _ e;rw[e]at h;have:=ih _ _ _ _ o.2 h;omega
theorem xH(t:tB):∀f,tA t (kO t f):=by
 intro f
 induction f with
 | zero=>intro a r a' h;cases h
 | succ k ih=>
  intro a r a' h;rw[kO]at h
  cases e:vJ t (kO t k) a with
  | none=>rw[e]at h;cases h
  | some y=>
   obtain⟨D,C⟩:=y;have o:=Ia ih _ _ _ e;rw[e]at h;have:=Le ih _ _ _ _ _ o.2 h;omega
def uS(t:tB)(a:Nat):Bool:=decide (t.size<=a\/bt t a=41)
def qQ(t:tB)(ex:Nat->Option (Rx×Nat))(a:Nat):Option (Rx×Nat):=
 match ex a with
 | none=>none
 | some (r,a1)=>if uS t a1=true then some (r,a1)else none
theorem Un{t:tB}{ex:Nat->Option (Rx×Nat)}(o:tA t ex):tA t (qQ t ex):=λ a r a' h=>by
 unfold qQ at h
 cases e:ex a with
 | none=>rw[e]at h;cases h
 | some y=>
  obtain⟨F,C⟩:=y;have D:=o _ _ _ e;rw[e]at h;simp only at h;split at h
  ·injection h with h;injection h with _ h;omega
  ·cases h
theorem Vb(t:tB)(ex:Nat->Option (Rx×Nat))(a:Nat):lZ t (qQ t ex) a=lZ t ex a:=by
 unfold lZ;split
 ·unfold qQ
  cases e:ex (a+1)with
  | none=>rfl
  | some y=>
   obtain⟨r,a1⟩:=y;simp only;by_cases h:uS t a1=true
   ·rw[aB h]
   ·rw[aA h];have:¬kU t 41 a1=true:=λ o=>h (by
     have C:=vB (by omega) o;unfold kU at o;rw[aE,lK C]at o;unfold uS;rw[aE];omega)
    rw[aA this]
 ·rfl
def nU(B:Nat->List (List Nat))(N:List RN):List Nat->List (List Nat)
 | []=>[]
 | m::l=>(B m).map (·++l)++(if xG N m=true then nU B N l else [])
def vM(N:List RN)(c:Nat):Nat->Nat->List (List Nat)
 | 0,_=>[]
 | f+1,n=>match N[n]? with
  | none=>[]
  | some x=>if x.k=0 then(if x.f c=true then [[]]else [])
   else if x.k=1 then nU (vM N c f) N x.l
   else if x.k=2\/x.k=4 then x.l.flatMap (vM N c f)
   else match x.l with
    | []=>[]
    | m::_=>(vM N c f m).map (·++[n])
theorem Qy{L:List Nat->Prop}{z w:List Nat}(o:z=c::w)(h:uF L z):∃u v,w=u++v/\L (c::u)/\(v=[]\/uF L v):=by
 induction h with
 | one h=>subst o;exact⟨w,[],by simp,h,.inl rfl⟩
 | @more u v hu hv ih=>
  cases u with
  | nil=>exact ih o
  | cons a u=>
   injection o with C D;subst C;exact⟨u,v,D.symm,hu,.inr hv⟩
theorem AY{L:List Nat->Prop}{u v:List Nat}(h:L (c::u))(o:v=[]\/uF L v):uF L (c::(u++v)):=by
 rcases o with e|e
 ·rw[e,MB];exact .one h
 ·exact .more (u:=c::u) h e
theorem M0{L:Nat->List Nat->Prop}{w:List Nat}:qU L [n] w↔L n w:=by
 constructor
 ·rintro⟨u,v,e,C,o⟩;have o:v=[]:=o;rw[e,o,MB];exact C
 ·intro h;exact⟨w,[],by simp,h,rfl⟩
def Nz(N:List RN)(c:Nat)(B:Nat->List (List Nat))(n:Nat):Prop:=∀w,(∃y,y∈B n/\qU (WN N) y w)↔WN N n (c::w)
theorem Jh{N:List RN}(J:qX N){c:Nat}{B:Nat->List (List Nat)}:∀(l:List Nat),(∀m,m∈l->Nz N c B m)->∀w,(∃y,y∈nU B N l/\qU (WN N) y w)↔qU (WN N) l (c::w)
 | [],_,w=>by
  constructor
  ·rintro⟨y,o,_⟩;exact absurd o LM
  ·intro h;exact absurd (show c::w=[] from h) (by simp)
 | m::l,hB,w=>by
  have V:=Jh J l (λ k hk=>hB k (LJ _ hk)) w;have U:=hB m LH;constructor
  ·rintro⟨y,o,C⟩;rcases LN.1 o with h|h
   ·obtain⟨X,Q,rfl⟩:=LZ.1 h;obtain⟨u,v,e,D,F⟩:=(qU.app X l w).1 C;exact⟨c::u,v,by rw[e];rfl,(U u).1 ⟨X,Q,D⟩,F⟩
   ·by_cases I:xG N m=true
    ·rw[aB I]at h;exact⟨[],c::w,rfl,(N8 J m).1 I,V.1 ⟨y,h,C⟩⟩
    ·rw[aA I]at h;exact absurd h LM
  ·rintro⟨u,v,e,D,F⟩
   cases u with
   | nil=>
    have e:c::w=v:=e;obtain⟨y,o,C⟩:=V.2 (by rw[e];exact F);refine⟨y,LN.2 (.inr ?_),C⟩;rw[aB ((N8 J m).2 D)];exact o
   | cons a u=>
    injection e with Y Z;subst Y;obtain⟨y,o,C⟩:=(U u).2 D;exact⟨y++l,LN.2 (.inl (LZ.2 ⟨y,o,rfl⟩)),(qU.app y l w).2 ⟨u,v,Z,C,F⟩⟩
theorem DU{N:List RN}(hs:qX N)(Y:gI N){c:Nat}(hb:c<256):∀(f n:Nat),n<f->n<N.length->Nz N c (vM N c f) n:=by
 intro f
 induction f with
 | zero=>intro n h;omega
 | succ f ih=>
  intro n hn hN w;obtain⟨x,U⟩:∃x,N[n]?=some x:=⟨N[n],LD hN⟩
  have I:∀m,m∈x.l->Nz N c (vM N c f) m:=λ m C=>by
   have:=Y n x U m C;exact ih m (by omega) (by omega)
  rw[I7 Y U];have aL:=hs n x U;have e0:vM N c (f+1) n=if x.k=0 then(if x.f c=true then [[]]else [])
   else if x.k=1 then nU (vM N c f) N x.l
   else if x.k=2\/x.k=4 then x.l.flatMap (vM N c f)
   else match x.l with
    | []=>[]
    | m::_=>(vM N c f m).map (·++[n]):=by
   show(match N[n]? with|none=>_|some x=>_)=_;rw[U]
  rw[e0];have h5:x.k=0\/x.k=1\/x.k=2\/x.k=3\/x.k=4:=by omega
  rcases h5 with e|e|e|e|e
  ·rw[aB e];constructor
   ·rintro⟨y,o,h⟩;by_cases Z:x.f c=true
    ·rw[aB Z,LI]at o;subst o;have h:w=[]:=h;exact .inl ⟨e,c,by rw[h],hb,Z⟩
    ·rw[aA Z]at o;exact absurd o LM
   ·rintro(⟨_,b,F,V,h3⟩|⟨h,_⟩|⟨h,_⟩|⟨h,_⟩|⟨h,_⟩)
    ·injection F with F h4;subst F;exact⟨[],by rw[aB h3];exact LI.2 rfl,h4⟩
    all_goals omega
  ·rw[aA (by omega),aB e,Jh hs x.l I w];constructor
   ·intro h;exact .inr (.inl ⟨e,h⟩)
   ·rintro(⟨h,_⟩|⟨_,h⟩|⟨h,_⟩|⟨h,_⟩|⟨h,_⟩)
    ·omega
    ·exact h
    all_goals omega
  ·rw[aA (by omega),aA (by omega),aB (.inl e)];constructor
   ·rintro⟨y,o,h⟩;obtain⟨m,C,o⟩:=MM.1 o;exact .inr (.inr (.inl ⟨e,m,C,(I m C w).1 ⟨y,o,h⟩⟩))
   ·rintro(⟨h,_⟩|⟨h,_⟩|⟨_,m,C,h⟩|⟨h,_⟩|⟨h,_⟩)
    ·omega
    ·omega
    ·obtain⟨y,o,J⟩:=(I m C w).2 h;exact⟨y,MM.2 ⟨m,C,o⟩,J⟩
    all_goals omega
  ·obtain⟨m,hl⟩:=aL.2.1 e;rw[aA (by omega),aA (by omega),aA (by omega),hl];have C:m∈x.l:=by rw[hl];exact LI.2 rfl
   have D:∀v,WN N n v↔(v=[]\/uF (WN N m) v):=λ v=>by
    rw[I7 Y U];constructor
    ·rintro(⟨h,_⟩|⟨h,_⟩|⟨h,_⟩|⟨_,h⟩|⟨h,_⟩)
     ·omega
     ·omega
     ·omega
     ·rcases h with h|⟨k,Q,h⟩
      ·exact .inl h
      ·rw[hl,LI]at Q;subst Q;exact .inr h
     ·omega
    ·intro h;refine .inr (.inr (.inr (.inl ⟨e,?_⟩)));rcases h with h|h
     ·exact .inl h
     ·exact .inr ⟨m,C,h⟩
   simp only;constructor
   ·rintro⟨y,o,h⟩;obtain⟨y2,aO,rfl⟩:=LZ.1 o;obtain⟨u,v,X,F,V⟩:=(qU.app y2 [n] w).1 h;have hu:=(I m C u).1 ⟨y2,aO,F⟩;have hv:=(D v).1 (M0.1 V);refine .inr (.inr (.inr (.inl ⟨e,.inr ⟨m,LI.2 rfl,?_⟩⟩)));rw[X];exact AY hu hv
   ·rintro(⟨h,_⟩|⟨h,_⟩|⟨h,_⟩|⟨_,h⟩|⟨h,_⟩)
    ·omega
    ·omega
    ·omega
    ·rcases h with h|⟨k,Q,h⟩
     ·exact absurd h (by simp)
     ·rw[LI]at Q;subst Q;obtain⟨u,v,X,F,V⟩:=Qy rfl h;obtain⟨y,o,J⟩:=(I k C u).2 F;exact⟨y++[n],LZ.2 ⟨y,o,rfl⟩,(qU.app y [n] w).2 ⟨u,v,X,J,M0.2 ((D v).2 V)⟩⟩
    ·omega
  ·rw[aA (by omega),aA (by omega),aB (.inr e)];constructor
   ·rintro⟨y,o,h⟩;obtain⟨m,C,o⟩:=MM.1 o;exact .inr (.inr (.inr (.inr ⟨e,.inr ⟨m,C,(I m C w).1 ⟨y,o,h⟩⟩⟩)))
   ·rintro(⟨h,_⟩|⟨h,_⟩|⟨h,_⟩|⟨h,_⟩|⟨_,h⟩)
    ·omega
    ·omega
    ·omega
    ·omega
    ·rcases h with h|⟨m,C,h⟩
     ·exact absurd h (by simp)
     ·obtain⟨y,o,J⟩:=(I m C w).2 h;exact⟨y,MM.2 ⟨m,C,o⟩,J⟩
section
def bD(N:List RN)(c n:Nat):List (List Nat):=vM N c (n+1) n
def yN(P:Nat->List (List Nat)):List Nat->List (List Nat)
 | []=>[]
 | m::l=>(P m).map (·++l)++yN P l
def Mn(N:List RN):Nat->Nat->List (List Nat)
 | 0,_=>[]
 | f+1,n=>match N[n]? with
  | none=>[]
  | some x=>if x.k=0 then [[]]
   else if x.k=1 then yN (Mn N f) x.l
   else if x.k=2\/x.k=4 then x.l.flatMap (Mn N f)
   else match x.l with
    | []=>[]
    | m::_=>(Mn N f m).map (·++[n])
def pD(N:List RN)(n:Nat):List (List Nat):=Mn N (n+1) n
theorem tX{B B':Nat->List (List Nat)}{N N':List RN}:∀(l:List Nat),(∀m,m∈l->B m=B' m)->(∀m,m∈l->xG N m=xG N' m)->nU B N l=nU B' N' l
 | [],_,_=>rfl
 | m::l,h,k=>by
  unfold nU;rw[h m LH,k m LH,tX l (λ x o=>h x (LJ _ o)) (λ x o=>k x (LJ _ o))]
theorem zI{B B':Nat->List (List Nat)}:∀(l:List Nat),(∀m,m∈l->B m=B' m)->yN B l=yN B' l
 | [],_=>rfl
 | m::l,h=>by
  unfold yN;rw[h m LH,zI l (λ x o=>h x (LJ _ o))]
theorem uI{B B':Nat->List (List Nat)}:∀(l:List Nat),(∀m,m∈l->B m=B' m)->l.flatMap B=l.flatMap B'
 | [],_=>rfl
 | m::l,h=>by
  rw[NI,NI,h m LH,uI l (λ x o=>h x (LJ _ o))]
theorem l7{N M:List RN}(I:gI N):∀(f n:Nat),n<N.length->At (N++M) f n=At N f n:=by
 intro f
 induction f with
 | zero=>intro n _;rfl
 | succ f ih=>
  intro n J;unfold At;rw[LP J]
  cases hx:N[n]? with
  | none=>rfl
  | some x=>
   have C:∀m,m∈x.l->At (N++M) f m=At N f m:=λ m o=>ih m (by have:=I n x hx m o;omega)
   have D:x.l.all (At (N++M) f)=x.l.all (At N f):=by
    rw[NH,MQ,MQ];exact⟨λ h m o=>by rw[<-C m o];exact h m o,λ h m o=>by rw[C m o];exact h m o⟩
   have F:x.l.any (At (N++M) f)=x.l.any (At N f):=by
    rw[NH,NM,NM];exact⟨λ⟨m,o,h⟩=>⟨m,o,by rw[<-C m o];exact h⟩,λ⟨m,o,h⟩=>⟨m,o,by rw[C m o];exact h⟩⟩
   simp only[D,F]
theorem Ld{N M:List RN}(o:gI N){n:Nat}(hn:n<N.length):xG (N++M) n=xG N n:=l7 o (n+1) n hn
theorem Te{N N':List RN}(F:N[n]?=N'[n]?)(h:∀x,N[n]?=some x->∀m,m∈x.l->vM N c f m=vM N' c f' m/\xG N m=xG N' m):vM N c (f+1) n=vM N' c (f'+1) n:=by
 unfold vM;rw[<-F]
 cases e:N[n]? with
 | none=>rfl
 | some x=>
  have o:=λ m C=>(h x e m C).1
  have D:=λ m C=>(h x e m C).2
  simp only[tX x.l o D,uI x.l o]
  cases hl:x.l with
  | nil=>rfl
  | cons m l=>
   rw[hl]at o;simp only[o m LH]
theorem AU{N N':List RN}(C:N[n]?=N'[n]?)(h:∀x,N[n]?=some x->∀m,m∈x.l->Mn N f m=Mn N' f' m):Mn N (f+1) n=Mn N' (f'+1) n:=by
 unfold Mn;rw[<-C]
 cases e:N[n]? with
 | none=>rfl
 | some x=>
  have o:=h x e;simp only[zI x.l o,uI x.l o]
  cases hl:x.l with
  | nil=>rfl
  | cons m l=>
   rw[hl]at o;simp only[o m LH]
theorem Vd{N:List RN}(o:gI N){c:Nat}:∀(n f f':Nat),n<f->n<f'->vM N c f n=vM N c f' n:=by
 intro n
 induction n using MU with
 | ind n ih=>
  intro f f' I C;obtain⟨f,rfl⟩:∃g,f=g+1:=⟨f-1,by omega⟩
  obtain⟨f',rfl⟩:∃g,f'=g+1:=⟨f'-1,by omega⟩
  exact Te rfl (λ x F m D=>by
   have:=o n x F m D;exact⟨ih m this f f' (by omega) (by omega),rfl⟩)
theorem AT{N:List RN}(o:gI N):∀(n f f':Nat),n<f->n<f'->Mn N f n=Mn N f' n:=by
 intro n
 induction n using MU with
 | ind n ih=>
  intro f f' I C;obtain⟨f,rfl⟩:∃g,f=g+1:=⟨f-1,by omega⟩
  obtain⟨f',rfl⟩:∃g,f'=g+1:=⟨f'-1,by omega⟩
  exact AU rfl (λ x F m D=>by
   have:=o n x F m D;exact ih m this f f' (by omega) (by omega))
theorem Ve{N M:List RN}(o:gI N){c:Nat}:∀(f n:Nat),n<N.length->vM (N++M) c f n=vM N c f n:=by
 intro f
 induction f with
 | zero=>intro n _;rfl
 | succ f ih=>
  intro n F;have e:=LP (l₂:=M) F;exact Te e (λ x C m D=>by
   rw[e]at C;have:=o n x C m D;exact⟨ih m (by omega),Ld o (by omega)⟩)
theorem AV{N M:List RN}(C:gI N):∀(f n:Nat),n<N.length->Mn (N++M) f n=Mn N f n:=by
 intro f
 induction f with
 | zero=>intro n _;rfl
 | succ f ih=>
  intro n F;have e:=LP (l₂:=M) F;exact AU e (λ x o m D=>by
   rw[e]at o;have:=C n x o m D;exact ih m (by omega))
theorem E3{N M:List RN}(o:gI N){c n:Nat}(hn:n<N.length):bD (N++M) c n=bD N c n:=Ve o (n+1) n hn
theorem R2{N M:List RN}(o:gI N){n:Nat}(hn:n<N.length):pD (N++M) n=pD N n:=AV o (n+1) n hn
theorem M6{N:List RN}(C:gI N){c n:Nat}{x:RN}(D:N[n]?=some x):bD N c n=if x.k=0 then(if x.f c=true then [[]]else [])
   else if x.k=1 then nU (bD N c) N x.l
   else if x.k=2\/x.k=4 then x.l.flatMap (bD N c)
   else match x.l with
    | []=>[]
    | m::_=>(bD N c m).map (·++[n]):=by
 have o:∀m,m∈x.l->vM N c n m=bD N c m:=λ m F=>by
  have:=C n x D m F;exact Vd C m n (m+1) this (by omega)
 show vM N c (n+1) n=_;unfold vM;rw[D];simp only[tX (N:=N) (N':=N) x.l o (λ _ _=>rfl),uI x.l o]
 cases hl:x.l with
 | nil=>rfl
 | cons m l=>
  rw[hl]at o;simp only[o m LH]
theorem I1{N:List RN}(C:gI N){n:Nat}{x:RN}(D:N[n]?=some x):pD N n=if x.k=0 then [[]]
   else if x.k=1 then yN (pD N) x.l
   else if x.k=2\/x.k=4 then x.l.flatMap (pD N)
   else match x.l with
    | []=>[]
    | m::_=>(pD N m).map (·++[n]):=by
 have o:∀m,m∈x.l->Mn N n m=pD N m:=λ m F=>by
  have:=C n x D m F;exact AT C m n (m+1) this (by omega)
 show Mn N (n+1) n=_;unfold Mn;rw[D];simp only[zI x.l o,uI x.l o]
 cases hl:x.l with
 | nil=>rfl
 | cons m l=>
  rw[hl]at o;simp only[o m LH]
def zQ(l:List (List Nat))(k:Nat):Prop:=∃S:List (List Nat),S.length<=k/\∀y,y∈l->y∈S
theorem zQ.nil:zQ [] 0:=⟨[],lR,λ _ o=>o⟩
theorem zQ.map{l:List (List Nat)}(h:zQ l k)(g:List Nat->List Nat):zQ (l.map g) k:=by
 obtain⟨S,o,C⟩:=h;refine⟨S.map g,by rw[NC];exact o,λ y D=>?_⟩;obtain⟨z,F,rfl⟩:=LZ.1 D;exact LZ.2 ⟨z,C z F,rfl⟩
theorem zQ.app{l m:List (List Nat)}(h:zQ l k)(o:zQ m j):zQ (l++m) (k+j):=by
 obtain⟨S,I,C⟩:=h;obtain⟨T,J,D⟩:=o;refine⟨S++T,by rw[LF];omega,λ y F=>?_⟩;rcases LN.1 F with e|e
 ·exact LN.2 (.inl (C y e))
 ·exact LN.2 (.inr (D y e))
theorem zQ.sub{l m:List (List Nat)}(h:zQ l k)(D:∀y,y∈m->y∈l):zQ m k:=by
 obtain⟨S,o,C⟩:=h;exact⟨S,o,λ y F=>C y (D y F)⟩
inductive I6 (N:List RN) (n:Nat):Nat->Prop
 | refl:I6 N n n
 | step {m j:Nat}{x:RN}:I6 N n m->N[m]?=some x->j∈x.l->I6 N n j
theorem I6.trans{N:List RN}(h:I6 N n m)(o:I6 N m k):I6 N n k:=by
 induction o with
 | refl=>exact h
 | step _ e hj ih=>exact .step ih e hj
theorem I6.less{N M:List RN}(D:gI N){n m:Nat}(hn:n<N.length)(h:I6 (N++M) n m):m<N.length/\I6 N n m:=by
 induction h with
 | refl=>exact⟨hn,.refl⟩
 | step _ e hj ih=>
  obtain⟨o,C⟩:=ih;rw[LP o]at e;have:=D _ _ e _ hj;exact⟨by omega,.step C e hj⟩
theorem I6.new{N:List RN}(I:gI N){x:RN}(J:∀m,m∈x.l->m<N.length){m:Nat}(h:I6 (N++[x]) N.length m):m=N.length\/∃j,j∈x.l/\m<N.length/\I6 N j m:=by
 induction h with
 | refl=>exact .inl rfl
 | @step m k y _ e hk o=>
  right;rcases o with o|⟨j,C,D,F⟩
  ·rw[o,mO]at e;injection e with e;subst e;exact⟨k,hk,J k hk,.refl⟩
  ·rw[LP D]at e;have:=I _ _ e _ hk;exact⟨j,C,by omega,.step F e hk⟩
theorem I6.lt{N:List RN}(o:gI N){n m:Nat}(hn:n<N.length)(h:I6 N n m):m<N.length:=(I6.less (M:= []) o hn (by rw[MB];exact h)).1
def Tr(N:List RN)(n k:Nat):Prop:=zQ (pD N n) k/\∀m,I6 N n m->∀c,(bD N c m).length<=k
inductive Ze (N:List RN):List Nat->Nat->Prop
 | nil:Ze N [] 0
 | cons {n k j:Nat}{l:List Nat}:Tr N n k->Ze N l j->Ze N (n::l) (k+j)
theorem Tr.more{N:List RN}(h:Tr N n k)(o:gI N)(M:List RN)(hn:n<N.length):Tr (N++M) n k:=by
 refine⟨by rw[R2 o hn];exact h.1,λ m F c=>?_⟩;obtain⟨C,D⟩:=F.less o hn;rw[E3 o C];exact h.2 m D c
theorem Y0{N:List RN}(o:gI N){x:RN}(J:∀m,m∈x.l->m<N.length){k:Nat}(h:∀j,j∈x.l->∀m,I6 N j m->∀c,(bD N c m).length<=k)(C:∀c,(bD (N++[x]) c N.length).length<=k):
  ∀m,I6 (N++[x]) N.length m->∀c,(bD (N++[x]) c m).length<=k:=λ m Q c=>by
 rcases Q.new o J with e|⟨j,D,F,I⟩
 ·rw[e];exact C c
 ·rw[E3 o F];exact h j D m I c
theorem CL(N:List RN)(D:gI N)(f:Nat->Bool):Tr (N++[⟨0,[],f⟩]) N.length 1:=by
 refine⟨⟨[[]],lR,λ y C=>?_⟩,Y0 D (λ m o=>absurd o LM) (λ m o=>absurd o LM) (λ c=>?_)⟩
 ·unfold pD Mn at C;rw[mO]at C;exact C
 ·unfold bD vM;rw[mO];simp only[if_true];split<;>simp
section
variable {N:List RN}
theorem Hf(C:gI N){M:List RN}{c:Nat}{l:List Nat}(D:∀m,m∈l->m<N.length):nU (bD (N++M) c) (N++M) l=nU (bD N c) N l:=
 tX l (λ m o=>E3 C (D m o)) (λ m o=>Ld C (D m o))
theorem Hh(o:gI N){M:List RN}{l:List Nat}(C:∀m,m∈l->m<N.length):yN (pD (N++M)) l=yN (pD N) l:=zI l (λ m D=>R2 o (C m D))
theorem IC(C:gI N){n k:Nat}(hn:n<N.length)(h:Tr N n k)(f:Nat->Bool):Tr (N++[⟨3,[n],f⟩]) N.length k:=by
 have o:=C.snoc (x:=⟨3,[n],f⟩) (λ m D=>by rw[LI.1 D];exact hn);refine⟨?_,Y0 C (λ m D=>by rw[LI.1 D];exact hn) (λ j F=>by rw[LI.1 F];exact h.2) (λ c=>?_)⟩
 ·rw[I1 o (mO _)];simp only[show¬(3:Nat)=0 by decide,show¬(3:Nat)=1 by decide,show¬((3:Nat)=2\/(3:Nat)=4) by decide,if_false,R2 C hn];exact h.1.map _
 ·rw[M6 o (mO _)];simp only[show¬(3:Nat)=0 by decide,show¬(3:Nat)=1 by decide,show¬((3:Nat)=2\/(3:Nat)=4) by decide,if_false,E3 C hn,NC];exact h.2 n .refl c
theorem KA(C:gI N){n k:Nat}(hn:n<N.length)(h:Tr N n k)(f:Nat->Bool):Tr (N++[⟨4,[n],f⟩]) N.length k:=by
 have o:=C.snoc (x:=⟨4,[n],f⟩) (λ m D=>by rw[LI.1 D];exact hn);refine⟨?_,Y0 C (λ m D=>by rw[LI.1 D];exact hn) (λ j F=>by rw[LI.1 F];exact h.2) (λ c=>?_)⟩
 ·rw[I1 o (mO _)];simp only[show¬(4:Nat)=0 by decide,show¬(4:Nat)=1 by decide,if_false,NI,OV,MB,R2 C hn];exact h.1
 ·rw[M6 o (mO _)];simp only[show¬(4:Nat)=0 by decide,show¬(4:Nat)=1 by decide,if_false,NI,OV,MB,E3 C hn];exact h.2 n .refl c
theorem Ze.row(h:Ze N l k):zQ (yN (pD N) l) k/\∀c,(nU (bD N c) N l).length<=k:=by
 induction h with
 | nil=>exact⟨zQ.nil,λ _=>lR⟩
 | cons h1 _ ih=>
  refine⟨(h1.1.map _).app ih.1,λ c=>?_⟩;unfold nU;rw[LF,NC];have a:=h1.2 _ .refl c;have b:=ih.2 c;split
  ·omega
  ·simp only[NQ];omega
theorem Ze.or(h:Ze N l k):zQ (l.flatMap (pD N)) k/\∀c,(l.flatMap (bD N c)).length<=k:=by
 induction h with
 | nil=>exact⟨zQ.nil,λ _=>lR⟩
 | cons h1 _ ih=>
  refine⟨by rw[NI];exact h1.1.app ih.1,λ c=>?_⟩;rw[NI,LF];have a:=h1.2 _ .refl c;have b:=ih.2 c;omega
theorem Ze.all(h:Ze N l k):∀j,j∈l->∀m,I6 N j m->∀c,(bD N c m).length<=k:=by
 induction h with
 | nil=>intro j o;exact absurd o LM
 | cons h1 _ ih=>
  intro j o m C c;rcases MG.1 o with e|e
  ·rw[e]at C;have:=h1.2 m C c;omega
  ·have:=ih j e m C c;omega
theorem KB(C:gI N){l:List Nat}{k:Nat}(D:∀m,m∈l->m<N.length)(h:Ze N l k)(f:Nat->Bool):Tr (N++[⟨1,l,f⟩]) N.length k:=by
 have o:=C.snoc (x:=⟨1,l,f⟩) D;refine⟨?_,Y0 C D h.all (λ c=>?_)⟩
 ·rw[I1 o (mO _)];simp only[show¬(1:Nat)=0 by decide,if_false,if_true,Hh C D];exact h.row.1
 ·rw[M6 o (mO _)];simp only[show¬(1:Nat)=0 by decide,if_false,if_true,Hf C D];exact h.row.2 c
theorem KU(C:gI N){l:List Nat}{k:Nat}(D:∀m,m∈l->m<N.length)(h:Ze N l k)(f:Nat->Bool):Tr (N++[⟨2,l,f⟩]) N.length k:=by
 have o:=C.snoc (x:=⟨2,l,f⟩) D;refine⟨?_,Y0 C D h.all (λ c=>?_)⟩
 ·rw[I1 o (mO _)];simp only[show¬(2:Nat)=0 by decide,show¬(2:Nat)=1 by decide,if_false,uI l (λ m F=>R2 C (D m F))];exact h.or.1
 ·rw[M6 o (mO _)];simp only[show¬(2:Nat)=0 by decide,show¬(2:Nat)=1 by decide,if_false,uI l (λ m F=>E3 C (D m F))];exact h.or.2 c
theorem IB(o:gI N){n s k:Nat}(hn:n<N.length)(h:Tr N n k)(Y:s<N.length)(Q:Tr N s k)(I:∃f,N[s]?=some ⟨3,[n],f⟩)(U:xG N n=false)(f:Nat->Bool):Tr (N++[⟨1,[n,s],f⟩]) N.length k:=by
 have F:∀m,m∈ [n,s]->m<N.length:=λ m X=>by
  rcases MG.1 X with e|e
  ·rw[e];exact hn
  ·rw[LI.1 e];exact Y
 have C:=o.snoc (x:=⟨1,[n,s],f⟩) F;obtain⟨g,I⟩:=I;refine⟨?_,Y0 o F (λ j V=>by
  rcases MG.1 V with e|e
  ·rw[e];exact h.2
  ·rw[LI.1 e];exact Q.2) (λ c=>?_)⟩
 ·rw[I1 C (mO _)];simp only[show¬(1:Nat)=0 by decide,if_false,if_true,Hh o F];refine(h.1.map (·++[s])).sub (λ y J=>?_);have D:=I1 o I;simp only[show¬(3:Nat)=0 by decide,show¬(3:Nat)=1 by decide,show¬((3:Nat)=2\/(3:Nat)=4) by decide,if_false]at D;simp only[yN,D,MB,PE]at J;rcases LN.1 J with e|e
  ·exact e
  ·exact e
 ·rw[M6 C (mO _)];simp only[show¬(1:Nat)=0 by decide,if_false,if_true,Hf o F];unfold nU;rw[U];simp only[OO,if_false,MB,NC];exact h.2 n .refl c
theorem Dt{B P:Nat->List (List Nat)}:∀(l:List Nat),(∀m,m∈l->∀y,y∈B m->y∈P m)->∀y,y∈nU B N l->y∈yN P l
 | [],_,y,hy=>hy
 | m::l,h,y,hy=>by
  unfold nU at hy;unfold yN;rcases LN.1 hy with e|e
  ·obtain⟨z,C,rfl⟩:=LZ.1 e;exact LN.2 (.inl (LZ.2 ⟨z,h m LH z C,rfl⟩))
  ·split at e
   ·exact LN.2 (.inr (Dt l (λ x o=>h x (LJ _ o)) y e))
   ·exact absurd e LM
theorem Bp(D:gI N){c:Nat}:∀n,n<N.length->∀y,y∈bD N c n->y∈pD N n:=by
 intro n
 induction n using MU with
 | ind n ih=>
  intro Q y o;obtain⟨x,F⟩:∃x,N[n]?=some x:=⟨N[n],LD Q⟩
  rw[M6 D F]at o;rw[I1 D F];have C:∀m,m∈x.l->∀y,y∈bD N c m->y∈pD N m:=λ m C=>by
   have:=D n x F m C;exact ih m this (by omega)
  split at o
  ·rename_i e;rw[aB e];split at o
   ·exact o
   ·exact absurd o LM
  ·rename_i e;rw[aA e];split at o
   ·rename_i e;rw[aB e];exact Dt x.l C y o
   ·rename_i e;rw[aA e];split at o
    ·rename_i e;rw[aB e];obtain⟨m,I,J⟩:=MM.1 o;exact MM.2 ⟨m,I,C m I y J⟩
    ·rename_i e;rw[aA e]
     cases hl:x.l with
     | nil=>rw[hl]at o;exact o
     | cons m l=>
      rw[hl]at o;simp only at o⊢;obtain⟨z,U,rfl⟩:=LZ.1 o;exact LZ.2 ⟨z,C m (by rw[hl];exact LH) z U,rfl⟩
theorem Ds{B:Nat->List (List Nat)}:∀(a b:List Nat)(z:List Nat),z∈nU B N (a++b)->(∃o,o∈nU B N a/\z=o++b)\/z∈nU B N b
 | [],b,z,h=> .inr h
 | m::a,b,z,h=>by
  rw[OU]at h;unfold nU at h;rcases LN.1 h with e|e
  ·obtain⟨y,I,rfl⟩:=LZ.1 e;refine .inl ⟨y++a,?_,by rw[LS]⟩;unfold nU;exact LN.2 (.inl (LZ.2 ⟨y,I,rfl⟩))
  ·split at e
   ·rename_i F;rcases Ds a b z e with⟨o,C,D⟩|C
    ·refine .inl ⟨o,?_,D⟩;unfold nU;rw[aB F];exact LN.2 (.inr C)
    ·exact .inr C
   ·exact absurd e LM
theorem Hi{B P:Nat->List (List Nat)}:∀(l:List Nat),(∀m,m∈l->∀y,y∈B m->y∈P m)->(∀m,m∈l->∀y,y∈P m->∀z,z∈nU B N y->z∈P m)->∀y,y∈yN P l->∀z,z∈nU B N y->z∈yN P l
 | [],_,_,y,hy,z,_=>absurd hy LM
 | m::l,h,k,y,hy,z,hz=>by
  unfold yN at hy;unfold yN;rcases LN.1 hy with e|e
  ·obtain⟨F,D,rfl⟩:=LZ.1 e;rcases Ds F l z hz with⟨I,C,J⟩|C
   ·rw[J];exact LN.2 (.inl (LZ.2 ⟨I,k m LH F D I C,rfl⟩))
   ·exact LN.2 (.inr (Dt l (λ x o=>h x (LJ _ o)) z C))
  ·exact LN.2 (.inr (Hi l (λ x o=>h x (LJ _ o)) (λ x o=>k x (LJ _ o)) y e z hz))
theorem FJ(F:gI N){c:Nat}:∀n,n<N.length->∀y,y∈pD N n->∀z,z∈nU (bD N c) N y->z∈pD N n:=by
 intro n
 induction n using MU with
 | ind n ih=>
  intro Y y o z J;obtain⟨x,V⟩:∃x,N[n]?=some x:=⟨N[n],LD Y⟩
  have I:∀m,m∈x.l->∀y,y∈bD N c m->y∈pD N m:=λ m I=>by
   have:=F n x V m I;exact Bp F m (by omega)
  have U:∀m,m∈x.l->∀y,y∈pD N m->∀z,z∈nU (bD N c) N y->z∈pD N m:=λ m I=>by
   have:=F n x V m I;exact ih m this (by omega)
  have D:=Bp F (c:=c) n Y;rw[I1 F V]at o D⊢;split at o
  ·rename_i e;rw[LI.1 o]at J;exact absurd J LM
  ·rename_i e;rw[aA e]at D⊢;split at o
   ·rename_i e;rw[aB e];exact Hi x.l I U y o z J
   ·rename_i e;rw[aA e]at D⊢;split at o
    ·rename_i e;rw[aB e];obtain⟨m,C,Q⟩:=MM.1 o;exact MM.2 ⟨m,C,U m C y Q z J⟩
    ·rename_i e;rw[aA e]at D ⊢
     cases hl:x.l with
     | nil=>rw[hl]at o;exact absurd o LM
     | cons m l=>
      rw[hl]at o D;simp only at o D⊢;obtain⟨Z,X,rfl⟩:=LZ.1 o;rcases Ds Z [n] z J with⟨z1,C,Q⟩|C
      ·rw[Q];exact LZ.2 ⟨z1,U m (by rw[hl];exact LH) Z X z1 C,rfl⟩
      ·have C:z∈bD N c n:=by
        unfold nU at C;rcases LN.1 C with e|e
        ·simpa using e
        ·unfold nU at e;split at e<;>exact absurd e LM
       exact D z C
theorem Mw{P:Nat->List (List Nat)}:∀(l:List Nat),(∀m,m∈l->I6 N n m)->(∀m,m∈l->∀y,y∈P m->∀k,k∈y->I6 N m k)->∀y,y∈yN P l->∀k,k∈y->I6 N n k
 | [],_,_,y,hy=>absurd hy LM
 | m::l,h,h2,y,hy=>λ k D=>by
  unfold yN at hy;rcases LN.1 hy with e|e
  ·obtain⟨F,C,rfl⟩:=LZ.1 e;rcases LN.1 D with e|e
   ·exact(h m LH).trans (h2 m LH F C k e)
   ·exact h k (LJ _ e)
  ·exact Mw l (λ x o=>h x (LJ _ o)) (λ x o=>h2 x (LJ _ o)) y e k D
theorem AR(V:gI N):∀n,n<N.length->∀y,y∈pD N n->∀k,k∈y->I6 N n k:=by
 intro n
 induction n using MU with
 | ind n ih=>
  intro Y y o k D;obtain⟨x,J⟩:∃x,N[n]?=some x:=⟨N[n],LD Y⟩
  have I:∀m,m∈x.l->I6 N n m:=λ m C=> .step .refl J C
  have C:∀m,m∈x.l->∀y,y∈pD N m->∀k,k∈y->I6 N m k:=λ m C=>by
   have:=V n x J m C;exact ih m this (by omega)
  rw[I1 V J]at o;split at o
  ·rw[LI.1 o]at D;exact absurd D LM
  ·split at o
   ·exact Mw x.l I C y o k D
   ·split at o
    ·obtain⟨m,U,X⟩:=MM.1 o;exact(I m U).trans (C m U y X k D)
    ·cases hl:x.l with
     | nil=>rw[hl]at o;exact absurd o LM
     | cons m l=>
      rw[hl]at o;simp only at o;obtain⟨Z,Q,rfl⟩:=LZ.1 o;have F:m∈x.l:=by rw[hl];exact LH
      rcases LN.1 D with e|e
      ·exact(I m F).trans (C m F Z Q k e)
      ·rw[LI.1 e];exact .refl
theorem Mv{P:Nat->List (List Nat)}{B:Nat}:∀(l:List Nat),(∀m,m∈l->m<n)->(∀m,m∈l->∀y,y∈P m->(∀k,k∈y->k<=m)/\y.length<=B)->∀y,y∈yN P l->(∀k,k∈y->k<n)/\y.length<=B+l.length
 | [],_,_,y,hy=>absurd hy LM
 | m::l,h,k,y,hy=>by
  unfold yN at hy;rcases LN.1 hy with e|e
  ·obtain⟨F,C,rfl⟩:=LZ.1 e;obtain⟨a,b⟩:=k m LH F C;refine⟨λ q D=>?_,by simp only[LF,MD];omega⟩;rcases LN.1 D with e|e
   ·have:=a q e;have:=h m LH;omega
   ·exact h q (LJ _ e)
  ·obtain⟨a,b⟩:=Mv l (λ x o=>h x (LJ _ o)) (λ x o=>k x (LJ _ o)) y e;exact⟨a,by rw[MD];omega⟩
theorem Ql(J:gI N)(hs:qX N):∀n,n<N.length->∀y,y∈pD N n->(∀k,k∈y->k<=n)/\y.length<=201*(n+1):=by
 intro n
 induction n using MU with
 | ind n ih=>
  intro Y y o;obtain⟨x,I⟩:∃x,N[n]?=some x:=⟨N[n],LD Y⟩
  have C:∀m,m∈x.l->∀y,y∈pD N m->(∀k,k∈y->k<=m)/\y.length<=201*n:=λ m D y o=>by
   have:=J n x I m D;obtain⟨a,b⟩:=ih m this (by omega) y o;exact⟨a,by omega⟩
  have D:=J n x I;have X:=(hs n x I).2.2;rw[I1 J I]at o;split at o
  ·rw[LI.1 o];exact⟨λ k C=>absurd C LM,by simp⟩
  ·split at o
   ·obtain⟨a,b⟩:=Mv x.l D C y o;exact⟨λ k C=>NU (a k C),by omega⟩
   ·split at o
    ·obtain⟨m,U,V⟩:=MM.1 o;obtain⟨a,b⟩:=C m U y V;have:=D m U;exact⟨λ k C=>by have:=a k C;omega,by omega⟩
    ·cases hl:x.l with
     | nil=>rw[hl]at o;exact absurd o LM
     | cons m l=>
      rw[hl]at o;simp only at o;obtain⟨y1,Q,rfl⟩:=LZ.1 o;have F:m∈x.l:=by rw[hl];exact LH
      obtain⟨a,b⟩:=C m F y1 Q;have:=D m F;refine⟨λ q Z=>?_,by rw[LF,LU];omega⟩;rcases LN.1 Z with e|e
      ·have:=a q e;omega
      ·rw[LI.1 e];exact lR
end
end
def zV(N:List RN)(n:Nat)(r:Rx):Prop:=n<N.length/\∀w,WN N n w↔W r w
theorem zV.more{N:List RN}(o:gI N){n:Nat}{r:Rx}(h:zV N n r)(M:List RN):zV (N++M) n r:=
 ⟨by rw[LF];have:=h.1;omega,λ w=>(DN o h.1 w).trans (h.2 w)⟩
theorem Sb{N:List RN}(C:gI N)(f:Nat->Bool):zV (N++[⟨0,[],f⟩]) N.length (.pl f):=by
 have o:=C.snoc (x:=⟨0,[],f⟩) (λ m D=>absurd D LM);refine⟨by simp,λ w=>?_⟩;rw[I7 o (mO _)];constructor
 ·rintro(⟨_,h⟩|⟨h,_⟩|⟨h,_⟩|⟨h,_⟩|⟨h,_⟩)
  ·exact h
  ·cases h
  ·cases h
  ·cases h
  ·cases h
 ·intro h;exact .inl ⟨rfl,h⟩
theorem Yd{N:List RN}(I:gI N){n:Nat}{r:Rx}(h:zV N n r)(f:Nat->Bool):zV (N++[⟨3,[n],f⟩]) N.length (.star r):=by
 have C:=I.snoc (x:=⟨3,[n],f⟩) (λ m o=>by rw[LI.1 o];exact h.1);have o:=h.more I [⟨3,[n],f⟩];refine⟨by simp,λ w=>?_⟩;rw[I7 C (mO _)];constructor
 ·rintro(⟨h,_⟩|⟨h,_⟩|⟨h,_⟩|⟨_,h⟩|⟨h,_⟩)
  ·cases h
  ·cases h
  ·cases h
  ·rcases h with h|⟨m,D,h⟩
   ·exact .inl h
   ·rw[LI.1 D]at h;exact .inr (h.congr (λ u F=>(o.2 u).1 F))
  ·cases h
 ·intro h;refine .inr (.inr (.inr (.inl ⟨rfl,?_⟩)));rcases h with h|h
  ·exact .inl h
  ·exact .inr ⟨n,LI.2 rfl,h.congr (λ u F=>(o.2 u).2 F)⟩
theorem BZ{N:List RN}(F:gI N){n:Nat}{r:Rx}(h:zV N n r)(f:Nat->Bool):zV (N++[⟨4,[n],f⟩]) N.length (.opt r):=by
 have C:=F.snoc (x:=⟨4,[n],f⟩) (λ m o=>by rw[LI.1 o];exact h.1);have o:=h.more F [⟨4,[n],f⟩];refine⟨by simp,λ w=>?_⟩;rw[I7 C (mO _)];constructor
 ·rintro(⟨h,_⟩|⟨h,_⟩|⟨h,_⟩|⟨h,_⟩|⟨_,h⟩)
  ·cases h
  ·cases h
  ·cases h
  ·cases h
  ·rcases h with h|⟨m,D,h⟩
   ·exact .inl h
   ·rw[LI.1 D]at h;exact .inr ((o.2 w).1 h)
 ·intro h;refine .inr (.inr (.inr (.inr ⟨rfl,?_⟩)));rcases h with h|h
  ·exact .inl h
  ·exact .inr ⟨n,LI.2 rfl,(o.2 w).2 h⟩
def xV:Rx->List Rx->Rx
 | r,[]=>r
 | r,r2::l=>xV (.cat r r2) l
def G2:Rx->List Rx->Rx
 | r,[]=>r
 | r,r2::l=>G2 (.alt r r2) l
inductive wH (N:List RN):List Nat->List Rx->Prop
 | nil:wH N [] []
 | cons {n:Nat}{r:Rx}{l:List Nat}{rs:List Rx}:zV N n r->wH N l rs->wH N (n::l) (r::rs)
theorem wH.more{N:List RN}(o:gI N){l:List Nat}{rs:List Rx}(h:wH N l rs)(M:List RN):wH (N++M) l rs:=by
 induction h with
 | nil=>exact .nil
 | cons h1 _ ih=>exact .cons (h1.more o M) ih
theorem wH.lt{N:List RN}{rs:List Rx}(h:wH N l rs):∀m,m∈l->m<N.length:=by
 induction h with
 | nil=>intro m o;exact absurd o LM
 | cons h1 _ ih=>
  intro m o;rcases MG.1 o with e|e
  ·rw[e];exact h1.1
  ·exact ih m e
theorem Zx:∀(rs:List Rx)(r:Rx)(w:List Nat),W (xV r rs) w↔∃u v,w=u++v/\W r u/\(rs.foldr (λ(x:Rx)(P:List Nat->Prop)=>λ z=>∃a b,z=a++b/\W x a/\P b) (λ z=>z=[])) v
 | [],r,w=>by
  constructor
  ·intro h;exact⟨w,[],by simp,h,rfl⟩
  ·rintro⟨u,v,e,C,o⟩;have o:v=[]:=o;subst o;rw[e,MB];exact C
 | r2::l,r,w=>by
  show W (xV (.cat r r2) l) w↔_;rw[Zx l];constructor
  ·rintro⟨u,v,e,⟨a,b,D,C,o⟩,F⟩;exact⟨a,b++v,by rw[e,D,LS],C,b,v,rfl,o,F⟩
  ·rintro⟨u,v,e,C,b,c,D,o,F⟩;exact⟨u++b,c,by rw[e,D,LS],⟨u,b,rfl,C,o⟩,F⟩
theorem wH.cat{N:List RN}{rs:List Rx}(h:wH N l rs):∀v,qU (WN N) l v↔(rs.foldr (λ(x:Rx)(P:List Nat->Prop)=>λ z=>∃a b,z=a++b/\W x a/\P b) (λ z=>z=[])) v:=by
 induction h with
 | nil=>intro v;exact Iff.rfl
 | cons h1 _ ih=>
  intro v;constructor
  ·rintro⟨a,b,e,x,y⟩;exact⟨a,b,e,(h1.2 a).1 x,(ih b).1 y⟩
  ·rintro⟨a,b,e,x,y⟩;exact⟨a,b,e,(h1.2 a).2 x,(ih b).2 y⟩
theorem Nh{N:List RN}(C:gI N){l:List Nat}{r:Rx}{rs:List Rx}(h:wH N l (r::rs))(f:Nat->Bool):zV (N++[⟨1,l,f⟩]) N.length (xV r rs):=by
 have o:=C.snoc (x:=⟨1,l,f⟩) h.lt;have D:=h.more C [⟨1,l,f⟩];refine⟨by simp,λ w=>?_⟩;rw[I7 o (mO _),Zx];have e:=D.cat w;constructor
 ·rintro(⟨h,_⟩|⟨_,h⟩|⟨h,_⟩|⟨h,_⟩|⟨h,_⟩)
  ·cases h
  ·exact e.1 h
  ·cases h
  ·cases h
  ·cases h
 ·intro h;exact .inr (.inl ⟨rfl,e.2 h⟩)
theorem Zw:∀(rs:List Rx)(r:Rx)(w:List Nat),W (G2 r rs) w↔W r w\/∃x,x∈rs/\W x w
 | [],r,w=>by
  constructor
  ·intro h;exact .inl h
  ·rintro(h|⟨x,o,_⟩)
   ·exact h
   ·exact absurd o LM
 | r2::l,r,w=>by
  show W (G2 (.alt r r2) l) w↔_;rw[Zw l];constructor
  ·rintro((h|h)|⟨x,o,h⟩)
   ·exact .inl h
   ·exact .inr ⟨r2,LH,h⟩
   ·exact .inr ⟨x,LJ _ o,h⟩
  ·rintro(h|⟨x,o,h⟩)
   ·exact .inl (.inl h)
   ·rcases MG.1 o with e|e
    ·subst e;exact .inl (.inr h)
    ·exact .inr ⟨x,e,h⟩
theorem wH.any{N:List RN}{rs:List Rx}(h:wH N l rs)(w:List Nat):(∃m,m∈l/\WN N m w)↔∃x,x∈rs/\W x w:=by
 induction h with
 | nil=>exact⟨λ⟨m,o,_⟩=>absurd o LM,λ⟨m,o,_⟩=>absurd o LM⟩
 | @cons n r l rs h1 _ ih=>
  constructor
  ·rintro⟨m,o,h⟩;rcases MG.1 o with e|e
   ·subst e;exact⟨r,LH,(h1.2 w).1 h⟩
   ·obtain⟨x,C,h⟩:=ih.1 ⟨m,e,h⟩;exact⟨x,LJ _ C,h⟩
  ·rintro⟨m,o,h⟩;rcases MG.1 o with e|e
   ·subst e;exact⟨n,LH,(h1.2 w).2 h⟩
   ·obtain⟨x,C,h⟩:=ih.2 ⟨m,e,h⟩;exact⟨x,LJ _ C,h⟩
theorem GE{N:List RN}(I:gI N){l:List Nat}{r:Rx}{rs:List Rx}(h:wH N l (r::rs))(f:Nat->Bool):zV (N++[⟨2,l,f⟩]) N.length (G2 r rs):=by
 have C:=I.snoc (x:=⟨2,l,f⟩) h.lt;have J:=h.more I [⟨2,l,f⟩];refine⟨by simp,λ w=>?_⟩;rw[I7 C (mO _),Zw];have e:=J.any w;constructor
 ·rintro(⟨h,_⟩|⟨h,_⟩|⟨_,h⟩|⟨h,_⟩|⟨h,_⟩)
  ·cases h
  ·cases h
  ·obtain⟨x,F,D⟩:=e.1 h;rcases MG.1 F with o|o
   ·rw[o]at D;exact .inl D
   ·exact .inr ⟨x,o,D⟩
  ·cases h
  ·cases h
 ·rintro(h|⟨x,F,h⟩)
  ·exact .inr (.inr (.inl ⟨rfl,e.2 ⟨r,LH,h⟩⟩))
  ·exact .inr (.inr (.inl ⟨rfl,e.2 ⟨x,LJ _ F,h⟩⟩))
theorem BC{r:Rx}(h:W r [])(w:List Nat):W (.plus r) w↔W (.star r) w:=
 ⟨λ o=> .inr o,λ o=>by
  rcases o with o|o
  ·rw[o];exact .one h
  ·exact o⟩
theorem AZ(r:Rx)(w:List Nat):W (.plus r) w↔W (.cat r (.star r)) w:=by
 constructor
 ·intro h;have h:uF (W r) w:=h
  cases h with
  | one h=>exact⟨w,[],by simp,h,.inl rfl⟩
  | more hu hv=>exact⟨_,_,rfl,hu,.inr hv⟩
 ·rintro⟨u,v,e,C,o⟩;rcases o with o|o
  ·rw[e,o,MB];exact .one C
  ·rw[e];exact .more C o
theorem zV.congr{N:List RN}{r r':Rx}(h:zV N n r)(o:∀w,W r w↔W r' w):zV N n r':=⟨h.1,λ w=>(h.2 w).trans (o w)⟩
def Sem(N:List RN)(n:Nat)(r:Rx):Prop:=n<N.length/\(∀w,WN N n w↔W r w)/\Tr N n r.np
theorem Sem.w{N:List RN}{r:Rx}(h:Sem N n r):zV N n r:=⟨h.1,h.2.1⟩
theorem zV.tr{N:List RN}{r:Rx}(h:zV N n r)(o:Tr N n r.np):Sem N n r:=⟨h.1,h.2,o⟩
theorem Sem.more{N:List RN}(o:gI N){n:Nat}{r:Rx}(h:Sem N n r)(M:List RN):Sem (N++M) n r:=(h.w.more o M).tr (h.2.2.more o M h.1)
theorem Ye{N:List RN}(o:gI N)(f:Nat->Bool):Sem (N++[⟨0,[],f⟩]) N.length (.pl f):=(Sb o f).tr (CL N o f)
theorem Ni{N:List RN}(o:gI N){n:Nat}{r:Rx}(h:Sem N n r)(f:Nat->Bool):Sem (N++[⟨3,[n],f⟩]) N.length (.star r):=(Yd o h.w f).tr (IC o h.1 h.2.2 f)
theorem GF{N:List RN}(o:gI N){n:Nat}{r:Rx}(h:Sem N n r)(f:Nat->Bool):Sem (N++[⟨4,[n],f⟩]) N.length (.opt r):=(BZ o h.w f).tr (KA o h.1 h.2.2 f)
inductive sU (N:List RN):List Nat->List Rx->Prop
 | nil:sU N [] []
 | cons {n:Nat}{r:Rx}{l:List Nat}{rs:List Rx}:Sem N n r->sU N l rs->sU N (n::l) (r::rs)
theorem sU.w{N:List RN}{rs:List Rx}(h:sU N l rs):wH N l rs:=by
 induction h with
 | nil=>exact .nil
 | cons h1 _ ih=>exact .cons h1.w ih
theorem sU.more{N:List RN}(o:gI N){l:List Nat}{rs:List Rx}(h:sU N l rs)(M:List RN):sU (N++M) l rs:=by
 induction h with
 | nil=>exact .nil
 | cons h1 _ ih=>exact .cons (h1.more o M) ih
theorem sU.snoc{N:List RN}{rs:List Rx}(h:sU N l rs){n:Nat}{r:Rx}(hn:Sem N n r):sU N (l++[n]) (rs++[r]):=by
 induction h with
 | nil=>exact .cons hn .nil
 | cons h1 _ ih=>exact .cons h1 ih
theorem sU.lt{N:List RN}{rs:List Rx}(h:sU N l rs):∀m,m∈l->m<N.length:=h.w.lt
def CZ:List Rx->Nat
 | []=>0
 | r::l=>r.np+CZ l
theorem sU.tr{N:List RN}{rs:List Rx}(h:sU N l rs):Ze N l (CZ rs):=by
 induction h with
 | nil=>exact .nil
 | cons h1 _ ih=>exact .cons h1.2.2 ih
theorem Mk:∀(ps:List Rx)(p:Rx),(xV p ps).np=p.np+CZ ps
 | [],p=>by simp[CZ,xV]
 | x::ps,p=>by show(xV (.cat p x) ps).np=_;rw[Mk ps];show p.np+x.np+CZ ps=p.np+(x.np+CZ ps);omega
theorem Mj:∀(ps:List Rx)(p:Rx),(G2 p ps).np=p.np+CZ ps
 | [],p=>by simp[CZ,G2]
 | x::ps,p=>by show(G2 (.alt p x) ps).np=_;rw[Mj ps];show p.np+x.np+CZ ps=p.np+(x.np+CZ ps);omega
theorem Ui{N:List RN}(o:gI N){l:List Nat}{r:Rx}{rs:List Rx}(h:sU N l (r::rs))(f:Nat->Bool):Sem (N++[⟨1,l,f⟩]) N.length (xV r rs):=(Nh o h.w f).tr (by rw[Mk];exact KB o h.lt h.tr f)
theorem JV{N:List RN}(o:gI N){l:List Nat}{r:Rx}{rs:List Rx}(h:sU N l (r::rs))(f:Nat->Bool):Sem (N++[⟨2,l,f⟩]) N.length (G2 r rs):=(GE o h.w f).tr (by rw[Mj];exact KU o h.lt h.tr f)
theorem Sem.congr{N:List RN}{r r':Rx}(h:Sem N n r)(o:∀w,W r w↔W r' w)(hn:r.np=r'.np):Sem N n r':=⟨h.1,λ w=>(h.2.1 w).trans (o w),by rw[<-hn];exact h.2.2⟩
theorem CA{N:List RN}(C:gI N){n s:Nat}{r:Rx}(h:Sem N n r)(o:Sem N s (.star r))(F:∃f,N[s]?=some ⟨3,[n],f⟩)(D:xG N n=false)(f:Nat->Bool):Sem (N++[⟨1,[n,s],f⟩]) N.length (.plus r):=
 ((Nh (rs:= [.star r]) C (.cons h.w (.cons o.w .nil)) f).congr (λ u=>(AZ r u).symm)).tr (IB C h.1 h.2.2 o.1 o.2.2 F D f)
section
theorem Fy:∀(ps:List Rx)(p q:Rx),xV p (ps++[q])=.cat (xV p ps) q
 | [],_,_=>rfl
 | x::ps,p,q=>Fy ps (.cat p x) q
theorem Ft:∀(ps:List Rx)(p q:Rx),G2 p (ps++[q])=.alt (G2 p ps) q
 | [],_,_=>rfl
 | x::ps,p,q=>Ft ps (.alt p x) q
def Z7:List Rx->Rx->Rx
 | [],r=>r
 | o::os,r=>G2 o (os++[r])
theorem Pp(ors:List Rx)(c r:Rx):Z7 (ors++[c]) r=.alt (Z7 ors c) r:=by
 cases ors with
 | nil=>rfl
 | cons o os=>
  show G2 o ((os++[c])++[r])=_;rw[Ft]
  rfl
theorem t9{ors:List Rx}{c o:Rx}{F:List Rx}(h:ors++[c]=o::F):Z7 ors c=G2 o F:=by
 cases ors with
 | nil=>
  injection h with C D;rw[<-C,<-D];rfl
 | cons x xs=>
  injection h with C D;rw[<-C,<-D];rfl
def yC:List Rx->Nat
 | []=>0
 | r::l=>r.np+yC l
theorem Q5:∀(l:List Rx)(r:Rx),yC (l++[r])=yC l+r.np
 | [],r=>by simp[yC]
 | x::l,r=>by show x.np+yC (l++[r])=_;rw[Q5 l r];show _=x.np+yC l+r.np;omega
theorem Jd:∀(ps:List Rx)(p:Rx),(xV p ps).np=p.np+yC ps
 | [],_=>rfl
 | x::ps,p=>by show(xV (.cat p x) ps).np=_;rw[Jd ps];show p.np+x.np+yC ps=p.np+(x.np+yC ps);omega
theorem Tw:∀(ps:List Rx)(p:Rx),(G2 p ps).np=p.np+yC ps
 | [],_=>rfl
 | x::ps,p=>by show(G2 (.alt p x) ps).np=_;rw[Tw ps];show p.np+x.np+yC ps=p.np+(x.np+yC ps);omega
theorem AE(ors:List Rx)(c:Rx):(Z7 ors c).np=yC ors+c.np:=by
 cases ors with
 | nil=>show c.np=0+c.np;omega
 | cons o os=>show(G2 o (os++[c])).np=o.np+yC os+c.np;rw[Tw,Q5];omega
def o8(s:tB)(x:Option (Rx×Nat)):Option (Rx×Nat):=
 match x with
 | none=>none
 | some (r,a1)=>if uS s a1=true then some (r,a1)else none
theorem Yq(s:tB)(ex:Nat->Option (Rx×Nat))(a:Nat):qQ s ex a=o8 s (ex a):=rfl
theorem Dj{s:tB}{ex:Nat->Option (Rx×Nat)}(h:lY s i=false):iZ s ex i=none:=by
 unfold lY at h;rw[Bool.or_eq_false_iff,aF]at h;obtain⟨o,U⟩:=h;have C:kU s 40 i=false:=by unfold kU;rw[aF];exact λ e=>o (.inl e)
 have b2:kU s 91 i=false:=by unfold kU;rw[aF];exact λ e=>o (.inr (.inl e))
 have D:kU s 46 i=false:=by unfold kU;rw[aF];exact λ e=>o (.inr (.inr (.inl e)))
 have F:kU s 92 i=false:=by unfold kU;rw[aF];exact λ e=>o (.inr (.inr (.inr e)))
 have I:jK s kK i=none:=by unfold jK;rw[F,U];rfl
 have J:jC s i=none:=by unfold jC;rw[b2,D,I];rfl
 have Q:lZ s ex i=none:=by unfold lZ;rw[C,J];rfl
 unfold iZ;rw[Q]
theorem Td{s:tB}(h:uS s i=true):lY s i=false:=by
 unfold uS at h;rw[aE]at h;by_cases o:s.size<=i
 ·unfold lY;rw[jW o]
  rfl
 ·have e:=h.resolve_left o;unfold lY;rw[lK (by omega),e];decide
theorem d7{s:tB}(hi:i<s.size)(h:bt s i=124):lY s i=false:=by
 unfold lY;rw[lK hi,h];decide
theorem Oo{s:tB}(hi:i<s.size):kU s 124 i=decide (bt s i=124):=by
 unfold kU;rw[lK hi,NH,aE,aE];omega
def Jz(s:tB)(ex:Nat->Option (Rx×Nat))(T:Option (Rx×Nat))(ors o:List Rx)(i:Nat):Prop:=
 match o with
 | []=>∃k,s.size<k+i/\T=match vJ s ex i with
  | none=>none
  | some (r,a)=>o8 s (kN s ex k (Z7 ors r) a)
 | p::ps=>∃k m,s.size<k+i/\s.size<m+i/\T=match lX s ex m (xV p ps) i with
  | none=>none
  | some (r,a)=>o8 s (kN s ex k (Z7 ors r) a)
theorem Jz.start(s:tB)(f i:Nat):Jz s (kO s f) (qQ s (kO s (f+1)) i) [] [] i:=by
 refine⟨s.size+1,by omega,?_⟩;rw[Yq,kO]
 cases vJ s (kO s f) i with
 | none=>rfl
 | some y=>rfl
variable {s:tB}{ex:Nat->Option (Rx×Nat)}{T:Option (Rx×Nat)}{ors rs:List Rx}{i:Nat}
theorem Jz.none0(h:Jz s ex T ors [] i)(o:iZ s ex i=none):T=none:=by
 obtain⟨k,_,h⟩:=h;rw[h];unfold vJ;rw[o]
theorem Jz.bad(h:Jz s ex T ors rs i)(hi:i<s.size)(F:uS s i=false)(D:bt s i≠124)(C:iZ s ex i=none):T=none:=by
 cases rs with
 | nil=>exact h.none0 C
 | cons p ps=>
  obtain⟨k,m,I,J,h⟩:=h;rw[h];obtain⟨m,rfl⟩:∃n,m=n+1:=⟨m-1,by omega⟩
  obtain⟨k,rfl⟩:∃n,k=n+1:=⟨k-1,by omega⟩
  rw[lX];by_cases o:lY s i=false
  ·rw[aB o];simp only;have e:kU s 124 i=false:=by rw[Oo hi,aF];exact D
   rw[kN,aB e];unfold o8;simp only;rw[F,aA (by simp)]
  ·rw[aA o,C]
theorem Jz.piece(h:Jz s ex T ors rs i)(J:tA s ex){C:Rx}{D:Nat}(o:iZ s ex i=some (C,D)):Jz s ex T ors (rs++[C]) D:=by
 have Q:=wQ J _ _ _ o
 cases rs with
 | nil=>
  obtain⟨k,I,h⟩:=h;refine⟨k,s.size+1,by omega,by omega,?_⟩;rw[h];unfold vJ;rw[o]
  rfl
 | cons p ps=>
  obtain⟨k,m,I,U,h⟩:=h;obtain⟨m,rfl⟩:∃n,m=n+1:=⟨m-1,by omega⟩
  refine⟨k,m,by omega,by omega,?_⟩;rw[h,lX];have F:¬lY s i=false:=λ e=>by rw[Dj e]at o;cases o
  rw[aA F,o,show ps.append [C]=ps++[C] from rfl,Fy]
theorem Jz.bar{p:Rx}{ps:List Rx}(h:Jz s ex T ors (p::ps) i)(hi:i<s.size)(o:bt s i=124):Jz s ex T (ors++[xV p ps]) [] (i+1):=by
 obtain⟨k,m,D,F,h⟩:=h;obtain⟨m,rfl⟩:∃n,m=n+1:=⟨m-1,by omega⟩
 obtain⟨k,rfl⟩:∃n,k=n+1:=⟨k-1,by omega⟩
 refine⟨k,by omega,?_⟩;rw[h,lX,aB (d7 hi o)];simp only;have e:¬kU s 124 i=false:=by rw[Oo hi,aF];exact λ h=>h o
 rw[kN,aA e]
 cases vJ s ex (i+1)with
 | none=>rfl
 | some y=>
  obtain⟨I,C⟩:=y;simp only;rw[Pp]
theorem Jz.aZ{p:Rx}{ps:List Rx}(h:Jz s ex T ors (p::ps) i)(hi:i<=s.size)(o:uS s i=true):T=some (Z7 ors (xV p ps),i):=by
 obtain⟨k,m,D,F,h⟩:=h;obtain⟨m,rfl⟩:∃n,m=n+1:=⟨m-1,by omega⟩
 obtain⟨k,rfl⟩:∃n,k=n+1:=⟨k-1,by omega⟩
 rw[h,lX,aB (Td o)];simp only;have e:kU s 124 i=false:=by
  by_cases C:i<s.size
  ·rw[Oo C,aF];intro e;unfold uS at o;rw[aE]at o;omega
  ·unfold kU;rw[jW (by omega)]
   rfl
 rw[kN,aB e];unfold o8;simp only;rw[aB o]
end
def Ym(s:tB)(c:Nat):Nat->Nat->Nat->List (Nat×Nat)
 | 0,_,_=>[]
 | n+1,fr,i=>if i=s.size\/bt s i=c then(fr,i)::Ym s c n (i+1) (i+1)else Ym s c n fr (i+1)
def lU(s:tB)(c:Nat):List (Nat×Nat):=Ym s c (s.size+1) 0 0
theorem Jq{s:tB}(h:i=s.size\/bt s i=c):Ym s c (n+1) fr i=(fr,i)::Ym s c n (i+1) (i+1):=by
 show(if i=s.size\/bt s i=c then _ else _)=_;rw[aB h]
theorem Sh{s:tB}(h:¬(i=s.size\/bt s i=c)):Ym s c (n+1) fr i=Ym s c n fr (i+1):=by
 show(if i=s.size\/bt s i=c then _ else _)=_;rw[aA h]
theorem GP(s:tB)(c:Nat):∀(n fr i:Nat),n+i=s.size+1->0<n->0<(Ym s c n fr i).length:=by
 intro n
 induction n with
 | zero=>intro fr i _ h;omega
 | succ n ih=>
  intro fr i h _;by_cases o:i=s.size\/bt s i=c
  ·rw[Jq o];simp
  ·rw[Sh o];exact ih fr (i+1) (by omega) (by omega)
theorem Si(s:tB)(c:Nat):0<(lU s c).length:=GP s c (s.size+1) 0 0 (by omega) (by omega)
def Js(s:tB)(l:List (Nat×Nat)):List tV:=l.map (λ(p:Nat×Nat)=>Value.string (s.extract p.1 p.2))
theorem Ho(s:tB)(l:List (Nat×Nat))(a b:Nat):Js s (l++[(a,b)])=Js s l++[.string (s.extract a b)]:=by unfold Js;simp
theorem CF{s:tB}{l:List (Nat×Nat)}{b:Nat}(h:l[j]?=some (a,b)):(Js s l)[j]?=some (.string (s.extract a b)):=by unfold Js;rw[MF,h];rfl
end Go.Stn
namespace Go.Proofs.YtgjgjgihceijnaaGreat
open Go.RowKit Go.Stn
variable {ab n c i k a B z aJ fb nR pl cn gN g q lo a1 m rb gs B' r:Nat}{T:TypeId}{ns ms x:List Nat}{aZ:Int}{ob:Option Nat}{xs:List (List Nat)}
theorem j7(t:tB)(w:tW):QV MH 7 #[.string t] w λ e w'=>e=.returned (.tuple #[.string ⟨(pC t).1.toArray⟩,.int .i64 (pC t).2])/\Bl w w':=by
 refine Xb t w (λ h=>EP h) (λ h ls C=>?_);obtain⟨V,l,D,J,Q,U,F⟩:=R3 h;have I:(fW jX l).aW=pY l:=by rw[vU];rfl
 have o:=wL D;have:=k8 ((Fz h D).1 ls C) o.2.2 (vZ l o.1 J).2.1;rw[F,I];exact this
structure BA(w:tW)(ab n:Nat)(al:Nat->Bool):Prop where
 c:∀i,i<n->w.cell? ⟨ab,i,none⟩=some (.bool (al i))
 f:∀i,w.frozen? ⟨ab,i,none⟩=false
theorem BA.set{w:tW}{al:Nat->Bool}(h:BA w ab n al){s:Nat}(C:s<n)(v:Bool):BA (w.setCell ⟨ab,s,none⟩ (.bool v)) ab n (λ i=>if i=s then v else al i):=by
 refine⟨λ i hi=>?_,λ i=>by rw[MW];exact h.f i⟩;by_cases e:i=s
 ·subst e;rw[aB rfl];exact MO _ _ _ (h.c i hi)
 ·rw[aA e,MN (h:=by intro o;injection o;omega)];exact h.c i hi
theorem cV:(Tryz.prog.info? 4).map (λ i=>(i.zero,i.size,i.bytes))=some (some (.bool false),1,1):=by kernel_rfl
theorem BA.new{w:tW}{aH:Nat}{e:TypeId}(h:w.ownsRow aH e 1 (.slice (some ⟨ab,0,none⟩) n n) n (QT (PB false).cells (n*1)).toList):BA w ab n (λ _=>false):=by
 refine⟨λ i hi=>?_,λ i=>rV h i⟩;have hg:(QT (PB false).cells (n*1)).toList[i]?=some (.bool false):=by
  rw[OM,Array.getElem?_toList];exact Me n i hi
 have:=h.cells rfl i _ hg;rw[wI]at this;exact this
theorem BA.below{w w':tW}{al:Nat->Bool}(h:BA w ab n al){B:Nat}(o:Below B w w')(C:ab<B):BA w' ab n al:=
 ⟨λ i hi=>(o.cell (p:=⟨ab,i,none⟩) C).trans (h.c i hi),λ i=>(o.frozen (p:=⟨ab,i,none⟩) C).trans (h.f i)⟩
structure LV(W wr:tW)(n:Nat)(al:Nat->Bool):Prop where
 bl:Bl W wr
 ba:BA wr W.heap.size n al
theorem LV.set{W wr:tW}{al:Nat->Bool}(h:LV W wr n al){s:Nat}(o:s<n)(v:Bool):LV W (wr.setCell ⟨W.heap.size,s,none⟩ (.bool v)) n (λ i=>if i=s then v else al i):=
 ⟨h.bl.setCell (p:=⟨W.heap.size,s,none⟩) lR _,h.ba.set o v⟩
theorem LV.draw{W wr:tW}{al:Nat->Bool}(h:LV W wr n al)(q:Nat):LV W (wr.drewN q) n al:=
 ⟨⟨h.bl.os,h.bl.tape,h.bl.output,h.bl.size,h.bl.block⟩,⟨h.ba.c,h.ba.f⟩⟩
theorem LV.congr{W wr:tW}{al al':Nat->Bool}(h:LV W wr n al)(o:∀i,i<n->al i=al' i):LV W wr n al':=
 ⟨h.bl,⟨λ i hi=>by rw[<-o i hi];exact h.ba.c i hi,h.ba.f⟩⟩
theorem Th(h:c<256):(uW c).1<256:=by
 unfold uW;split<;>(try split)<;>simp<;>omega
theorem Lq{s:tB}{i:Nat}(h:(qN s i).2.2=true):i<(qN s i).2.1/\(qN s i).2.1<=s.size/\(qN s i).1<256:=by
 unfold qN at*;by_cases o:s.size<=i
 ·rw[aB o]at h;cases h
 ·rw[aA o]at h ⊢;by_cases C:bt s i=92
  ·rw[aB C]at h ⊢;by_cases D:s.size<=i+1
   ·rw[aB D]at h;cases h
   ·rw[aA D];exact⟨by simp,by simp;omega,Th (mT s _)⟩
  ·rw[aA C];exact⟨by simp,by simp;omega,mT s _⟩
def Jm(s:tB)(k n:Nat)(f:Nat->Bool)(a:Nat):Option ((Nat->Bool)×Nat):=if k=0 then qD s a else lL s n f a
theorem CC{s:tB}{f:Nat->Bool}(D:0<k)(hn:0<n)(o:a<s.size)(C:bt s a=93):Jm s k n f a=some (f,a+1):=by
 unfold Jm;rw[aA (by omega)];obtain⟨m,rfl⟩:∃m,n=m+1:=⟨n-1,by omega⟩
 unfold lL;have:kU s 93 a=true:=by have:=kC o 93;rw[show((93:Nat):Int)=93 from rfl]at this;rw[this];simp[C]
 rw[aB this]
theorem Yf{s:tB}{f:Nat->Bool}(J:k=0->f=gK)(hn:0<k->s.size<n+a)(V:0<n)(D:¬(0<k/\a<s.size/\bt s a=93)):
  ∃m,s.size<m+(a+1)/\0<m/\Jm s k n f a=match jQ s f a with
   | none=>none
   | some (g,a1)=>Jm s (k+1) m g a1:=by
 by_cases o:k=0
 ·subst o;rw[J rfl];refine⟨s.size+1,by omega,by omega,?_⟩;unfold Jm;rw[aB rfl];unfold qD
  rfl
 ·obtain⟨m,rfl⟩:∃m,n=m+1:=⟨n-1,by omega⟩
  have I:kU s 93 a=false:=by
   by_cases F:a<s.size
   ·have:=kC F 93;rw[show((93:Nat):Int)=93 from rfl]at this;rw[this,aF];exact λ e=>D ⟨by omega,F,e⟩
   ·exact wP (by omega) 93
  by_cases U:0<m
  ·refine⟨m,by have:=hn (by omega);omega,U,?_⟩;unfold Jm;rw[aA o]
   conv=>lhs;unfold lL
   rw[I,aA (by simp)]
   cases jQ s f a with
   | none=>rfl
   | some p=>simp
  ·
   have Q:s.size<=a:=by have:=hn (by omega);omega
   refine⟨s.size+1,by omega,by omega,?_⟩;have C:jQ s f a=none:=by
    unfold jQ;rw[D4];have:(qN s a).2.2=false:=by unfold qN;rw[aB Q]
    unfold AM;rw[aA (by rw[this];simp)]
   unfold Jm;rw[aA o]
   conv=>lhs;unfold lL
   rw[I,aA (by simp),C]
def Zj(w:tW)(G:Option ((Nat->Bool)×Nat))(e:Ending)(w':tW):Prop:=
 Bl w w'/\match G with
  | none=>∃a:Int,e=.returned (.tuple #[.slice none 0 0,.int .i64 a,.bool false])
  | some (f,a)=>e=.returned (.tuple #[.slice (some ⟨w.heap.size,0,none⟩) 256 256,.int .i64 (a:Int),.bool true])/\BA w' w.heap.size 256 f
theorem Rg(s:tB)(i:Nat)(w:tW)(hs:s.size<=500)(hi:i<s.size):
  QV MH 129 #[.string s,.int .i64 (i:Int)] w λ e w'=>Zj w (L4 s (i+1)) e w':=by
 obtain⟨i0,eT,hE,hF,hH⟩:=QR cV;have HI:QQ (Tryz.prog.info? 4=some i0/\i0.zero=some (.bool false)/\i0.size=1/\i0.bytes=1):=⟨eT,hE,hF,hH⟩
 clear eT hE hF hH;go_enter func129,ntmps129;go_upto_region 2 with(first|(at_make;refine QS w rfl _ _ 80 rfl w.heap.size 4 i0 (.bool false) 1 OH HI.o.1 HI.o.2.1 HI.o.2.2.1 .i64 .i64 _ 256 256 rfl rfl rfl rfl (by rw[HI.o.2.2.2];omega) (by unfold maxLen;omega) lR ?_;intro w1 bT hg;have F:QQ (LV w w1 256 (λ _=>false)):=⟨⟨hg.os,hg.tape,hg.output,hg.size,λ k hk=>hg.block k hk (by simp)⟩,BA.new bT⟩;clear bT hg))
 have HS:QQ (L4 s (i+1)=if kU s 94 (i+1)=true then(match qD s (i+1+1)with|none=>none|some (f,a1)=>some ((λ i=> !(f i)),a1))else qD s (i+1)):=rfl
 go_cut [8] from 17 to 28 (λ nb wc=>nb=.bool (kU s 94 (i+1))/\LV w wc 256 (λ _=>false))
 case first=>
  by_cases h1:i+1<s.size
  ·have hb:(s[i+1]'h1).toNat=bt s (i+1):=kL s (i+1) h1;have d1:decide ((i:Int)+1<(s.size:Int))=true:=by simp;omega
   have hT:(0:Int)<=(i:Int)+1/\(i:Int)+1<(s.size:Int):=by omega
   have HP:QQ (kU s 94 (i+1)=decide (bt s (i+1)=94)):=kC h1 94;generalize bt s (i+1)=y at*;by_cases D:y=94
   ·have d2:((y:Int)==94)=true:=by rw[D];rfl
    have HQ:QQ (kU s 94 (i+1)=true):=by unfold QQ;rw[HP.o];simp[D]
    clear D;go_wp2;go_meet
    case rel=>exact⟨by rw[HQ.o],⟨F.o.bl,F.o.ba⟩⟩
   ·have d2:((y:Int)==94)=false:=by rw[aC];omega
    have HQ:QQ (kU s 94 (i+1)=false):=by unfold QQ;rw[HP.o];simp[D]
    clear D;go_wp2;go_meet
    case rel=>exact⟨by rw[HQ.o],⟨F.o.bl,F.o.ba⟩⟩
  ·have d1:decide ((i:Int)+1<(s.size:Int))=false:=by simp;omega
   have HQ:QQ (kU s 94 (i+1)=false):=wP (by omega) 94;go_wp2;go_meet
   case rel=>exact⟨by rw[HQ.o],⟨F.o.bl,F.o.ba⟩⟩
 case rest=>
  obtain⟨rfl,bC⟩:=hcut;replace bC:=fV bC;clear F;generalize kU s 94 (i+1)=b at*;go_upto_if 31 with fail
  go_cut [1] from 32 to 33 (λ x wx=>∃a:Nat,x=.int .i64 (a:Int)/\a<=s.size+1/\LV w wx 256 (λ _=>false)/\L4 s (i+1)=if b=true then(match qD s a with|none=>none|some (f,a1)=>some ((λ i=> !(f i)),a1))else qD s a)
  case first=>
   cases b with
   | true=>
    go_wp2;go_meet
    case rel=>exact⟨i+1+1,by go_num,by omega,bC.o,HS.o⟩
   | false=>
    go_wp2;go_meet
    case rel=>exact⟨i+1,by go_num,by omega,bC.o,HS.o⟩
  case rest=>
   obtain⟨a0,rfl,hM,Z,C⟩:=hcut;replace Z:=fV Z;obtain⟨GX,eM⟩:=xE (L4 s (i+1))
   rw[eM]at C;replace C:=fV C;have bM:=fV eM;clear HS bC eM;obtain⟨G,hG⟩:=xE (qD s a0)
   have HG:=fV hG;rw[hG]at C;clear hG;go_upto_block 0 with fail
   go_cut [1,9,10,11,12,13,14] from 34 to 98 (λ x _ _ _ _ _ _ wx=>∃(f:Nat->Bool)(a:Nat),x=.int .i64 (a:Int)/\a<s.size/\LV w wx 256 f/\G=some (f,a+1))
   case first=>
    go_wp2_with fail
    go_loopw [1,9,10,11,12,13,14] (λ x kv _ _ _ _ _ wr=>∃(k n:Nat)(f:Nat->Bool)(a:Nat),kv=.int .i64 (k:Int)/\x=.int .i64 (a:Int)/\a<=s.size+1/\k<=a/\LV w wr 256 f/\G=Jm s k n f a/\(k=0->f=gK)/\(0<k->s.size<n+a)/\0<n) (λ x _ _ _ _ _ _ _=>s.size+2-(QP x).toNat)
    case atStart=>exact⟨0,1,gK,a0,rfl,rfl,hM,by omega,Z.o,HG.o.symm,λ _=>rfl,λ h=>by omega,by omega⟩
    case round=>
     obtain⟨k,n,f,a,rfl,rfl,ha,hU,V,hg,hz,hn,hA⟩:=hrel;replace V:=fV V;by_cases I:0<k/\a<s.size/\bt s a=93
     ·have HE:QQ (G=some (f,a+1)):=hg.trans (CC I.1 hA I.2.1 I.2.2);obtain⟨e1,X,e3⟩:=I;have hb:(s[a]'X).toNat=bt s a:=kL s a X;rw[e3]at hb;have d1:decide ((0:Int)<(k:Int))=true:=by simp;omega
      have d2:decide ((a:Int)<(s.size:Int))=true:=by simp;omega
      have eS:(0:Int)<=(a:Int)/\(a:Int)<(s.size:Int):=by omega
      clear e3 hz hn hg HG C Z;go_wp2;go_meet
      case rel=>exact⟨f,a,rfl,X,V.o,HE.o⟩
     ·obtain⟨m,hW,hP,gL⟩:=Yf hz hn hA I;have J:=fV (hg.trans gL);clear hg gL hz hn HG Z;have eR:=fV I;clear I;go_upto_region 8 with fail
      go_cut [49] from 36 to 48 (λ v wx=>v=.bool false/\LV w wx 256 f)
      case first=>
       by_cases hk:0<k
       ·have d1:decide ((0:Int)<(k:Int))=true:=by simp;omega
        by_cases X:a<s.size
        ·have hb:(s[a]'X).toNat=bt s a:=kL s a X;have d2:decide ((a:Int)<(s.size:Int))=true:=by simp;omega
         have eS:(0:Int)<=(a:Int)/\(a:Int)<(s.size:Int):=by omega
         have d3:((bt s a:Int)==93)=false:=by rw[aC];intro e3;exact eR.o ⟨hk,X,by omega⟩
         generalize bt s a=y at*;go_wp2;go_meet
         case rel=>exact⟨rfl,V.o⟩
        ·have d2:decide ((a:Int)<(s.size:Int))=false:=by simp;omega
         go_wp2;go_meet
         case rel=>exact⟨rfl,V.o⟩
       ·have d1:decide ((0:Int)<(k:Int))=false:=by simp;omega
        go_wp2;go_meet
        case rel=>exact⟨rfl,V.o⟩
      case rest=>
       obtain⟨rfl,bK⟩:=hcut;replace bK:=fV bK;clear V eR;go_wp2_with fail;refine(Hd s a _ (by omega) (by omega)).mono ?_;rintro e w5 ⟨rfl,q,rfl⟩;have bN:=fV (@D4 s a);have cF:=fV (@Lq s a);generalize qN s a=p at*;obtain⟨lo,nx,ok⟩:=p
       cases ok with
       | false=>
        have HN:QQ (GX=none):=by
         have hm:jQ s f a=none:=by unfold jQ;rw[bN.o];rfl
         have aT:G=none:=by rw[J.o,hm]
         unfold QQ;rw[C.o,aT];split<;>rfl
        have HB:=fV (bK.o.draw q).bl;clear bN cF J C;go_wp2;go_ret3;rw[bM.o,HN.o];exact⟨HB.o,_,rfl⟩
       | true=>
        obtain⟨hB,hC,hD⟩:=cF.o rfl;simp only at hB hC hD;clear cF;go_upto_region 13 with fail
        go_cut [70] from 61 to 69 (λ v wx=>v=.bool (kU s 45 nx)/\LV w wx 256 f)
        case first=>
         have HL:=fV (bK.o.draw q);by_cases X:nx<s.size
         ·have hb:(s[nx]'X).toNat=bt s nx:=kL s nx X;have d2:decide ((nx:Int)<(s.size:Int))=true:=by simp;omega
          have eS:(0:Int)<=(nx:Int)/\(nx:Int)<(s.size:Int):=by omega
          have HP:QQ (kU s 45 nx=decide (bt s nx=45)):=kC X 45;generalize bt s nx=y at*;by_cases D:y=45
          ·have d3:((y:Int)==45)=true:=by rw[D];rfl
           have HQ:QQ (kU s 45 nx=true):=by unfold QQ;rw[HP.o];simp[D]
           clear D;go_wp2;go_meet
           case rel=>exact⟨by rw[HQ.o],HL.o⟩
          ·have d3:((y:Int)==45)=false:=by rw[aC];omega
           have HQ:QQ (kU s 45 nx=false):=by unfold QQ;rw[HP.o];simp[D]
           clear D;go_wp2;go_meet
           case rel=>exact⟨by rw[HQ.o],HL.o⟩
         ·have d2:decide ((nx:Int)<(s.size:Int))=false:=by simp;omega
          have HQ:QQ (kU s 45 nx=false):=wP (by omega) 45;go_wp2;go_meet
          case rel=>exact⟨by rw[HQ.o],HL.o⟩
        case rest=>
         obtain⟨rfl,aL⟩:=hcut;replace aL:=fV aL;clear bK;have Q:QQ (jQ s f a=if kU s 45 nx=false then some (jI f lo lo,nx)else match jK s kJ (nx+1)with|none=>none|some (y,a2)=>if y<(lo:Int)then none else some (jI f lo y,a2)):=by unfold QQ jQ;rw[bN.o];rfl
         clear bN;generalize kU s 45 nx=bb at*;go_upto_if 70 with fail
         go_cut [11,12,13] from 71 to 86 (λ nv _ hv wx=>∃D n2:Nat,hv=.int .u8 (D:Int)/\nv=.int .i64 (n2:Int)/\lo<=D/\D<256/\a<n2/\n2<=s.size/\LV w wx 256 f/\jQ s f a=some (jI f lo D,n2))
         case first=>
          cases bb with
          | false=>
           go_wp2;go_meet
           case rel=>exact⟨lo,nx,rfl,rfl,lR,hD,hB,hC,aL.o,Q.o⟩
          | true=>
           have aW:=λ w=>Hd s (nx+1) w (by omega) (by omega)
           rw[show((nx+1:Nat):Int)=(nx:Int)+1 by omega]at aW;have Y:=fV (@D4 s (nx+1));have eL:=fV (@Lq s (nx+1));generalize qN s (nx+1)=p2 at*;obtain⟨D,n2,hQ⟩:=p2;go_wp2_with fail;refine(aW _).mono ?_;rintro e w6 ⟨rfl,q2,rfl⟩;have cN:=fV (aL.o.draw q2);clear aW aL
           cases hQ with
           | false=>
            have HN:QQ (GX=none):=by
             have hm:jQ s f a=none:=by rw[Q.o,aA (by simp),Y.o];rfl
             have aT:G=none:=by rw[J.o,hm]
             unfold QQ;rw[C.o,aT];split<;>rfl
            clear Q Y eL J C;go_wp2;go_ret3;rw[bM.o,HN.o];exact⟨cN.o.bl,_,rfl⟩
           | true=>
            obtain⟨y1,y2,y3⟩:=eL.o rfl;have y1:nx+1<n2:=y1;have y2:n2<=s.size:=y2;have y3:D<256:=y3;clear eL;by_cases eN:D<lo
            ·have dl:=dT D lo (by omega)
             have HN:QQ (GX=none):=by
              have hm:jQ s f a=none:=by
               rw[Q.o,aA (by simp),Y.o];show(if((D:Nat):Int)<(lo:Int)then none else some (jI f lo (D:Int),n2))=none;rw[aB (by omega)]
              have aT:G=none:=by rw[J.o,hm]
              unfold QQ;rw[C.o,aT];split<;>rfl
             clear Q Y J C;go_wp2;go_ret3;rw[bM.o,HN.o];exact⟨cN.o.bl,_,rfl⟩
            ·have dl:=dF D lo (by omega)
             have hL:QQ (jQ s f a=some (jI f lo D,n2)):=by
              unfold QQ;rw[Q.o,aA (by simp),Y.o];show(if((D:Nat):Int)<(lo:Int)then none else some (jI f lo (D:Int),n2))=_;rw[aA (by omega)]
             clear Q Y J C;go_wp2;go_meet
             case rel=>exact⟨D,n2,rfl,rfl,by omega,y3,by omega,y2,cN.o,hL.o⟩
         case rest=>
          obtain⟨D,n2,rfl,rfl,g1,g2,g3,g4,eX,bS⟩:=hcut;have eO:=fV eX;have hJ:QQ (G=Jm s (k+1) m (jI f lo D) n2):=by unfold QQ;rw[J.o,bS]
          clear eX bS Q J aL;go_upto_block 2 with fail
          go_cut [14] from 89 to 97 (λ _ wx=>LV w wx 256 (jI f lo D))
          case first=>
           go_wp2_with fail
           go_loopw [14] (λ cv wr=>∃(c:Nat)(f2:Nat->Bool),lo<=c/\c<=D+1/\cv=.int .i64 (c:Int)/\LV w wr 256 f2/\∀j,j<256->f2 j=(decide (lo<=j/\j<c)||f j)) (λ cv _=>D+1-(QP cv).toNat)
           case atStart=>exact⟨lo,f,lR,by omega,rfl,eO.o,λ j _=>by rw[decide_eq_false (by omega)];rfl⟩
           case round=>
            obtain⟨c,f2,hR,hS,rfl,U,aR⟩:=hrel;have F:=fV U;have aO:=fV aR;clear U aR;by_cases hV:c<=D
            ·have dc:decide ((c:Int)<=(D:Int))=true:=by simp;omega
             have hN:(0:Int)<=(c:Int)/\(c:Int)<(256:Int):=by omega
             have z0:=F.o.ba.c c (by omega);have z1:=F.o.ba.f c;have cP:QQ (∀j,j<256->(if j=c then true else f2 j)=(decide (lo<=j/\j<c+1)||f j)):=λ j hj=>by
              by_cases e:j=c
              ·rw[aB e,decide_eq_true (by omega)];rfl
              ·rw[aA e,aO.o j hj];congr 1;rw[decide_eq_decide];omega
             go_wp2;go_roundw
             case rel=>exact⟨c+1,_,by omega,by omega,by go_num,F.o.set (by omega) true,cP.o⟩
             case measure=>simp[QP];omega
            ·have dc:decide ((c:Int)<=(D:Int))=false:=by simp;omega
             have HE:QQ (LV w wr 256 (jI f lo D)):=F.o.congr (λ j hj=>by
              rw[aO.o j hj];unfold jI;congr 1;rw[decide_eq_decide];omega)
             go_wp2;go_meet
             case rel=>exact HE.o
          case rest=>
           have hK:=fV hcut;clear hcut eO;go_wp2;go_roundw
           case rel=>exact⟨k+1,m,_,n2,by go_num,rfl,by omega,by omega,hK.o,hJ.o,λ h=>by omega,λ _=>by omega,hP⟩
           case measure=>simp[QP];omega
   case rest=>
    obtain⟨f,a,rfl,ha,U,hG⟩:=hcut;have F:=fV U;have hI:QQ (GX=some ((λ j=>if b=true then !(f j)else f j),a+1)):=by
     unfold QQ;rw[C.o,hG]
     cases b with
     | true=>rfl
     | false=>rfl
    clear U hG C HG Z;go_wp2_with fail
    go_loopw [15] (λ cv wr=>∃(c:Nat)(f2:Nat->Bool),c<=256/\cv=.int .i64 (c:Int)/\LV w wr 256 f2/\∀j,j<256->f2 j=if j<c then(if b=true then !(f j)else f j)else f j) (λ cv _=>256-(QP cv).toNat)
    case atStart=>exact⟨0,f,zL,rfl,F.o,λ j _=>by rw[aA (by omega)]⟩
    case round=>
     obtain⟨c,f2,hc,rfl,U,aR⟩:=hrel;have bO:=fV U;have aO:=fV aR;clear U aR F;by_cases eN:c<256
     ·have dc:decide ((c:Int)<(256:Int))=true:=by simp;omega
      have hN:(0:Int)<=(c:Int)/\(c:Int)<(256:Int):=by omega
      have z0:=bO.o.ba.c c eN;have z1:=bO.o.ba.f c;obtain⟨v,ev⟩:=xE (f2 c)
      rw[ev]at z0;have cP:QQ (∀j,j<256->(if j=c then(v !=b)else f2 j)=if j<c+1 then(if b=true then !(f j)else f j)else f j):=λ j hj=>by
       have:=aO.o j hj;by_cases e:j=c
       ·subst e;rw[aA (show¬j<j by omega)]at this;rw[aB rfl,aB (show j<j+1 by omega),<-ev,this]
        cases b<;>cases f j<;>rfl
       ·rw[aA e,this];by_cases X:j<c
        ·rw[aB X,aB (show j<c+1 by omega)]
        ·rw[aA X,aA (show¬j<c+1 by omega)]
      clear ev;go_wp2;go_roundw
      case rel=>exact⟨c+1,_,by omega,by go_num,bO.o.set eN (v !=b),cP.o⟩
      case measure=>simp[QP];omega
     ·have dc:decide ((c:Int)<(256:Int))=false:=by simp;omega
      have HE:QQ (LV w wr 256 (λ j=>if b=true then !(f j)else f j)):=bO.o.congr (λ j hj=>by rw[aO.o j hj,aB (by omega)]);go_wp2;go_ret3;rw[bM.o,hI.o];exact⟨HE.o.bl,by go_num,HE.o.ba⟩
theorem Wx(c:Nat):kV (c:Int) kK=(nT (c:Int) && !Ib c kK):=by
 unfold kV Ib;congr 1;rw[NH,aE,Bool.not_eq_true',aF];constructor
 ·rintro h ⟨i,hi,e⟩;exact h i hi (by omega)
 ·intro h i hi e;exact h ⟨i,hi,by omega⟩
theorem Kk{s:tB}{i:Nat}(h:i<s.size)(o:bt s i=91):jC s i=L4 s (i+1):=by
 unfold jC;have:kU s 91 i=true:=by have:=kC h 91;rw[show((91:Nat):Int)=91 from rfl]at this;rw[this];simp[o]
 rw[aB this]
theorem Kh{s:tB}{i:Nat}(h:i<s.size)(o:bt s i=46):jC s i=some ((λ i=> !(gK i)),i+1):=by
 unfold jC;have C:kU s 91 i=false:=by have:=kC h 91;rw[show((91:Nat):Int)=91 from rfl]at this;rw[this];simp[o]
 have D:kU s 46 i=true:=by have:=kC h 46;rw[show((46:Nat):Int)=46 from rfl]at this;rw[this];simp[o]
 rw[C,aA (by simp),aB D]
theorem Kj{s:tB}{i:Nat}(h:i+1<s.size)(o:bt s i=92):jC s i=if(uW (bt s (i+1))).2=true then some (jI gK ((uW (bt s (i+1))).1:Int) ((uW (bt s (i+1))).1:Int),i+2)else none:=by
 unfold jC;have C:kU s 91 i=false:=by have:=kC (show i<s.size by omega) 91;rw[show((91:Nat):Int)=91 from rfl]at this;rw[this];simp[o]
 have D:kU s 46 i=false:=by have:=kC (show i<s.size by omega) 46;rw[show((46:Nat):Int)=46 from rfl]at this;rw[this];simp[o]
 have F:kU s 92 i=true:=by have:=kC (show i<s.size by omega) 92;rw[show((92:Nat):Int)=92 from rfl]at this;rw[this];simp[o]
 rw[C,aA (by simp),D,aA (by simp)];unfold jK;rw[aB F,Cb,aA (by omega)];unfold AM
 cases (uW (bt s (i+1))).2 with
 | true=>rfl
 | false=>rfl
theorem Er{s:tB}{i:Nat}(h:i<s.size)(J:bt s i≠91)(Q:bt s i≠46)(U:¬(bt s i=92/\i+1<s.size)):jC s i=if(nT (bt s i:Int) && !Ib (bt s i) kK)=true then some (jI gK (bt s i:Int) (bt s i:Int),i+1)else none:=by
 unfold jC;have F:kU s 91 i=false:=by have:=kC h 91;rw[show((91:Nat):Int)=91 from rfl]at this;rw[this];simp[J]
 have I:kU s 46 i=false:=by have:=kC h 46;rw[show((46:Nat):Int)=46 from rfl]at this;rw[this];simp[Q]
 rw[F,aA (by simp),I,aA (by simp)];unfold jK;have D:=kC h 92;rw[show((92:Nat):Int)=92 from rfl]at D;rw[D];by_cases o:bt s i=92
 ·have C:Ib (bt s i) kK=true:=by rw[o];decide+kernel
  rw[aB (by simp[o]),Cb,aB (by omega),C];simp
 ·rw[aA (by simp[o]),lK h,Wx]
  cases (nT (bt s i:Int) && !Ib (bt s i) kK)with
  | true=>rfl
  | false=>rfl
theorem V2(c j:Nat):jI gK (c:Int) (c:Int) j=decide (j=c):=by
 unfold jI gK;rw[Bool.or_false,decide_eq_decide];omega
def Zr(w:tW)(G:Option ((Nat->Bool)×Nat))(e:Ending)(w':tW):Prop:=
 Bl w w'/\match G with
  | none=>∃(v:tV)(a:Int),e=.returned (.tuple #[v,.int .i64 a,.bool false])
  | some (f,a)=>∃g,e=.returned (.tuple #[.slice (some ⟨g,0,none⟩) 256 256,.int .i64 (a:Int),.bool true])/\w.heap.size<=g/\g<w'.heap.size/\BA w' g 256 f
theorem Rq(s:tB)(i:Nat)(w:tW)(hs:s.size<=500)(hi:i<s.size):
  QV MH 123 #[.string s,.int .i64 (i:Int)] w λ e w'=>Zr w (jC s i) e w':=by
 obtain⟨i0,eR,eX,J,cN⟩:=QR cV;have HI:QQ (Tryz.prog.info? 4=some i0/\i0.zero=some (.bool false)/\i0.size=1/\i0.bytes=1):=⟨eR,eX,J,cN⟩
 clear eR eX J cN;have hb:(s[i]'hi).toNat=bt s i:=kL s i hi;have aO:=mT s i;have hH:(0:Int)<=(i:Int)/\(i:Int)<(s.size:Int):=by omega
 have Q:=fV (@Kk s i hi);have U:=fV (@Kh s i hi);have V:=fV (@Kj s i);have X:=fV (@Er s i hi);obtain⟨A,hA⟩:=xE (jC s i)
 rw[hA]at Q U V X;have HA:=fV hA;clear hA;obtain⟨y,hy⟩:=xE (bt s i)
 rw[hy]at hb aO Q U V X;clear hy;go_enter func123,ntmps123;go_upto_region 2 with(first|(at_make;refine QS w rfl _ _ 80 rfl w.heap.size 4 i0 (.bool false) 1 OH HI.o.1 HI.o.2.1 HI.o.2.2.1 .i64 .i64 _ 256 256 rfl rfl rfl rfl (by rw[HI.o.2.2.2];omega) (by unfold maxLen;omega) lR ?_;intro w1 aW hg;have J:=(aW.lt w.heap.size rfl).2;have F:QQ (LV w w1 256 (λ _=>false)):=⟨⟨hg.os,hg.tape,hg.output,hg.size,λ k hk=>hg.block k hk (by simp)⟩,BA.new aW⟩;clear aW hg))
 by_cases k1:y=91
 ·have t1:((y:Int)==91)=true:=by rw[k1];rfl
  have HE:=fV (Q.o k1);clear k1 Q U V X;go_wp2_with fail;refine(Rg s i w1 hs hi).mono ?_;rintro e w2 ⟨bK,Y⟩;have eL:=fV (F.o.bl.trans (bK.mono (NU J)));have cN:=bK.size;rw[<-HE.o]at Y
  cases A with
  | none=>
   obtain⟨a,rfl⟩:=Y;clear bK;go_wp2;go_ret3;rw[HA.o];exact⟨eL.o,_,_,rfl⟩
  | some p=>
   obtain⟨f,a⟩:=p;obtain⟨rfl,bS⟩:=Y;have gL:=fV bS;have cF:w1.heap.size<w2.heap.size:=by
    have hc:=bS.c 0 (by omega);apply LQ;intro hn;have:w2.heap[w1.heap.size]?=none:=by simp;omega
    unfold PH at hc;simp only[this]at hc
    cases hc
   clear bK bS;go_wp2;go_ret3;rw[HA.o];exact⟨eL.o,_,rfl,by omega,cF,gL.o⟩
 ·have t1:((y:Int)==91)=false:=by rw[aC];omega
  by_cases k2:y=46
  ·have t2:((y:Int)==46)=true:=by rw[k2];rfl
   have HE:=fV (U.o k2);clear k1 k2 Q U V X;go_wp2_with fail
   go_loopw [11] (λ cv wr=>∃(c:Nat)(f:Nat->Bool),c<=256/\cv=.int .i64 (c:Int)/\LV w wr 256 f/\∀j,j<c->f j=true) (λ cv _=>256-(QP cv).toNat)
   case atStart=>exact⟨0,_,zL,rfl,F.o,λ j h=>absurd h (by omega)⟩
   case round=>
    obtain⟨c,f,hc,rfl,eS,eO⟩:=hrel;have C:=fV eS;have eM:=fV eO;clear eS eO F;by_cases I:c<256
    ·have hG:(0:Int)<=(c:Int)/\(c:Int)<(256:Int):=by omega
     have z0:=C.o.ba.c c I;have z1:=C.o.ba.f c;have hD:QQ (∀j,j<c+1->(if j=c then true else f j)=true):=λ j hj=>by
      by_cases e:j=c
      ·rw[aB e]
      ·rw[aA e];exact eM.o j (by omega)
     go_wp2;go_roundw
     case rel=>exact⟨c+1,_,by omega,by go_num,C.o.set I true,hD.o⟩
     case measure=>simp[QP];omega
    ·have dc:decide ((c:Int)<(256:Int))=false:=by simp;omega
     have bO:QQ (LV w wr 256 (λ i=> !(gK i))):=C.o.congr (λ j hj=>by rw[eM.o j (by omega)];rfl);have cF:w.heap.size<wr.heap.size:=by
      have hc:=bO.o.ba.c 0 (by omega);apply LQ;intro hn;have:wr.heap[w.heap.size]?=none:=by simp;omega
      unfold PH at hc;simp only[this]at hc
      cases hc
     go_wp2;go_ret3;rw[HA.o,HE.o];exact⟨bO.o.bl,_,by go_num,lR,cF,bO.o.ba⟩
  ·have t2:((y:Int)==46)=false:=by rw[aC];omega
   by_cases k3:y=92/\i+1<s.size
   ·obtain⟨k4,k5⟩:=k3;have t3:((y:Int)==92)=true:=by rw[k4];rfl
    have d1:decide ((i:Int)+1<(s.size:Int))=true:=by simp;omega
    have hF:(s[i+1]'k5).toNat=bt s (i+1):=kL s (i+1) k5;have hI:(0:Int)<=(i:Int)+1/\(i:Int)+1<(s.size:Int):=by omega
    have HE:=fV (V.o k5 k4);have aT:=mT s (i+1);obtain⟨c,hc⟩:=xE (bt s (i+1))
    rw[hc]at hF HE aT;have I:=Th aT;have bT:=λ W=>Ah c W aT
    obtain⟨x,ok,hx⟩:∃x ok,uW c=(x,ok):=⟨_,_,rfl⟩
    rw[hx]at HE I bT;have hB:=fV bT;have I:x<256:=I;clear k1 k2 k4 Q U V X hc hx bT;go_wp2_with fail;refine(hB.o _).mono ?_;rintro e w2 ⟨rfl,q,rfl⟩;have C:=fV (F.o.draw q);have z0:=C.o.ba.c x I;have z1:=C.o.ba.f x;have eT:(0:Int)<=(x:Int)/\(x:Int)<(256:Int):=by omega
    have D:=fV ((C.o.set I true).congr (al':=jI gK (x:Int) (x:Int)) (λ j _=>by rw[V2];by_cases e:j=x<;>simp[e]));have bM:w.heap.size<(w1.drewN q).heap.size:=J;clear F;go_wp2;go_ret3;rw[HA.o,HE.o]
    cases ok with
    | true=>exact⟨D.o.bl,_,by go_num,lR,by simpa[ND]using J,D.o.ba⟩
    | false=>exact⟨D.o.bl,_,_,rfl⟩
   ·have HE:=fV (X.o k1 k2 k3);have hC:=fV k3;have eN:=fV (λ W=>L2 y W aO);have bN:=fV (λ W=>K8 y kK W (by decide));have hE:QQ (kK=⟨#[92,124,42,43,63,46,40,41,91,93]⟩):=rfl;generalize nT (y:Int)=vs at*;generalize Ib y kK=am at*;rw[hE.o]at bN;clear k1 k2 Q U V X;by_cases k4:y=92
    ·have t3:((y:Int)==92)=true:=by rw[k4];rfl
     have d1:decide ((i:Int)+1<(s.size:Int))=false:=by
      have:¬i+1<s.size:=λ h=>hC.o ⟨k4,h⟩
      simp;omega
     clear k4;go_wp2_with fail;refine(bN.o _).mono ?_;rintro e w2 ⟨rfl,q,Z⟩;have aR:QQ (LV w w2 256 (λ _=>false)):=by unfold QQ;rw[Z];exact F.o.draw q
     have cP:w.heap.size<w2.heap.size:=by rw[Z];exact J
     clear Z;go_wp2_with fail;refine(eN.o _).mono ?_;rintro e w3 ⟨rfl,q2,aL⟩;have C:QQ (LV w w3 256 (λ _=>false)):=by unfold QQ;rw[aL];exact aR.o.draw q2
     have bC:w.heap.size<w3.heap.size:=by rw[aL];exact cP
     clear aL aR;have z0:=C.o.ba.c y aO;have z1:=C.o.ba.f y;have eT:(0:Int)<=(y:Int)/\(y:Int)<(256:Int):=by omega
     have D:=fV ((C.o.set aO true).congr (al':=jI gK (y:Int) (y:Int)) (λ j _=>by rw[V2];by_cases e:j=y<;>simp[e]));have bM:w.heap.size<(w3.setCell ⟨w.heap.size,y,none⟩ (.bool true)).heap.size:=by simpa[ND]using bC
     clear F
     cases vs with
     | false=>
      go_wp2;go_ret3;rw[HA.o,HE.o];exact⟨D.o.bl,_,_,rfl⟩
     | true=>
      cases am with
      | true=>
       go_wp2;go_ret3;rw[HA.o,HE.o];exact⟨D.o.bl,_,_,rfl⟩
      | false=>
       go_wp2;go_ret3;rw[HA.o,HE.o];exact⟨D.o.bl,_,by go_num,lR,bM,D.o.ba⟩
    ·have t3:((y:Int)==92)=false:=by rw[aC];omega
     clear k4;go_wp2_with fail;refine(bN.o _).mono ?_;rintro e w2 ⟨rfl,q,Z⟩;have aR:QQ (LV w w2 256 (λ _=>false)):=by unfold QQ;rw[Z];exact F.o.draw q
     have cP:w.heap.size<w2.heap.size:=by rw[Z];exact J
     clear Z;go_wp2_with fail;refine(eN.o _).mono ?_;rintro e w3 ⟨rfl,q2,aL⟩;have C:QQ (LV w w3 256 (λ _=>false)):=by unfold QQ;rw[aL];exact aR.o.draw q2
     have bC:w.heap.size<w3.heap.size:=by rw[aL];exact cP
     clear aL aR;have z0:=C.o.ba.c y aO;have z1:=C.o.ba.f y;have eT:(0:Int)<=(y:Int)/\(y:Int)<(256:Int):=by omega
     have D:=fV ((C.o.set aO true).congr (al':=jI gK (y:Int) (y:Int)) (λ j _=>by rw[V2];by_cases e:j=y<;>simp[e]));have bM:w.heap.size<(w3.setCell ⟨w.heap.size,y,none⟩ (.bool true)).heap.size:=by simpa[ND]using bC
     clear F
     cases vs with
     | false=>
      go_wp2;go_ret3;rw[HA.o,HE.o];exact⟨D.o.bl,_,_,rfl⟩
     | true=>
      cases am with
      | true=>
       go_wp2;go_ret3;rw[HA.o,HE.o];exact⟨D.o.bl,_,_,rfl⟩
      | false=>
       go_wp2;go_ret3;rw[HA.o,HE.o];exact⟨D.o.bl,_,by go_num,lR,bM,D.o.ba⟩
section
structure NV where
 x:RN
 l:tV
 i:tV
def NV.cells(t:NV):List tV:= [.int .i64 (t.x.k:Int),t.l,t.i]
def Zf(l:List NV):List tV:=l.flatMap NV.cells
def jB(l:List NV):List RN:=l.map NV.x
theorem FG(l:List NV)(t:NV):Zf (l++[t])=Zf l++t.cells:=by unfold Zf;simp
theorem nP(l:List NV)(t:NV):jB (l++[t])=jB l++[t.x]:=by unfold jB;simp
theorem lB(l:List NV):(jB l).length=l.length:=by unfold jB;simp
theorem Tx:∀(l:List NV)(j:Nat)(t:NV),l[j]?=some t->(Zf l)[j*3]?=some (.int .i64 (t.x.k:Int))/\(Zf l)[j*3+1]?=some t.l/\(Zf l)[j*3+2]?=some t.i
 | [],j,t,h=>by simp at h
 | x::l,0,t,h=>by
  have e:=sJ h
  subst e;exact⟨rfl,rfl,rfl⟩
 | x::l,j+1,t,h=>by
  have:=Tx l j t (by simpa using h);have e:Zf (x::l)=.int .i64 (x.x.k:Int)::x.l::x.i::Zf l:=rfl;rw[e,show(j+1)*3=j*3+1+1+1 by omega];refine⟨by simpa using this.1,?_,?_⟩
  ·rw[show j*3+1+1+1+1=(j*3+1)+1+1+1 by omega];simpa using this.2.1
  ·rw[show j*3+1+1+1+2=(j*3+2)+1+1+1 by omega];simpa using this.2.2
theorem Ue{w:tW}{a:Option Addr}{xs:List tV}(h:w.ownsRow B T z (.slice a n aJ) n xs):n<=aJ:=by
 rcases h.2 with⟨e,_⟩|⟨g,o,C,e,_,_,F,_⟩
 ·injection e with _ I D;omega
 ·injection e with _ _ D;omega
def T0(w:tW)(O:Nat->Nat)(t:NV):Prop:=
 (t.x.k=0/\t.x.l=[]/\t.l=.slice none 0 0/\∃g,t.i=.slice (some ⟨g,0,none⟩) 256 256/\O g=4/\g<w.heap.size/\BA w g 256 t.x.f)\/
 (t.x.k≠0/\t.i=.slice none 0 0/\∃g aJ,t.l=.slice (some ⟨g,0,none⟩) t.x.l.length aJ/\O g=4/\g<w.heap.size/\(∀(i m:Nat),t.x.l[i]?=some m->w.cell? ⟨g,i,none⟩=some (.int .i64 (m:Int)))/\t.x.l.length<=aJ)
variable {w w':tW}{O O':Nat->Nat}{fb nR pl cn:Nat}{L:List NV}{vN vR:tV}{rc:List tV}
theorem T0.keep{t:NV}(h:T0 w O t)(X:w.heap.size<=w'.heap.size)(V:∀k,k<w.heap.size->O k=4->w'.heap[k]?=w.heap[k]? /\O' k=O k):T0 w' O' t:=by
 rcases h with⟨J,Q,Y,g,U,o,C,D⟩|⟨J,Q,g,aJ,U,o,C,D⟩
 ·obtain⟨F,I⟩:=V g C o;exact .inl ⟨J,Q,Y,g,U,I.trans o,MI C X,⟨λ i hi=>(LK (w:=w) (a:=⟨g,i,none⟩) F).trans (D.c i hi),λ i=>(ML (w:=w) (a:=⟨g,i,none⟩) F).trans (D.f i)⟩⟩
 ·obtain⟨F,I⟩:=V g C o;exact .inr ⟨J,Q,g,aJ,U,I.trans o,MI C X,λ i m Z=>(LK (w:=w) (a:=⟨g,i,none⟩) F).trans (D.1 i m Z),D.2⟩
structure FN(fb:Nat)(w:tW)(O:Nat->Nat)(L:List NV)(vN vR:tV)(rc:List tV)(nR pl cn:Nat):Prop where
 c0:w.cell? ⟨fb,0,none⟩=some vN
 c1:w.cell? ⟨fb,1,none⟩=some vR
 c2:w.cell? ⟨fb,2,none⟩=some (.int .i64 (pl:Int))
 c3:w.cell? ⟨fb,3,none⟩=some (.int .i64 (cn:Int))
 fz:∀i,w.frozen? ⟨fb,i,none⟩=false
 wt:O fb=1/\fb<w.heap.size
 rn:w.ownsRow (fb+1) 180 3 vN L.length (Zf L)
 rr:w.ownsRow (fb+1) 82 3 vR nR rc
 tn:∀k,vN.ownBlock=some k->O k=2
 tr:∀k,vR.ownBlock=some k->O k=3
 nd:∀t∈L,T0 w O t
 cl:gI (jB L)
 fr:∀k,w.heap.size<=k->O k=0
theorem FN.keep(h:FN fb w O L vN vR rc nR pl cn)(I:w.heap.size<=w'.heap.size)(C:∀k,k<w.heap.size->O k≠0->w'.heap[k]?=w.heap[k]? /\O' k=O k)(Q:∀k,w'.heap.size<=k->O' k=0):FN fb w' O' L vN vR rc nR pl cn:=by
 obtain⟨V,F⟩:=h.wt;obtain⟨D,J⟩:=C fb F (by omega);exact⟨(LK (w:=w) (a:=⟨fb,0,none⟩) D).trans h.c0,(LK (w:=w) (a:=⟨fb,1,none⟩) D).trans h.c1,(LK (w:=w) (a:=⟨fb,2,none⟩) D).trans h.c2,(LK (w:=w) (a:=⟨fb,3,none⟩) D).trans h.c3,
  λ i=>(ML (w:=w) (a:=⟨fb,i,none⟩) D).trans (h.fz i),⟨J.trans V,MI F I⟩,
  iH h.rn (λ k o=>(C k (h.rn.lt k o).2 (by have:=h.tn k o;omega)).1),iH h.rr (λ k o=>(C k (h.rr.lt k o).2 (by have:=h.tr k o;omega)).1),
  λ k o=>(C k (h.rn.lt k o).2 (by have:=h.tn k o;omega)).2.trans (h.tn k o),λ k o=>(C k (h.rr.lt k o).2 (by have:=h.tr k o;omega)).2.trans (h.tr k o),
  λ t U=>(h.nd t U).keep I (λ k o X=>C k o (by omega)),h.cl,Q⟩
theorem FN.below(h:FN fb w O L vN vR rc nR pl cn)(o:Bl w w'):FN fb w' O L vN vR rc nR pl cn:=
 h.keep o.size (λ k C _=>⟨o.block k C,rfl⟩) (λ k C=>h.fr k (NW o.size C))
theorem FN.draw(h:FN fb w O L vN vR rc nR pl cn)(n:Nat):FN fb (w.drewN n) O L vN vR rc nR pl cn:=h.below ⟨rfl,rfl,rfl,lR,λ _ _=>rfl⟩
theorem FN.tag(h:FN fb w O L vN vR rc nR pl cn){g:Nat}(hg:O g=0)(D:g<w.heap.size):FN fb w (λ k=>if k=g then 4 else O k) L vN vR rc nR pl cn:=
 h.keep lR (λ k _ o=>⟨rfl,aA (λ e=>o (by rw[e];exact hg))⟩) (λ k C=>by
  simp only[aA (show k≠g by omega)];exact h.fr k C)
structure FK(w:tW)(O:Nat->Nat)(w':tW)(O':Nat->Nat):Prop where
 os:w'.os=w.os
 tape:w'.tape=w.tape
 output:w'.output=w.output
 size:w.heap.size<=w'.heap.size
 block:∀k,k<w.heap.size->O k≠1->O k≠2->O k≠3->w'.heap[k]?=w.heap[k]?
 own:∀k,k<w.heap.size->O' k=O k
theorem FK.refl(w:tW)(O:Nat->Nat):FK w O w O:=⟨rfl,rfl,rfl,lR,λ _ _ _ _ _=>rfl,λ _ _=>rfl⟩
theorem FK.trans{w2:tW}{O2:Nat->Nat}(h:FK w O w' O')(k:FK w' O' w2 O2):FK w O w2 O2:=
 ⟨k.os.trans h.os,k.tape.trans h.tape,k.output.trans h.output,NW h.size k.size,λ i hi o C D=>(k.block i (MI hi h.size) (by rw[h.own i hi];exact o) (by rw[h.own i hi];exact C) (by rw[h.own i hi];exact D)).trans (h.block i hi o C D),λ i hi=>(k.own i (MI hi h.size)).trans (h.own i hi)⟩
theorem FK.of_below(o:Bl w w')(O:Nat->Nat):FK w O w' O:=⟨o.os,o.tape,o.output,o.size,λ k C _ _ _=>o.block k C,λ _ _=>rfl⟩
theorem FN.add(h:FN fb w O L vN vR rc nR pl cn){w4:tW}{o:Obj}{g aJ n:Nat}{t:NV}{v0:tV}(hn:L.length=n)(aW:vN=v0)
  (I:w4.ownsRow (fb+1) 180 3 (.slice (some ⟨g,0,none⟩) (n+1) aJ) (n+1) (Zf L++t.cells))
  (F:(w.alloc o).grownBy w4 v0.ownBlock) (V:v0.ownBlock=some g\/g=w.heap.size+1) (ht:T0 w O t) (Y:∀m,m∈t.x.l->m<n):
  FN fb (w4.setCell ⟨fb,0,none⟩ (.slice (some ⟨g,0,none⟩) (n+1) aJ)) (λ k=>if k=g then 2 else O k) (L++[t]) (.slice (some ⟨g,0,none⟩) (n+1) aJ) vR rc nR pl cn/\
  FK w O (w4.setCell ⟨fb,0,none⟩ (.slice (some ⟨g,0,none⟩) (n+1) aJ)) (λ k=>if k=g then 2 else O k):=by
 subst hn aW;obtain⟨o1,b1⟩:=h.wt;have bK:=F.size;have ez:(w.alloc o).heap.size=w.heap.size+1:=by simp
 have bC:=(I.lt g rfl).2;have bM:(w4.setCell ⟨fb,0,none⟩ (.slice (some ⟨g,0,none⟩) (L.length+1) aJ)).heap.size=w4.heap.size:=by simp[ND]
 have U:g<w.heap.size->O g=2:=λ hg=>by
  rcases V with e|e
  ·exact h.tn g e
  ·omega
 have D:∀k,k<w.heap.size->O k≠1->O k≠2->(w4.setCell ⟨fb,0,none⟩ (.slice (some ⟨g,0,none⟩) (L.length+1) aJ)).heap[k]?=w.heap[k]? /\(if k=g then 2 else O k)=O k:=λ k C aT Q=>by
  have aO:k≠fb:=λ e=>aT (by rw[e];exact o1)
  have aR:k≠g:=λ e=>Q (by rw[e];exact U (by omega))
  refine⟨(iC w4 fb 0 _ aO).trans ((F.block k (by omega) (λ e=>Q (h.tn k e.symm))).trans (MC w o k C)),aA aR⟩
 have J:w4.heap[fb]?=w.heap[fb]? :=(F.block fb (by omega) (λ e=>by have:=h.tn fb e.symm;omega)).trans (MC w o fb b1);have Z:g≠fb:=by have:=(I.lt g rfl).1;omega
 have X:∀i,i≠0->(w4.setCell ⟨fb,0,none⟩ (.slice (some ⟨g,0,none⟩) (L.length+1) aJ)).cell? ⟨fb,i,none⟩=w.cell? ⟨fb,i,none⟩:=λ i hi=>by
  rw[MN (h:=by intro e';injection e';omega)];exact LK (w:=w) (a:=⟨fb,i,none⟩) J
 refine⟨⟨MO _ _ _ ((LK (w:=w) (a:=⟨fb,0,none⟩) J).trans h.c0),(X 1 (by omega)).trans h.c1,(X 2 (by omega)).trans h.c2,(X 3 (by omega)).trans h.c3,λ i=>by rw[MW];exact(ML (w:=w) (a:=⟨fb,i,none⟩) J).trans (h.fz i),⟨(aA (Ne.symm Z)).trans o1,by omega⟩,?_,?_,λ k C=>?_,λ k C=>?_,λ u hu=>?_,?_,λ k C=>?_⟩,?_⟩
 ·rw[FG,LF,LU];exact QO I (show fb<fb+1 by omega) _
 ·exact iH h.rr (λ k C=>(D k (h.rr.lt k C).2 (by have:=h.tr k C;omega) (by have:=h.tr k C;omega)).1)
 ·have aL:g=k:=by simpa[NF]using C
  exact aB aL.symm
 ·have:=h.tr k C;rw[(D k (h.rr.lt k C).2 (by omega) (by omega)).2];exact this
 ·rcases LN.1 hu with e|e
  ·exact(h.nd u e).keep (by omega) (λ k C ho=>D k C (by omega) (by omega))
  ·rw[LI]at e;rw[e];exact ht.keep (by omega) (λ k C ho=>D k C (by omega) (by omega))
 ·rw[nP];exact h.cl.snoc (λ m hm=>by rw[lB];exact Y m hm)
 ·rw[aA (by omega)];exact h.fr k (by omega)
 ·have hs:=(OF 0 w4).setCell (p:=⟨fb,0,none⟩) zL (.slice (some ⟨g,0,none⟩) (L.length+1) aJ);refine⟨hs.os.trans F.os,hs.tape.trans F.tape,hs.output.trans F.output,by omega,λ k C h1 h2 _=>(D k C h1 h2).1,λ k C=>?_⟩;by_cases e:k=g
  ·simp only[e,if_true];exact(U (by omega)).symm
  ·simp only[aA e]
end
section
theorem eP:(Tryz.prog.info? 180).map (λ i=>(i.zero,i.size,i.bytes))=some (some (.agg #[.int .i64 0,.slice none 0 0,.slice none 0 0]),3,56):=by kernel_rfl
attribute [local go_sem ↓] Go.wp_at_zero Go.wp_at_succ
def KI(fb:Nat)(w:tW)(O:Nat->Nat)(L:List NV)(t:NV)(vR:tV)(rc:List tV)(nR pl cn:Nat)(e:Ending)(w':tW):Prop:=
 e=.returned (.int .i64 (L.length:Int))/\∃O' o,FN fb w' O' (L++[t]) o vR rc nR pl cn/\FK w O w' O'
theorem uQ{w:tW}{O:Nat->Nat}{L:List NV}{vN vR:tV}{rc:List tV}(h:FN fb w O L vN vR rc nR pl cn)(k:Nat)(la D:Option Addr)(J I n2 F:Nat)(x:RN)(Z:x.k=k)(ht:T0 w O ⟨x,.slice la J I,.slice D n2 F⟩)(aO:∀m,m∈x.l->m<L.length)(hn:L.length<=100000):
  QV MH 103 #[.pointer (some ⟨fb,0,none⟩),.agg #[.int .i64 (k:Int),.slice la J I,.slice D n2 F]] w (KI fb w O L ⟨x,.slice la J I,.slice D n2 F⟩ vR rc nR pl cn):=by
 have hB:Bl w (w.alloc (.cells #[.int .i64 (k:Int),.slice la J I,.slice D n2 F] 180)):=bR.alloc lR _;have HF:=fV (h.below hB);have HT:=fV (ht.keep (w':=w.alloc (.cells #[.int .i64 (k:Int),.slice la J I,.slice D n2 F] 180)) (O':=O) hB.size (λ k Z _=>⟨hB.block k Z,rfl⟩));have bN:=fV (FK.of_below hB O);have g0:(w.alloc (.cells #[.int .i64 (k:Int),.slice la J I,.slice D n2 F] 180)).cell? ⟨w.heap.size,0,none⟩=some (.int .i64 (k:Int)):=by rw[NG];rfl
 have g1:(w.alloc (.cells #[.int .i64 (k:Int),.slice la J I,.slice D n2 F] 180)).cell? ⟨w.heap.size,1,none⟩=some (.slice la J I):=by rw[NG];rfl
 have g2:(w.alloc (.cells #[.int .i64 (k:Int),.slice la J I,.slice D n2 F] 180)).cell? ⟨w.heap.size,2,none⟩=some (.slice D n2 F):=by rw[NG];rfl
 have cN:fb<(w.alloc (.cells #[.int .i64 (k:Int),.slice la J I,.slice D n2 F] 180)).heap.size:=HF.o.wt.2;have c0:=HF.o.c0;have f0:=HF.o.fz 0;have V:=fV HF.o.rn;obtain⟨a0,q0,e0⟩:=gA h.rn;have bC:=fV e0;obtain⟨n,en⟩:=xE (L.length)
 rw[e0]at c0 V;rw[en]at c0 V hn;have U:=fV en;have aL:QQ (∀k,(OD a0 n q0).ownBlock=some k->fb+1<=k):=λ k Z=>(V.o.lt k Z).1
 have aW:=fV aO;have bS:=fV Z;clear h hB ht aO e0 en Z;go_enter func103,ntmps103;go_upto_region 1 with fail;generalize w.alloc (.cells #[.int .i64 (k:Int),.slice la J I,.slice D n2 F] 180)=W at*;go_region_law ((refine sF W.drew rfl (.tmp 9) (.tmp 11) 62 rfl (fb+1) 180 (.agg #[.int .i64 0,.slice none 0 0,.slice none 0 0]) 3 56 underlying62 eP rfl (by decide) (by decide) (.slice a0 n q0) n (Zf L) [.int .i64 (k:Int),.slice la J I,.slice D n2 F] _ rfl V.o W.heap.size rfl rfl rfl (by simp[NN]) (by omega) (by show fb+1<=W.heap.size;omega) ?_;intro g4 cap4 w4 Q C X cF;have m3:=((gH C (k:=fb) (by show fb<W.heap.size;omega) (λ e=>by have:=aL.o fb e.symm;omega)).1 0).trans c0;have n3:=((gH C (k:=fb) (by show fb<W.heap.size;omega) (λ e=>by have:=aL.o fb e.symm;omega)).2 0).trans f0;have bT:=fV Q;have bM:=fV C;have aT:=fV X;clear Q C X))
 all_goals
  obtain⟨Y,aR⟩:=(HF.o.draw 1).add (t:=⟨x,.slice la J I,.slice D n2 F⟩) U.o (by rw[bC.o,U.o]) (by unfold NV.cells;rw[bS.o];exact bT.o) bM.o aT.o (HT.o.keep lR (λ _ _ _=>⟨rfl,rfl⟩)) (λ m hm=>by rw[<-U.o];exact aW.o m hm);have bK:=fV Y;have bO:=fV (bN.o.trans ((FK.of_below (w:=W) (w':=W.drewN 1) ⟨rfl,rfl,rfl,lR,λ _ _=>rfl⟩ O).trans aR));have d0:=Y.c0;have wn:IntKind.i64.wrap ((n:Int)+1-1)=(n:Int):=by rw[show(n:Int)+1-1=(n:Int) by omega];exact IntWalk.i64_in _ (by omega)
  clear Y aR c0 f0 g0 g1 g2 m3 n3;generalize w4.setCell ⟨fb,0,none⟩ (.slice (some ⟨g4,0,none⟩) (n+1) cap4)=W5 at*;go_wp2;go_ret;exact⟨by rw[U.o];first|rfl|(simp;done)|(congr 2;omega),_,_,bK.o,bO.o⟩
end
def KE(w:tW)(t:NV):Prop:=
 (t.x.k=0/\t.x.l=[]/\t.l=.slice none 0 0/\∃g,t.i=.slice (some ⟨g,0,none⟩) 256 256/\g<w.heap.size/\∀i,i<256->w.cell? ⟨g,i,none⟩=some (.bool (t.x.f i)))\/
 (t.x.k≠0/\t.i=.slice none 0 0/\∃g aJ,t.l=.slice (some ⟨g,0,none⟩) t.x.l.length aJ/\g<w.heap.size/\(∀(i m:Nat),t.x.l[i]?=some m->w.cell? ⟨g,i,none⟩=some (.int .i64 (m:Int)))/\t.x.l.length<=aJ)
theorem T0.read{w:tW}{O:Nat->Nat}{t:NV}(h:T0 w O t):KE w t:=by
 rcases h with⟨o,C,J,g,D,_,F,I⟩|⟨o,C,g,aJ,D,_,F,I⟩
 ·exact .inl ⟨o,C,J,g,D,F,I.c⟩
 ·exact .inr ⟨o,C,g,aJ,D,F,I⟩
theorem KE.below{w w':tW}{t:NV}(h:KE w t)(I:Below B w w')(V:w.heap.size<=B):KE w' t:=by
 have X:=I.size;rcases h with⟨C,D,J,g,F,Q,o⟩|⟨C,D,g,aJ,F,Q,o⟩
 ·exact .inl ⟨C,D,J,g,F,by omega,λ i hi=>(I.cell (p:=⟨g,i,none⟩) (by show g<B;omega)).trans (o i hi)⟩
 ·exact .inr ⟨C,D,g,aJ,F,by omega,λ i m U=>(I.cell (p:=⟨g,i,none⟩) (by show g<B;omega)).trans (o.1 i m U),o.2⟩
structure FR(fb:Nat)(w:tW)(L:List NV)(gN aJ:Nat):Prop where
 c0:w.cell? ⟨fb,0,none⟩=some (.slice (some ⟨gN,0,none⟩) L.length aJ)
 nd:∀(j:Nat)(t:NV),L[j]?=some t->w.rangeAt gN (j*3) t.cells/\KE w t
 b0:fb<w.heap.size
 b1:gN<w.heap.size
theorem FR.below{w w':tW}{L:List NV}(h:FR fb w L gN aJ)(o:Below B w w')(D:w.heap.size<=B):FR fb w' L gN aJ:=by
 have Q:=o.size;have I:=h.b0;have J:=h.b1;exact⟨(o.cell (p:=⟨fb,0,none⟩) (by show fb<B;omega)).trans h.c0,λ j t C=>⟨λ i v F=>(o.cell (p:=⟨gN,j*3+i,none⟩) (by show gN<B;omega)).trans ((h.nd j t C).1 i v F),(h.nd j t C).2.below o D⟩,by omega,by omega⟩
theorem FN.read{w:tW}{O:Nat->Nat}{L:List NV}{vN vR:tV}{rc:List tV}(h:FN fb w O L vN vR rc nR pl cn)(hL:0<L.length):∃gN aJ,vN=.slice (some ⟨gN,0,none⟩) L.length aJ/\FR fb w L gN aJ:=by
 have C:=h.rn;rcases iL C with e|⟨g,aJ,e⟩
 ·exfalso;obtain⟨a,c,F⟩:=gA C;rw[e]at F;injection F with _ e3 _;omega
 ·refine⟨g,aJ,e,by rw[<-e];exact h.c0,λ j t I=>⟨λ i v o=>?_,(h.nd t (MA I)).read⟩,h.wt.2,(C.lt g (by rw[e];rfl)).2⟩;have U:=C.cells (g:=g) (by rw[e];rfl);obtain⟨X,Y,Z⟩:=Tx L j t I;have D:∀u,(Zf L)[j*3+i]?=some u->w.cell? ⟨g,j*3+i,none⟩=some u:=λ u V=>by
   have:=U (j*3+i) u V;have Q:(⟨g,0,none⟩:Addr).add (j*3+i)=⟨g,j*3+i,none⟩:=by
    unfold Addr.add;split
    ·rename_i J;rw[J]
    ·rw[MJ]
   rw[Q]at this;exact this
  match i,o with
  | 0,o=>exact D v (by rw[MT,X];exact o)
  | 1,o=>exact D v (by rw[Y];exact o)
  | 2,o=>exact D v (by rw[Z];exact o)
  | i+3,o=>exact absurd o (by simp[NV.cells])
theorem cK:(Tryz.prog.info? 180).map (λ i=>i.size)=some 3:=by kernel_rfl
theorem NV.one{w:tW}{t:NV}(h:KE w t):∀v∈t.cells,v.oneCell'=true:=by
 intro v o;have o:v=.int .i64 (t.x.k:Int)\/v=t.l\/v=t.i:=by simpa[NV.cells]using o
 rcases h with⟨_,_,F,g,C,_⟩|⟨_,D,g,aJ,C,_⟩
 ·rcases o with e|e|e
  ·rw[e];rfl
  ·rw[e,F];rfl
  ·rw[e,C];rfl
 ·rcases o with e|e|e
  ·rw[e];rfl
  ·rw[e,C];rfl
  ·rw[e,D];rfl
theorem Q9{L:List NV}{t:NV}(h:L[n]?=some t):(jB L)[n]?=some t.x:=by unfold jB;rw[MF,h];rfl
theorem L0{L:List NV}(hs:qX (jB L))(hc:gI (jB L))(_hL:L.length<=100000):∀(n:Nat),n<L.length->∀(w:tW),FR fb w L gN aJ->
  QV MH 109 #[.pointer (some ⟨fb,0,none⟩),.int .i64 (n:Int)] w λ e w'=>e=.returned (.bool (xG (jB L) n))/\Bl w w':=by
 intro n
 induction n using MU with
 | ind n ih=>
  intro hn w h;obtain⟨t,Z⟩:∃t,L[n]?=some t:=⟨L[n],LD hn⟩
  have HE:=fV (JI hs hc (Q9 Z));have F:=hs n t.x (Q9 Z);have HC:=fV (hc n t.x (Q9 Z));have bT:=fV ih;have aO:=fV (h.nd n t Z).1;have Q:=fV (h.nd n t Z).2;have eL:(0:Int)<=(n:Int)/\(n:Int)<(L.length:Int):=by omega
  have c0:=h.c0;have HF:=fV h;have C:QQ (Bl w ((w.alloc (.cells #[.int .i64 0,.slice none 0 0,.slice none 0 0] 180)).setCells w.heap.size 0 t.cells)):=fX _ 0 _ _ (bR.alloc lR _) lR;have X:QQ ((w.alloc (.cells #[.int .i64 0,.slice none 0 0,.slice none 0 0] 180)).there w.heap.size 0 3):=iD _ _ _ _ _ rfl rfl;have V:QQ (((w.alloc (.cells #[.int .i64 0,.slice none 0 0,.slice none 0 0] 180)).setCells w.heap.size 0 t.cells).rangeAt w.heap.size 0 t.cells):=World.rangeAt_setCells_same _ _ _ _ X.o;have bK:w.heap.size<((w.alloc (.cells #[.int .i64 0,.slice none 0 0,.slice none 0 0] 180)).setCells w.heap.size 0 t.cells).heap.size:=by
   have:=(fX t.cells 0 (w.alloc (.cells #[.int .i64 0,.slice none 0 0,.slice none 0 0] 180)) w.heap.size (OF 0 _) zL).size;simp at this;omega
  have aT:=fV (NV.one Q.o);clear ih h Z;go_enter func109,ntmps109;go_upto_region 2 with(first
   | (refine wpList_load_mid rfl 180 (.tmp 15) rfl gN (n*3) rfl t.cells _ aO.o underlying180 rfl cK ?_)
   | (refine wpList_store_mid rfl 180 (.tmp 5) (.tmp 16) rfl w.heap.size 0 t.cells.toArray rfl rfl X.o cK (all_oneCell_toArray aT.o) ?_))
  generalize (w.alloc (.cells #[.int .i64 0,.slice none 0 0,.slice none 0 0] 180)).setCells w.heap.size 0 t.cells=W at*;have bS:=fV (HF.o.below C.o lR);have aR:=fV (Q.o.below C.o lR);have n0:W.cell? ⟨w.heap.size,0,none⟩=some (.int .i64 (t.x.k:Int)):=by have:=V.o 0 _ rfl;exact this
  have n1:W.cell? ⟨w.heap.size,1,none⟩=some t.l:=by have:=V.o 1 _ rfl;exact this
  clear X aO c0 V aT HF Q;have h5:t.x.k=0\/t.x.k=3\/t.x.k=4\/(t.x.k=1\/t.x.k=2):=by omega
  rcases h5 with e|e|e|e
  ·have J:QQ (xG (jB L) n=false):=by unfold QQ;rw[HE.o,aB e]
   rw[e]at n0;clear e F;go_wp2;go_ret;exact⟨by rw[J.o];rfl,C.o⟩
  ·have J:QQ (xG (jB L) n=true):=by unfold QQ;rw[HE.o,aA (by omega),aB (by omega)]
   rw[e]at n0;clear e F;go_wp2;go_ret;exact⟨by rw[J.o];rfl,C.o⟩
  ·have J:QQ (xG (jB L) n=true):=by unfold QQ;rw[HE.o,aA (by omega),aB (by omega)]
   rw[e]at n0;clear e F;go_wp2;go_ret;exact⟨by rw[J.o];rfl,C.o⟩
  ·obtain⟨g,lc,hl,hg,HG⟩:∃g lc,t.l=.slice (some ⟨g,0,none⟩) t.x.l.length lc/\g<W.heap.size/\QQ (∀(i m:Nat),t.x.l[i]?=some m->W.cell? ⟨g,i,none⟩=some (.int .i64 (m:Int))):=by
    rcases aR.o with⟨h0,_⟩|⟨_,_,g,lc,h1,h2,h3⟩
    ·omega
    ·exact⟨g,lc,h1,h2,fV h3.1⟩
   rw[hl]at n1;have cF:=F.2.2;have J:QQ (xG (jB L) n=if t.x.k=1 then t.x.l.all (xG (jB L))else t.x.l.any (xG (jB L))):=by unfold QQ;rw[HE.o,aA (by omega),aA (by omega)]
   have d0:((t.x.k:Int)==0)=false:=by rw[aC];omega
   have d3:((t.x.k:Int)==3)=false:=by rw[aC];omega
   have d4:((t.x.k:Int)==4)=false:=by rw[aC];omega
   have bN:=fV e;clear e F hl HE aR;generalize t.x.k=kk at*;generalize t.x.l=l at*;obtain⟨N,eN⟩:=xE (l.length)
   rw[eN]at n1 cF;have aL:=fV eN;clear eN;go_wp2
   go_loopw [6,7,8] (λ x y z wr=>∃(i:Nat)(a b:Bool),i<=N/\z=.int .i64 (i:Int)/\x=.bool a/\y=.bool b/\QQ (a=(l.take i).all (xG (jB L)))/\QQ (b=(l.take i).any (xG (jB L)))/\Bl W wr) (λ _ _ z _=>N-(QP z).toNat)
   case atStart=>exact⟨0,true,false,by omega,rfl,rfl,rfl,fV (by simp),fV (by simp),bR⟩
   case round=>
    obtain⟨i,a,b,hi,rfl,rfl,rfl,Ha,Hb,D⟩:=hrel;have I:=fV D;have m0:wr.cell? ⟨w.heap.size,0,none⟩=some (.int .i64 (kk:Int)):=(D.cell (p:=⟨w.heap.size,0,none⟩) bK).trans n0;have m1:wr.cell? ⟨w.heap.size,1,none⟩=some (.slice (some ⟨g,0,none⟩) N lc):=(D.cell (p:=⟨w.heap.size,1,none⟩) bK).trans n1;by_cases bC:i<N
    ·obtain⟨m,hm⟩:∃m,l[i]?=some m:=⟨l[i]'(by rw[aL.o];exact bC),LD _⟩
     have cN:=HC.o m (MA hm);have m2:wr.cell? ⟨g,i,none⟩=some (.int .i64 (m:Int)):=(D.cell (p:=⟨g,i,none⟩) hg).trans (HG.o i m hm);have cP:=iI i N (by omega)
     have HA:=fV (CI (xG (jB L)) l hm);have HY:=fV (CJ (xG (jB L)) l hm);have bO:=fV (bS.o.below D lR);clear D n0 n1 hm
     cases a<;>cases b
     all_goals
      go_wp2_with (go_at_call 109;refine(bT.o m cN (by omega) _ (bO.o.below ⟨rfl,rfl,rfl,lR,λ _ _=>rfl⟩ lR)).mono ?_;rintro e w5 ⟨rfl,aW⟩;have bM:=fV aW;clear aW)
      all_goals
      go_roundw
      case rel=>exact⟨i+1,_,_,bC,by go_num,rfl,rfl,fV (by rw[HA.o,<-Ha.o];simp),fV (by rw[HY.o,<-Hb.o];simp),I.o.trans (bM.o.mono I.o.size)⟩
      case measure=>simp[QP];omega
    ·have ei:i=N:=by omega
     have HT:QQ (l.take i=l):=by unfold QQ;rw[ei,<-aL.o];exact OY
     have dl:=dF i N (by omega)
     clear ei D n0 n1;rcases bN.o with Y|Y
     ·have U:QQ (xG (jB L) n=(l.take i).all (xG (jB L))):=by unfold QQ;rw[J.o,aB Y,HT.o]
      rw[Y]at m0;clear Y;go_wp2;go_ret;exact⟨by rw[U.o,<-Ha.o];rfl,C.o.trans (I.o.mono C.o.size)⟩
     ·have U:QQ (xG (jB L) n=(l.take i).any (xG (jB L))):=by unfold QQ;rw[J.o,aA (by omega),HT.o]
      rw[Y]at m0;clear Y;go_wp2;go_ret;exact⟨by rw[U.o,<-Hb.o];rfl,C.o.trans (I.o.mono C.o.size)⟩
section
variable {w w':tW}{O O':Nat->Nat}{fb nR pl cn:Nat}{L:List NV}{vN vR:tV}{rc:List tV}
def En(L:List NV)(pl:Nat):Prop:=qX (jB L)/\((jB L).filter (λ x=>x.k==0)).length=pl
theorem En.le(h:En L pl):pl<=L.length:=by
 rw[<-h.2,<-lB L];exact List.length_filter_le _ _
theorem En.place(h:En L pl){t:NV}(o:t.x.k=0)(C:t.x.l=[]):En (L++[t]) (pl+1):=by
 refine⟨by rw[nP];exact h.1.snoc ⟨by omega,λ e=>by omega,by rw[C];simp⟩,?_⟩;rw[nP,OP,LF,h.2];simp[o]
theorem En.more(h:En L pl){t:NV}(C:0<t.x.k/\t.x.k<=4)(o:t.x.k=3->∃m,t.x.l=[m])(D:t.x.l.length<=200):En (L++[t]) pl:=by
 refine⟨by rw[nP];exact h.1.snoc ⟨C.2,o,D⟩,?_⟩;rw[nP,OP,LF,h.2];have:(t.x.k==0)=false:=by rw[aC];omega
 simp[this]
theorem FN.pls(h:FN fb w O L vN vR rc nR pl cn)(p:Nat):FN fb (w.setCell ⟨fb,2,none⟩ (.int .i64 (p:Int))) O L vN vR rc nR p cn/\FK w O (w.setCell ⟨fb,2,none⟩ (.int .i64 (p:Int))) O:=by
 obtain⟨I,X⟩:=h.wt;have C:∀k,k≠fb->(w.setCell ⟨fb,2,none⟩ (.int .i64 (p:Int))).heap[k]?=w.heap[k]? :=λ k o=>iC w fb 2 _ o
 have Y:(w.setCell ⟨fb,2,none⟩ (.int .i64 (p:Int))).heap.size=w.heap.size:=by simp[ND]
 have D:∀i,i≠2->(w.setCell ⟨fb,2,none⟩ (.int .i64 (p:Int))).cell? ⟨fb,i,none⟩=w.cell? ⟨fb,i,none⟩:=λ i hi=>MN _ _ _ _ (by intro Q;injection Q;omega)
 have F:=(OF 0 w).setCell (p:=⟨fb,2,none⟩) zL (.int .i64 (p:Int));refine⟨⟨(D 0 (by omega)).trans h.c0,(D 1 (by omega)).trans h.c1,MO _ _ _ h.c2,(D 3 (by omega)).trans h.c3,λ i=>by rw[MW];exact h.fz i,⟨I,by omega⟩,
  iH h.rn (λ k o=>C k (by have:=(h.rn.lt k o).1;omega)),iH h.rr (λ k o=>C k (by have:=(h.rr.lt k o).1;omega)),h.tn,h.tr,
  λ t V=>(h.nd t V).keep (by omega) (λ k o J=>⟨C k (λ e=>by rw[e,I]at J;cases J),rfl⟩),h.cl,λ k o=>h.fr k (by omega)⟩,
  ⟨F.os,F.tape,F.output,by omega,λ k o U _ _=>C k (λ e=>U (by rw[e];exact I)),λ _ _=>rfl⟩⟩
theorem FK.tag(h:FK w O w' O')(hg:w.heap.size<=g):FK w O w' (λ k=>if k=g then 4 else O' k):=
 ⟨h.os,h.tape,h.output,h.size,h.block,λ k o=>by
  simp only[aA (show k≠g by omega)];exact h.own k o⟩
def uG(q fb:Nat)(w:tW)(O:Nat->Nat)(L:List NV)(vR:tV)(rc:List tV)(nR pl cn i:Nat)(x:Option (Rx×Nat))(e:Ending)(w':tW):Prop:=
 match x with
 | none=>∃(a b:Int)(O':Nat->Nat),e=.returned (.tuple #[.int .i64 a,.int .i64 b,.bool false])/\FK w O w' O'
 | some (r,a)=>∃(n:Nat)(M:List NV)(o:tV)(O':Nat->Nat),e=.returned (.tuple #[.int .i64 (n:Int),.int .i64 (a:Int),.bool true])/\FN fb w' O' (L++M) o vR rc nR (pl+r.np) cn/\FK w O w' O'/\Stn.Sem (jB (L++M)) n r/\En (L++M) (pl+r.np)/\M.length+q<=3*(a-i)
def Oa(F:FuncId)(s:tB)(q p lo:Nat)(ex:Nat->Option (Rx×Nat)):Prop:=
 ∀(fb:Nat)(w:tW)(O:Nat->Nat)(L:List NV)(vN vR:tV)(rc:List tV)(nR pl cn i:Nat),FN fb w O L vN vR rc nR pl cn->En L pl->lo<=i->i+p<=s.size->L.length+3*(s.size-i)<=5000->
  QV MH F #[.pointer (some ⟨fb,0,none⟩),.string s,.int .i64 (i:Int)] w (uG q fb w O L vR rc nR pl cn i (ex i))
end
theorem uG.bad{w w':tW}{O O':Nat->Nat}{L:List NV}{vR:tV}{rc:List tV}{a b:Int}(h:FK w O w' O'):uG q fb w O L vR rc nR pl cn i none (.returned (.tuple #[.int .i64 a,.int .i64 b,.bool false])) w':=⟨a,b,O',rfl,h⟩
theorem uG.good{w w':tW}{O O':Nat->Nat}{L M:List NV}{vN' vR:tV}{rc:List tV}{r:Rx}(o:FN fb w' O' (L++M) vN' vR rc nR (pl+r.np) cn)(C:FK w O w' O')(I:Stn.Sem (jB (L++M)) n r)(F:En (L++M) (pl+r.np))(D:M.length+q<=3*(a-i)):
  uG q fb w O L vR rc nR pl cn i (some (r,a)) (.returned (.tuple #[.int .i64 (n:Int),.int .i64 (a:Int),.bool true])) w':=⟨n,M,vN',O',rfl,o,C,I,F,D⟩
theorem Va{s:tB}{ex:Nat->Option (Rx×Nat)}(hi:i<s.size)(h:bt s i=40):lZ s ex i=match qQ s ex (i+1)with
  | none=>none
  | some (r,a1)=>if kU s 41 a1=true then some (r,a1+1)else none:=by
 rw[<-Vb];unfold lZ;have e:kU s 40 i=true:=by have:=kC hi 40;rw[show((40:Nat):Int)=40 from rfl]at this;rw[this];simp[h]
 rw[aB e]
 rfl
theorem On{s:tB}{ex:Nat->Option (Rx×Nat)}(hi:i<s.size)(h:bt s i≠40):lZ s ex i=match jC s i with
  | none=>none
  | some (f,a1)=>some (.pl f,a1):=by
 unfold lZ;have e:¬kU s 40 i=true:=by have:=kC hi 40;rw[show((40:Nat):Int)=40 from rfl]at this;rw[this];simp[h]
 rw[aA e]
 rfl
theorem Yr{s:tB}{ex:Nat->Option (Rx×Nat)}{i a:Nat}{r:Rx}(h:qQ s ex i=some (r,a)):s.size<=a\/bt s a=41:=by
 unfold qQ at h
 cases e:ex i with
 | none=>rw[e]at h;cases h
 | some y=>
  obtain⟨D,C⟩:=y;rw[e]at h;simp only at h;split at h
  ·rename_i o;injection h with h;injection h with _ h;rw[<-h];unfold uS at o;rw[aE]at o;exact o
  ·cases h
theorem Xj{s:tB}{ex:Nat->Option (Rx×Nat)}(hs:s.size<=500)(hx:Oa 76 s 0 0 lo (qQ s ex))(hb:tA s ex):Oa 116 s 2 1 (lo-1) (lZ s ex):=by
 intro fb w O L vN vR rc nR pl cn i h Q hA hi hL;have hp:pl<=5000:=by have:=Q.le;omega
 have hi:i<s.size:=hi;have hy:(s[i]'hi).toNat=bt s i:=kL s i hi;have eR:=mT s i;have gL:(0:Int)<=(i:Int)/\(i:Int)<(s.size:Int):=by omega
 have aR:(i:Int)+1=((i+1:Nat):Int):=by omega
 by_cases k1:bt s i=40
 ·have HE:=fV (Va (ex:=ex) hi k1);rw[k1]at hy;have HX:QQ (∀W,FN fb W O L vN vR rc nR pl cn->QV MH 76 #[.pointer (some ⟨fb,0,none⟩),.string s,.int .i64 ((i:Int)+1)] W (uG 0 fb W O L vR rc nR pl cn (i+1) (qQ s ex (i+1)))):=λ W hW=>by
   rw[aR];exact hx fb W O L vN vR rc nR pl cn (i+1) hW Q (by omega) (by omega) (by omega)
  have V:=fV h;have bM:=fV (λ r a=>Un hb (i+1) r a);have bN:=fV (λ r a=> @Yr s ex (i+1) a r);clear hx hb h k1 aR eR;generalize qQ s ex (i+1)=A at*
  cases A with
  | none=>
   go_enter OE,OB;go_wp2_with fail;refine(HX.o _ (V.o.below ⟨rfl,rfl,rfl,lR,λ _ _=>rfl⟩)).mono ?_;rintro e w1 ⟨a,b,O',rfl,J⟩;have Y:=fV J;clear J;go_wp2;go_ret3;rw[HE.o];exact uG.bad Y.o
  | some y=>
   obtain⟨r,a1⟩:=y;have hB:=bM.o r a1 rfl;have aT:=bN.o r a1 rfl;clear bM bN;by_cases ha:a1<s.size
   ·have aL:bt s a1=41:=aT.resolve_left (by omega);have hz:(s[a1]'ha).toNat=41:=by rw[kL s a1 ha];exact aL
    have X:QQ (lZ s ex i=some (r,a1+1)):=by
     unfold QQ;rw[HE.o];have e:kU s 41 a1=true:=by have:=kC ha 41;rw[show((41:Nat):Int)=41 from rfl]at this;rw[this];simp[aL]
     simp only;rw[aB e]
    have eT:(0:Int)<=(a1:Int)/\(a1:Int)<(s.size:Int):=by omega
    clear aL aT;go_enter OE,OB;go_wp2_with fail;refine(HX.o _ (V.o.below ⟨rfl,rfl,rfl,lR,λ _ _=>rfl⟩)).mono ?_;rintro e w1 ⟨n,M,eS,O',rfl,hf,J,U,D,hM⟩;have F:=fV hf;have Y:=fV J;have eO:=fV U;have Z:=fV D;clear hf J U D;go_wp2;go_ret3;rw[X.o];exact uG.good F.o Y.o eO.o Z.o (by omega)
   ·have X:QQ (lZ s ex i=none):=by
     unfold QQ;rw[HE.o];have e:¬kU s 41 a1=true:=by rw[show(41:Int)=((41:Nat):Int) from rfl,wP (by omega)];simp
     simp only;rw[aA e]
    clear aT;go_enter OE,OB;go_wp2_with fail;refine(HX.o _ (V.o.below ⟨rfl,rfl,rfl,lR,λ _ _=>rfl⟩)).mono ?_;rintro e w1 ⟨n,M,eS,O',rfl,hf,J,U,D,hM⟩;have Y:=fV J;clear hf J U D;go_wp2;go_ret3;rw[X.o];exact uG.bad Y.o
 ·have HE:=fV (On (ex:=ex) hi k1);have t1:((bt s i:Int)==40)=false:=by rw[aC];omega
  have V:=fV h;have aW:=fV (λ f a=>Bo s i f a);have Z:=fV Q;have HP:=fV (λ W=>Rq s i W hs hi);generalize bt s i=y at*;clear hx hb h k1 aR Q;generalize jC s i=A at*
  cases A with
  | none=>
   go_enter OE,OB;go_wp2_with fail;refine(HP.o _).mono ?_;rintro e w1 ⟨C,v,a,rfl⟩;have Y:=fV (FK.of_below C O);clear C;go_wp2;go_ret3;rw[HE.o];exact uG.bad Y.o
  | some p=>
   obtain⟨f,a1⟩:=p;have eX:=aW.o f a1 rfl;clear aW;go_enter OE,OB;go_wp2_with fail;refine(HP.o _).mono ?_;rintro e w1 ⟨C,g,rfl,aO,bT,bO⟩;have hw:=V.o.wt;have hC:=C.size;have F:=fV (V.o.below C);have bC:=fV (F.o.tag (g:=g) (V.o.fr g aO) bT);have eL:=fV ((FK.of_below C O).tag aO);have I:=fV (bC.o.pls (pl+1));have eN:QQ (T0 w1 (λ k=>if k=g then 4 else O k) ⟨⟨0,[],f⟩,.slice none 0 0,.slice (some ⟨g,0,none⟩) 256 256⟩):= .inl ⟨rfl,rfl,rfl,g,rfl,aB rfl,bT,bO⟩;have bK:QQ (T0 (w1.setCell ⟨fb,2,none⟩ (.int .i64 ((pl+1:Nat):Int))) (λ k=>if k=g then 4 else O k) ⟨⟨0,[],f⟩,.slice none 0 0,.slice (some ⟨g,0,none⟩) 256 256⟩):=eN.o.keep I.o.2.size (λ k J ho=>⟨iC w1 fb 2 _ (λ e=>by
    have:=bC.o.wt.1;rw[e]at ho;omega),rfl⟩)
   have c2:=F.o.c2;have f2:=F.o.fz 2;have cN:((pl+1:Nat):Int)=(pl:Int)+1:=by omega
   rw[cN]at I bK;clear C bO aO cN;go_wp2_with fail;generalize w1.setCell ⟨fb,2,none⟩ (.int .i64 ((pl:Int)+1))=W2 at*;refine(uQ (I.o.1) 0 none (some ⟨g,0,none⟩) 0 0 256 256 ⟨0,[],f⟩ rfl bK.o (λ m hm=>absurd hm LM) (by omega)).mono ?_;rintro e w3 ⟨rfl,O3,hD,bS,cF⟩;have cP:=fV bS;have eM:=fV (eL.o.trans (I.o.2.trans cF));clear bS cF c2 f2;go_wp2;go_ret3;rw[HE.o];refine uG.good (r:= .pl f) cP.o eM.o ?_ (Z.o.place rfl rfl) (by simp;omega);rw[nP,<-lB L];exact Ye V.o.cl f
def kI(ns:List Nat):List tV:=ns.map (λ(m:Nat)=>Value.int .i64 (m:Int))
theorem FN.list{w:tW}{O:Nat->Nat}{L:List NV}{vN vR:tV}{rc:List tV}(h:FN fb w O L vN vR rc nR pl cn)(k:Nat)(C:k≠0)(ns:List Nat)(T:TypeId)(f:Nat->Bool):
  FN fb (w.alloc (.cells (kI ns).toArray T)) (λ j=>if j=w.heap.size then 4 else O j) L vN vR rc nR pl cn/\FK w O (w.alloc (.cells (kI ns).toArray T)) (λ j=>if j=w.heap.size then 4 else O j)/\
  T0 (w.alloc (.cells (kI ns).toArray T)) (λ j=>if j=w.heap.size then 4 else O j) ⟨⟨k,ns,f⟩,.slice (some ⟨w.heap.size,0,none⟩) ns.length ns.length,.slice none 0 0⟩:=by
 have o:Bl w (w.alloc (.cells (kI ns).toArray T)):=bR.alloc lR _;have F:(w.alloc (.cells (kI ns).toArray T)).heap.size=w.heap.size+1:=by simp
 refine⟨(h.below o).tag (h.fr _ lR) (by omega),(FK.of_below o O).tag lR,.inr ⟨C,rfl,w.heap.size,ns.length,rfl,aB rfl,by omega,λ i m D=>?_,lR⟩⟩;rw[NG];have:(kI ns)[i]?=some (.int .i64 (m:Int)):=by
  unfold kI;rw[MF,D]
  rfl
 simpa using this
theorem Qu{s:tB}{ex:Nat->Option (Rx×Nat)}{r:Rx}(h:lZ s ex i=some (r,a1))(o:mD (gF s a1)=0):iZ s ex i=some (r,a1):=by
 unfold iZ;rw[h];simp only;rw[aB o]
theorem Qv{s:tB}{ex:Nat->Option (Rx×Nat)}{r:Rx}(h:lZ s ex i=some (r,a1))(o:mD (gF s a1)≠0):iZ s ex i=some (P8 (mD (gF s a1)) r,a1+1):=by
 unfold iZ;rw[h];simp only;rw[aA o]
theorem Qw{s:tB}{ex:Nat->Option (Rx×Nat)}(h:lZ s ex i=none):iZ s ex i=none:=by
 unfold iZ;rw[h]
theorem Rp{s:tB}{ex:Nat->Option (Rx×Nat)}(hs:s.size<=500)(hx:Oa 116 s 2 1 lo (lZ s ex))(hb:tA s ex):Oa 104 s 2 1 lo (iZ s ex):=by
 intro fb w O L vN vR rc nR pl cn i h hC hH hi hL;have hi:i<s.size:=hi;have HX:QQ (∀W,FN fb W O L vN vR rc nR pl cn->QV MH 116 #[.pointer (some ⟨fb,0,none⟩),.string s,.int .i64 (i:Int)] W (uG 2 fb W O L vR rc nR pl cn i (lZ s ex i))):=λ W hW=>hx fb W O L vN vR rc nR pl cn i hW hC (by omega) (by omega) (by omega)
 have HF:=fV h;have bT:=fV (λ r a=>Ie hb i r a);have HN:QQ (lZ s ex i=none->iZ s ex i=none):=λ h=>Qw h
 have H0:QQ (∀a1 r,lZ s ex i=some (r,a1)->mD (gF s a1)=0->iZ s ex i=some (r,a1)):=λ a r h hm=>Qu h hm
 have HM:QQ (∀a1 r,lZ s ex i=some (r,a1)->mD (gF s a1)≠0->iZ s ex i=some (P8 (mD (gF s a1)) r,a1+1)):=λ a r h hm=>Qv h hm
 clear hx hb h;generalize lZ s ex i=A at*
 cases A with
 | none=>
  have HN:=fV (HN.o rfl);go_enter func104,ntmps104;go_wp2_with fail;refine(HX.o _ (HF.o.below ⟨rfl,rfl,rfl,lR,λ _ _=>rfl⟩)).mono ?_;rintro e w1 ⟨a,b,O',rfl,hk⟩;have HK:=fV hk;clear hk;go_wp2;go_ret3;rw[HN.o];exact uG.bad HK.o
  all_goals trivial
 | some y=>
  obtain⟨r,a1⟩:=y;have hI:=bT.o r a1 rfl;have H0:=fV (H0.o a1 r rfl);have HM:=fV (HM.o a1 r rfl);clear bT HN;by_cases ha:a1<s.size
  ·have hz:(s[a1]'ha).toNat=bt s a1:=kL s a1 ha;have hF:(0:Int)<=(a1:Int)/\(a1:Int)<(s.size:Int):=by omega
   rw[lK ha]at H0 HM;generalize bt s a1=y at*;go_enter func104,ntmps104;go_upto_region 2 with fail;refine(HX.o _ (HF.o.below ⟨rfl,rfl,rfl,lR,λ _ _=>rfl⟩)).mono ?_;rintro e w1 ⟨n,M,hE,O',rfl,hf,hk,X,J,hM⟩;obtain⟨C,e1⟩:∃C,C=L++M:=⟨_,rfl⟩
   have hG:C.length<=10000:=by rw[e1,LF];omega
   rw[<-e1]at hf X J;have D:=fV e1;clear e1;have I:=fV hf;have aO:=fV hk;have aL:=fV X;have aR:=fV J;have bM:n<C.length:=by rw[<-lB];exact X.1
   clear hf hk X J;by_cases k1:y=42
   ·have t1:((y:Int)==42)=true:=by rw[k1];rfl
    have HE:QQ (iZ s ex i=some (.star r,a1+1)):=by
     unfold QQ;rw[HM.o (by rw[k1];decide),k1]
     rfl
    clear k1 H0 HM;go_wp2_with fail;have F:=fV (I.o.list 3 (by decide) [n] 3 (λ _=>false));have Y:QQ (∀m,m∈ [n]->m<C.length):=λ m hm=>by rw[LI.1 hm];exact bM
    refine(uQ F.o.1 3 (some ⟨w1.heap.size,0,none⟩) none 1 1 0 0 ⟨3,[n],λ _=>false⟩ rfl F.o.2.2 Y.o (by omega)).mono ?_;rintro e w3 ⟨rfl,O3,eL,Q,U⟩;have V:=fV Q;have Z:=fV (aO.o.trans (F.o.2.1.trans U));clear Q U;go_wp2;go_ret3;rw[HE.o];refine uG.good (r:= .star r) (M:=M++[⟨⟨3,[n],λ _=>false⟩,.slice (some ⟨w1.heap.size,0,none⟩) 1 1,.slice none 0 0⟩]) (by rw[<-LS,<-D.o];exact V.o) Z.o ?_ (by rw[<-LS,<-D.o];exact aR.o.more (show 0<3/\3<=4 by decide) (λ _=>⟨n,rfl⟩) (by simp)) (by simp;omega);rw[<-LS,<-D.o,nP,<-lB C];exact Ni I.o.cl aL.o _
   ·have t1:((y:Int)==42)=false:=by rw[aC];omega
    by_cases k2:y=63
    ·have t2:((y:Int)==43)=false:=by rw[k2];rfl
     have t3:((y:Int)==63)=true:=by rw[k2];rfl
     have HE:QQ (iZ s ex i=some (.opt r,a1+1)):=by
      unfold QQ;rw[HM.o (by rw[k2];decide),k2]
      rfl
     clear k1 k2 H0 HM;go_wp2_with fail;have F:=fV (I.o.list 4 (by decide) [n] 3 (λ _=>false));have Y:QQ (∀m,m∈ [n]->m<C.length):=λ m hm=>by rw[LI.1 hm];exact bM
     refine(uQ F.o.1 4 (some ⟨w1.heap.size,0,none⟩) none 1 1 0 0 ⟨4,[n],λ _=>false⟩ rfl F.o.2.2 Y.o (by omega)).mono ?_;rintro e w3 ⟨rfl,O3,eL,Q,U⟩;have V:=fV Q;have Z:=fV (aO.o.trans (F.o.2.1.trans U));clear Q U;go_wp2;go_ret3;rw[HE.o];refine uG.good (r:= .opt r) (M:=M++[⟨⟨4,[n],λ _=>false⟩,.slice (some ⟨w1.heap.size,0,none⟩) 1 1,.slice none 0 0⟩]) (by rw[<-LS,<-D.o];exact V.o) Z.o ?_ (by rw[<-LS,<-D.o];exact aR.o.more (show 0<4/\4<=4 by decide) (λ e=>by cases e) (by simp)) (by simp;omega);rw[<-LS,<-D.o,nP,<-lB C];exact GF I.o.cl aL.o _
    ·have t3:((y:Int)==63)=false:=by rw[aC];omega
     by_cases k3:y=43
     ·have t2:((y:Int)==43)=true:=by rw[k3];rfl
      have HE:QQ (iZ s ex i=some (.plus r,a1+1)):=by
       unfold QQ;rw[HM.o (by rw[k3];decide),k3]
       rfl
      clear k1 k2 k3 H0 HM;go_wp2_with fail;have F:=fV (I.o.list 3 (by decide) [n] 3 (λ _=>false));have Y:QQ (∀m,m∈ [n]->m<C.length):=λ m hm=>by rw[LI.1 hm];exact bM
      refine(uQ F.o.1 3 (some ⟨w1.heap.size,0,none⟩) none 1 1 0 0 ⟨3,[n],λ _=>false⟩ rfl F.o.2.2 Y.o (by omega)).mono ?_;obtain⟨t,ht⟩:∃t:NV,t=⟨⟨3,[n],λ _=>false⟩,.slice (some ⟨w1.heap.size,0,none⟩) 1 1,.slice none 0 0⟩:=⟨_,rfl⟩
      rw[<-ht];rintro e w3 ⟨rfl,O3,eL,Q,U⟩;have HT:=fV ht;have V:=fV Q;have Z:=fV (aO.o.trans (F.o.2.1.trans U));have aT:QQ (En (C++[t]) (pl+r.np)):=aR.o.more (by rw[ht];exact(show 0<3/\3<=4 by decide)) (λ _=>⟨n,by rw[ht]⟩) (by rw[ht];simp);have bS:QQ (Stn.Sem (jB (C++[t])) C.length (.star r)):=by
       unfold QQ;rw[nP,<-lB C,ht];exact Ni I.o.cl aL.o _
      have aW:QQ (Stn.Sem (jB (C++[t])) n r):=by
       unfold QQ;rw[nP];exact aL.o.more I.o.cl _
      have hB:(C++[t]).length=C.length+1:=by simp
      obtain⟨gN,cp,hD,cN⟩:=Q.read (by omega);have eS:=fV cN;clear Q U hD cN ht F Y;go_wp2_with fail;refine(L0 aT.o.1 V.o.cl (by omega) n (by omega) _ (eS.o.below ⟨rfl,rfl,rfl,lR,λ _ _=>rfl⟩ lR)).mono ?_;rintro e w4 ⟨rfl,bK⟩;have bN:=fV (V.o.below bK);have bO:=fV (Z.o.trans (FK.of_below bK O3));have eO:QQ (xG (jB (C++[t])) n=true↔W r []):=(N8 aT.o.1 n).trans (aW.o.2.1 []);clear bK
      cases hem:xG (jB (C++[t])) n with
      | true=>
       have HW:=fV (eO.o.1 hem);clear hem;go_wp2;go_ret3;rw[HE.o];refine uG.good (r:= .plus r) (M:=M++[t]) (by rw[<-LS,<-D.o];exact bN.o) bO.o ?_ (by rw[<-LS,<-D.o];exact aT.o) (by simp;omega);rw[<-LS,<-D.o];exact bS.o.congr (λ u=>(BC HW.o u).symm) rfl
      | false=>
       have eN:=fV hem;have eX:QQ (∃f,(jB (C++[t]))[C.length]?=some ⟨3,[n],f⟩):=⟨λ _=>false,by rw[nP,<-lB C,HT.o];exact mO _⟩
       clear hem;go_wp2_with fail;have bC:=fV (bN.o.list 1 (by decide) [n,C.length] 3 (λ _=>false));have eM:QQ (∀m,m∈ [n,C.length]->m<(C++[t]).length):=λ m hm=>by
        rcases MG.1 hm with e|e
        ·rw[e];omega
        ·rw[LI.1 e];omega
       refine(uQ bC.o.1 1 (some ⟨w4.heap.size,0,none⟩) none 2 2 0 0 ⟨1,[n,C.length],λ _=>false⟩ rfl bC.o.2.2 eM.o (by omega)).mono ?_;rintro e w6 ⟨rfl,O6,hJ,cF,cP⟩;have eR:=fV cF;have eT:=fV (bO.o.trans (bC.o.2.1.trans cP));clear cF cP;go_wp2;go_ret3;rw[HE.o];have ea:L++(M++[t,⟨⟨1,[n,C.length],λ _=>false⟩,.slice (some ⟨w4.heap.size,0,none⟩) 2 2,.slice none 0 0⟩])=(C++[t])++[⟨⟨1,[n,C.length],λ _=>false⟩,.slice (some ⟨w4.heap.size,0,none⟩) 2 2,.slice none 0 0⟩]:=by rw[D.o];simp
       refine uG.good (r:= .plus r) (M:=M++[t,⟨⟨1,[n,C.length],λ _=>false⟩,.slice (some ⟨w4.heap.size,0,none⟩) 2 2,.slice none 0 0⟩]) (by rw[ea];exact eR.o) eT.o ?_ (by rw[ea];exact aT.o.more (show 0<1/\1<=4 by decide) (λ e=>by cases e) (by simp)) (by simp;omega);rw[ea,nP,<-hB,<-lB (C++[t])];exact CA V.o.cl aW.o bS.o eX.o eN.o _
     ·have t2:((y:Int)==43)=false:=by rw[aC];omega
      have HE:QQ (iZ s ex i=some (r,a1)):=H0.o (by unfold mD;rw[aA (by omega),aA (by omega),aA (by omega)]);clear k1 k2 k3 H0 HM;go_wp2;go_ret3;rw[HE.o];exact uG.good (M:=M) (by rw[<-D.o];exact I.o) aO.o (by rw[<-D.o];exact aL.o) (by rw[<-D.o];exact aR.o) (by omega)
  ·have HE:QQ (iZ s ex i=some (r,a1)):=H0.o (by rw[jW (by omega)];rfl);go_enter func104,ntmps104;go_wp2_with fail;refine(HX.o _ (HF.o.below ⟨rfl,rfl,rfl,lR,λ _ _=>rfl⟩)).mono ?_;rintro e w1 ⟨n,M,hE,O',rfl,hf,hk,X,J,hM⟩;have I:=fV hf;have HK:=fV hk;have hA:=fV X;have gL:=fV J;clear hf hk X J;go_wp2;go_ret3;rw[HE.o];exact uG.good I.o HK.o hA.o gL.o (by omega)
section
theorem Pn(ns:List Nat)(n:Nat):kI (ns++[n])=kI ns++[.int .i64 (n:Int)]:=by unfold kI;simp
theorem qG(h:ns[i]?=some m):(kI ns)[i]?=some (.int .i64 (m:Int)):=by unfold kI;rw[MF,h];rfl
structure qW(w:tW)(O:Nat->Nat)(B:Nat)(v:tV)(ns:List Nat):Prop where
 ro:w.ownsRow B 3 1 v ns.length (kI ns)
 tg:∀k,v.ownBlock=some k->O k=0
theorem qW.start(w:tW)(O:Nat->Nat)(B:Nat):qW w O B (.slice none 0 0) []:=⟨NB w B _ 1,λ k o=>by cases o⟩
variable {w w1 w4:tW}{O O1 O2:Nat->Nat}{fb nR pl cn:Nat}{L:List NV}{vN vR:tV}{rc:List tV}{B:Nat}{v v2:tV}{ns ms:List Nat}
theorem qW.keep(h:qW w O B v ns)(o:FK w O w1 O1):qW w1 O1 B v ns:=
 ⟨iH h.ro (λ k e=>o.block k (h.ro.lt k e).2 (by have:=h.tg k e;omega) (by have:=h.tg k e;omega) (by have:=h.tg k e;omega)),λ k e=>(o.own k (h.ro.lt k e).2).trans (h.tg k e)⟩
theorem qW.tagged(h:qW w O B v ns){g:Nat}(hg:v.ownBlock≠some g):qW w (λ k=>if k=g then 4 else O k) B v ns:=
 ⟨h.ro,λ k e=>by
  have:k≠g:=λ o=>hg (by rw[e,o])
  simp only[aA this];exact h.tg k e⟩
theorem qW.app(X:FN fb w1 O1 L vN vR rc nR pl cn)(D:FK w O w1 O1)(h:qW w1 O1 w.heap.size v ns)(U:qW w1 O1 w.heap.size v2 ms)(Z:∀k,v2.ownBlock=some k->v.ownBlock≠some k){o:Obj}{g aJ n:Nat}
  (Q:w4.ownsRow w.heap.size 3 1 (.slice (some ⟨g,0,none⟩) (ns.length+1) aJ) (ns.length+1) (kI ns++[.int .i64 (n:Int)])) (C:(w1.alloc o).grownBy w4 v.ownBlock) (J:v.ownBlock=some g\/g=w1.heap.size+1):
  FN fb w4 O1 L vN vR rc nR pl cn/\FK w O w4 O1/\qW w4 O1 w.heap.size (.slice (some ⟨g,0,none⟩) (ns.length+1) aJ) (ns++[n])/\qW w4 O1 w.heap.size v2 ms/\(∀k,v2.ownBlock=some k->(OD (some ⟨g,0,none⟩) (ns.length+1) aJ).ownBlock≠some k):=by
 have aL:=C.size;have ez:(w1.alloc o).heap.size=w1.heap.size+1:=by simp
 have hz:=D.size;have F:∀k,k<w1.heap.size->v.ownBlock≠some k->w4.heap[k]?=w1.heap[k]? :=λ k D hv=>(C.block k (by omega) (λ e=>hv e.symm)).trans (MC w1 o k D)
 refine⟨X.keep (by omega) (λ k D h0=>⟨F k D (λ e=>h0 (h.tg k e)),rfl⟩) (λ k D=>X.fr k (by omega)),
  ⟨C.os.trans D.os,C.tape.trans D.tape,C.output.trans D.output,by omega,λ k Y a1 a2 a3=>(F k (by omega) (λ e=>by have:=(h.ro.lt k e).1;omega)).trans (D.block k Y a1 a2 a3),D.own⟩,
  ⟨by rw[Pn,LF,LU];exact Q,λ k e=>?_⟩,
  ⟨iH U.ro (λ k e=>F k (U.ro.lt k e).2 (Z k e)),U.tg⟩,λ k e V=>?_⟩
 ·have e:g=k:=by simpa[NF]using e
  rw[<-e];rcases J with I|I
  ·exact h.tg g I
  ·exact X.fr g (by omega)
 ·have V:g=k:=by simpa[NF]using V
  rcases J with I|I
  ·exact Z k e (by rw[<-V];exact I)
  ·have:=(U.ro.lt k e).2;omega
theorem qW.node(J:FN fb w1 O1 L vN vR rc nR pl cn)(Q:FK w O w1 O1)(h:qW w1 O1 w.heap.size v ns)(hn:0<ns.length)(k:Nat)(I:k≠0)(f:Nat->Bool):
  ∃g aJ,v=.slice (some ⟨g,0,none⟩) ns.length aJ/\FN fb w1 (λ k=>if k=g then 4 else O1 k) L vN vR rc nR pl cn/\FK w O w1 (λ k=>if k=g then 4 else O1 k)/\
   T0 w1 (λ k=>if k=g then 4 else O1 k) ⟨⟨k,ns,f⟩,.slice (some ⟨g,0,none⟩) ns.length aJ,.slice none 0 0⟩:=by
 rcases iL h.ro with e|⟨g,aJ,e⟩
 ·exfalso;obtain⟨a,c,C⟩:=gA h.ro;rw[e]at C;injection C with _ V _;omega
 ·have o:=h.ro.lt g (by rw[e];rfl);refine⟨g,aJ,e,J.tag (h.tg g (by rw[e];rfl)) o.2,Q.tag o.1,.inr ⟨I,rfl,g,aJ,rfl,aB rfl,o.2,λ i m U=>?_,Ue (by rw[<-e];exact h.ro)⟩⟩;have:=h.ro.cells (g:=g) (by rw[e];rfl) i _ (qG U);have F:(⟨g,0,none⟩:Addr).add i=⟨g,i,none⟩:=by
   unfold Addr.add;split
   ·rename_i D;rw[D]
   ·rw[MJ]
  rw[F]at this;exact this
structure XI(s:tB)(ex:Nat->Option (Rx×Nat))(T:Option (Rx×Nat))(fb:Nat)(w:tW)(O:Nat->Nat)(L:List NV)(vR:tV)(rc:List tV)(nR pl cn i0:Nat)(wr:tW)(i:Nat)(vo vr:tV)(M:List NV)(vN:tV)(O1:Nat->Nat)(no nr:List Nat)(ors rs:List Rx):Prop where
 fn:FN fb wr O1 (L++M) vN vR rc nR (pl+yC ors+yC rs) cn
 fk:FK w O wr O1
 lo:qW wr O1 w.heap.size vo no
 lr:qW wr O1 w.heap.size vr nr
 di:∀k,vo.ownBlock=some k->vr.ownBlock≠some k
 so:sU (jB (L++M)) no ors
 sr:sU (jB (L++M)) nr rs
 ok:En (L++M) (pl+yC ors+yC rs)
 b1:M.length<=3*(i-i0)
 b2:0<nr.length->M.length+2<=3*(i-i0)
 b3:no.length+nr.length<=i-i0
 ei:Jz s ex T ors rs i
theorem sU.len{N:List RN}{l:List Nat}{rs:List Rx}(h:sU N l rs):l.length=rs.length:=by
 induction h with
 | nil=>rfl
 | cons _ _ ih=>rw[MD,MD,ih]
end
section
variable {s:tB}{ex:Nat->Option (Rx×Nat)}{T:Option (Rx×Nat)}{fb:Nat}{w:tW}{O:Nat->Nat}{L:List NV}{vR:tV}{rc:List tV}{nR pl cn i0:Nat}{wr:tW}{i:Nat}{vo vr:tV}{M:List NV}{vN:tV}{O1:Nat->Nat}{no nr:List Nat}{ors rs:List Rx}{p:Rx}{ps:List Rx}
theorem Q8(l m:List NV):jB (l++m)=jB l++jB m:=by unfold jB;simp
theorem Mi(r:Rx)(l:List Rx):yC (r::l)=r.np+yC l:=rfl
theorem XI.aK(h:XI s ex T fb w O L vR rc nR pl cn i0 wr i vo vr M vN O1 no nr ors (p::ps))(hs:s.size<=200)(Y:i<=s.size)(aO:uS s i=true){w6:tW}{U:Nat->Nat}{J:tV}{t1 t2:NV}(C:t1.x=⟨1,nr,λ _=>false⟩)(Q:t2.x=⟨2,no++[(L++M).length],λ _=>false⟩)
  (hf:FN fb w6 U (((L++M)++[t1])++[t2]) J vR rc nR (pl+yC ors+yC (p::ps)) cn) (hk:FK w O w6 U):
  uG 0 fb w O L vR rc nR pl cn i0 T (.returned (.tuple #[.int .i64 (((L++M).length+1:Nat):Int),.int .i64 (i:Int),.bool true])) w6:=by
 have Z:=sU.len h.sr;have aW:=sU.len h.so;have aL:0<nr.length:=by rw[Z];simp
 have aR:=h.b2 aL;have aT:=h.b3;have D:pl+(Z7 ors (xV p ps)).np=pl+yC ors+yC (p::ps):=by rw[AE,Jd,Mi];omega
 have V:L++(M++[t1,t2])=((L++M)++[t1])++[t2]:=by simp
 rw[h.ei.aZ Y aO];have X:gI (jB ((L++M)++[t1])):=by
  rw[nP];exact h.fn.cl.snoc (by rw[C];exact h.sr.lt)
 refine uG.good (M:=M++[t1,t2]) (O':=U) (vN':=J) (by rw[V,D];exact hf) hk ?_ (by
  rw[V,D];exact(h.ok.more (by rw[C];exact(show 0<1/\1<=4 by decide)) (λ e=>by rw[C]at e;cases e) (by rw[C];show nr.length<=200;omega)).more (by rw[Q];exact(show 0<2/\2<=4 by decide)) (λ e=>by rw[Q]at e;cases e) (by rw[Q];show(no++[(L++M).length]).length<=200;rw[LF,LU];omega)) (by rw[LF];show M.length+2+0<=_;omega)
 obtain⟨o,os,F⟩:∃o os,ors++[xV p ps]=o::os:=by
  cases ors with
  | nil=>exact⟨_,_,rfl⟩
  | cons a b=>exact⟨_,_,rfl⟩
 rw[V,nP,t9 F,Q];have e3:(L++M).length+1=(jB ((L++M)++[t1])).length:=by rw[lB];simp;omega
 rw[e3];refine JV X ?_ _;rw[<-F];have I:Stn.Sem (jB ((L++M)++[t1])) (L++M).length (xV p ps):=by
  rw[nP,C,<-lB (L++M)];exact Ui h.fn.cl h.sr _
 refine sU.snoc ?_ I;rw[nP];exact h.so.more h.fn.cl _
theorem XI.bar(h:XI s ex T fb w O L vR rc nR pl cn i0 wr i vo vr M vN O1 no nr ors (p::ps))(hs:s.size<=200)(aR:i0<=i)(X:i<s.size)(o:bt s i=124){w4:tW}{J:Nat->Nat}{F I:tV}{t1:NV}(Q:t1.x=⟨1,nr,λ _=>false⟩)
  (hf:FN fb w4 J ((L++M)++[t1]) F vR rc nR (pl+yC ors+yC (p::ps)) cn) (hk:FK w O w4 J) (Z:qW w4 J w.heap.size I (no++[(L++M).length])):
  XI s ex T fb w O L vR rc nR pl cn i0 w4 (i+1) I (.slice none 0 0) (M++[t1]) F J (no++[(L++M).length]) [] (ors++[xV p ps]) []:=by
 have V:=sU.len h.sr;have Y:0<nr.length:=by rw[V];simp
 have aL:=h.b2 Y;have aO:=h.b3;have C:pl+yC (ors++[xV p ps])+yC []=pl+yC ors+yC (p::ps):=by rw[Q5,Jd,Mi];show _+0=_;omega
 have U:L++(M++[t1])=(L++M)++[t1]:=by simp
 have D:Stn.Sem (jB ((L++M)++[t1])) (L++M).length (xV p ps):=by
  rw[nP,Q,<-lB (L++M)];exact Ui h.fn.cl h.sr _
 refine⟨by rw[U,C];exact hf,hk,Z,qW.start _ _ _,λ k _ e=>(by cases e),?_,.nil,?_,?_,λ e=>absurd e (by simp),?_,h.ei.bar X o⟩
 ·rw[U];refine sU.snoc ?_ D;rw[nP];exact h.so.more h.fn.cl _
 ·rw[U,C];exact h.ok.more (by rw[Q];exact(show 0<1/\1<=4 by decide)) (λ e=>by rw[Q]at e;cases e) (by rw[Q];show nr.length<=200;omega)
 ·rw[LF,LU];omega
 ·rw[LF,LU];show no.length+1+0<=_;omega
theorem XI.more(h:XI s ex T fb w O L vR rc nR pl cn i0 wr i vo vr M vN O1 no nr ors rs)(aR:i0<=i)(hx:tA s ex){C:Rx}{U:Nat}(hp:iZ s ex i=some (C,U)){w4:tW}{O2:Nat->Nat}{J D:tV}{o:List NV}{n:Nat}
  (I:Stn.Sem (jB ((L++M)++o)) n C) (X:En ((L++M)++o) (pl+yC ors+yC rs+C.np)) (hb:o.length+2<=3*(U-i))
  (hf:FN fb w4 O2 ((L++M)++o) J vR rc nR (pl+yC ors+yC rs+C.np) cn) (hk:FK w O w4 O2) (Y:qW w4 O2 w.heap.size vo no) (Z:qW w4 O2 w.heap.size D (nr++[n])) (V:∀k,vo.ownBlock=some k->D.ownBlock≠some k):
  XI s ex T fb w O L vR rc nR pl cn i0 w4 U vo D (M++o) J O2 no (nr++[n]) ors (rs++[C]):=by
 have aT:=wQ hx _ _ _ hp;have aL:=h.b1;have aO:=h.b3;have F:pl+yC ors+yC (rs++[C])=pl+yC ors+yC rs+C.np:=by rw[Q5];omega
 have Q:L++(M++o)=(L++M)++o:=by simp
 refine⟨by rw[Q,F];exact hf,hk,Y,Z,V,?_,?_,by rw[Q,F];exact X,?_,λ _=>?_,?_,h.ei.piece hx hp⟩
 ·rw[Q,Q8];exact h.so.more h.fn.cl _
 ·rw[Q];refine sU.snoc ?_ I;rw[Q8];exact h.sr.more h.fn.cl _
 ·rw[LF];omega
 ·rw[LF];omega
 ·rw[LF,LU];omega
end
theorem qW.node2{w w1:tW}{O O1:Nat->Nat}{L:List NV}{vN vR:tV}{rc:List tV}(U:FN fb w1 O1 L vN vR rc nR pl cn)(V:FK w O w1 O1)(h:qW w1 O1 w.heap.size (.slice (some ⟨g,0,none⟩) m aJ) ns)(X:m=ns.length)(hn:0<ns.length)(k:Nat)(F:k≠0)(f:Nat->Bool):
  FN fb w1 (λ k=>if k=g then 4 else O1 k) L vN vR rc nR pl cn/\FK w O w1 (λ k=>if k=g then 4 else O1 k)/\
   T0 w1 (λ k=>if k=g then 4 else O1 k) ⟨⟨k,ns,f⟩,.slice (some ⟨g,0,none⟩) m aJ,.slice none 0 0⟩:=by
 obtain⟨Y,C,e,I,J,Q⟩:=h.node U V hn k F f;injection e with o _ D;injection o with o;injection o with o;subst o D;rw[X];exact⟨I,J,Q⟩
theorem bY:(Tryz.prog.info? 3).map (λ i=>(i.zero,i.size,i.bytes))=some (some (.int .i64 0),1,8):=by kernel_rfl
theorem Rk{s:tB}{f:Nat}(hs:s.size<=200)(hp:Oa 104 s 2 1 lo (iZ s (kO s f))):Oa 76 s 0 0 lo (qQ s (kO s (f+1))):=by
 intro fb w O L vN vR rc nR pl cn i0 h hV H0 hi hL;have HB:=fV (xH s f);have HS:=fV (Jz.start s f i0);obtain⟨T,hT⟩:∃T,T=qQ s (kO s (f+1)) i0:=⟨_,rfl⟩
 rw[<-hT]at HS ⊢;clear hT;have HP:=fV hp;have HF:=fV h;have hF:=fV hV;clear hp h hV;obtain⟨ex,hP⟩:∃ex,ex=kO s f:=⟨_,rfl⟩
 rw[<-hP]at HB HS HP;clear hP;go_enter func76,ntmps76;go_wp2_with fail
 go_loopw [2,9,10] (λ z x y wr=>∃(i:Nat)(M:List NV)(cP:tV)(O1:Nat->Nat)(no nr:List Nat)(ors rs:List Rx),z=.int .i64 (i:Int)/\i0<=i/\i<=s.size/\XI s ex T fb w O L vR rc nR pl cn i0 wr i x y M cP O1 no nr ors rs) (λ z _ _ _=>s.size-(QP z).toNat)
 case atStart=>
  refine⟨i0,[],vN,O,[],[],[],[],rfl,lR,hi,⟨?_,FK.refl _ _,qW.start _ _ _,qW.start _ _ _,λ k e=>(by cases e),.nil,.nil,?_,by simp,λ e=>absurd e (by simp),by simp,HS.o⟩⟩
  ·rw[MB];exact HF.o
  ·rw[MB];exact hF.o
 case round=>
  obtain⟨i,M,cP,O1,no,nr,ors,rs,rfl,hR,tL,X⟩:=hrel;obtain⟨ar,cr,er⟩:=gA X.lr.ro;obtain⟨ao,co,eo⟩:=gA X.lo.ro;subst er eo;have F:=fV X;have B1:=X.b1;have B2:=X.b3;have H2:=X.fk.size;have hU:=sU.len X.sr;have cF:=fV hU;clear X HS HF hF hU;by_cases Q:uS s i=true
  ·have bO:s.size<=i\/∃h:i<s.size,(s[i]'h).toNat=41:=by
    unfold uS at Q;rw[aE]at Q;by_cases e:s.size<=i
    ·exact .inl e
    ·exact .inr ⟨by omega,by rw[kL s i (by omega)];exact Q.resolve_left e⟩
   have hJ:=fV Q;clear Q
   cases rs with
   | nil=>
    have gL:nr=[]:=MZ.1 cF.o;have bN:QQ (T=none):=F.o.ei.none0 (Dj (Td hJ.o));subst gL;rcases bO with sW|⟨U,eX⟩
    all_goals
     go_wp2;go_ret3;rw[bN.o];exact uG.bad F.o.fk
   | cons p ps=>
    have hA:0<nr.length:=by rw[cF.o];simp
    have A1:((nr.length:Int)==0)=false:=by rw[aC];omega
    obtain⟨g,eg⟩:∃g,ar=some ⟨g,0,none⟩:=by
     rcases iL F.o.lr.ro with e|⟨g,c,e⟩
     ·injection e with Z e2 e3;omega
     ·injection e with Z e2 e3;exact⟨g,Z⟩
    subst eg;have HN:=fV (qW.node2 F.o.fn F.o.fk F.o.lr rfl hA 1 (by decide) (λ _=>false));have aT:QQ (∀m,m∈nr->m<(L++M).length):=λ m hm=>by have:=F.o.sr.lt m hm;rw[lB]at this;exact this
    have bS:(OD ao no.length co).ownBlock≠some g:=λ e=>F.o.di g e rfl
    have bM:=fV (F.o.lo.tagged bS);obtain⟨L1,Z⟩:∃L1,L1=L++M:=⟨_,rfl⟩
    have tO:L1.length<=6000:=by rw[Z,LF];omega
    rw[<-Z]at HN aT;have Y:=fV Z;clear Z bS;rcases bO with sW|⟨U,eX⟩
    all_goals
     go_wp2_with fail;refine(uQ HN.o.1 1 (some ⟨g,0,none⟩) none nr.length cr 0 0 ⟨1,nr,λ _=>false⟩ rfl HN.o.2.2 aT.o (by omega)).mono ?_;obtain⟨t1,aO⟩:∃t:NV,t=⟨⟨1,nr,λ _=>false⟩,.slice (some ⟨g,0,none⟩) nr.length cr,.slice none 0 0⟩:=⟨_,rfl⟩
     rw[<-aO];rintro e w3 ⟨rfl,O3,A3,bT,aL⟩;have eR:QQ (t1.x=⟨1,nr,λ _=>false⟩):=by unfold QQ;rw[aO]
     have eN:=fV bT;have aW:=fV (HN.o.2.1.trans aL);have bC:=fV (bM.o.keep aL);have bK:=fV bC.o.ro;have A2:=aW.o.size;clear aO bT aL HN bM;go_wp2_with (first|(at_builtin;refine gB w3 rfl (.tmp 42) (.tmp 44) 59 rfl w.heap.size 3 (.int .i64 0) 1 8 NJ bY rfl (by decide) (by decide) (.slice ao no.length co) no.length (kI no) [.int .i64 (L1.length:Int)] _ rfl bK.o _ rfl rfl rfl (by simp[NN]) (by omega) (by omega) ?_;intro g4 cap4 w4 D C J V;have I:=fV (qW.app eN.o aW.o bC.o (qW.start w3 O3 w.heap.size) (λ k e=>by cases e) D C J);clear D C J V));have cN:=fV (qW.node2 I.o.1 I.o.2.1 I.o.2.2.1 (by simp) (by simp) 2 (by decide) (λ _=>false));have lH:QQ (∀m,m∈no++[L1.length]->m<(L1++[t1]).length):=λ m hm=>by
      rw[LF,LU];rcases LN.1 hm with e|e
      ·have:=F.o.so.lt m e;rw[lB,<-Y.o]at this;omega
      ·rw[LI.1 e];omega
     refine(uQ cN.o.1 2 (some ⟨g4,0,none⟩) none (no.length+1) cap4 0 0 ⟨2,no++[L1.length],λ _=>false⟩ rfl cN.o.2.2 lH.o (by simp;omega)).mono ?_;obtain⟨t2,hB⟩:∃t:NV,t=⟨⟨2,no++[L1.length],λ _=>false⟩,.slice (some ⟨g4,0,none⟩) (no.length+1) cap4,.slice none 0 0⟩:=⟨_,rfl⟩
     rw[<-hB];rintro e w6 ⟨rfl,O6,H4,hQ,hS⟩;have sR:QQ (t2.x=⟨2,no++[(L++M).length],λ _=>false⟩):=by unfold QQ;rw[hB,Y.o]
     have nN:=fV hQ;have qL:=fV (cN.o.2.1.trans hS);clear hB hQ hS cN;go_wp2;go_ret3;have eL:=F.o.aK hs tL hJ.o eR.o sR.o (by rw[<-Y.o];exact nN.o) qL.o;rw[<-Y.o]at eL;exact eL
  ·have U:i<s.size:=by
    apply LQ;intro hn;exact Q (by unfold uS;rw[aE];exact .inl (by omega))
   have hK:bt s i≠41:=λ e=>Q (by unfold uS;rw[aE];exact .inr e)
   have rT:QQ (uS s i=false):=by unfold QQ;simpa using Q
   have eX:(s[i]'U).toNat=bt s i:=kL s i U;have E6:(0:Int)<=(i:Int)/\(i:Int)<(s.size:Int):=by omega
   have hY:=mT s i;clear Q;by_cases k1:bt s i=124
   ·have hC:=fV k1;rw[k1]at eX;clear k1 hK hY
    cases rs with
    | nil=>
     have gL:nr=[]:=MZ.1 cF.o;have bN:QQ (T=none):=F.o.ei.none0 (Dj (d7 U hC.o));subst gL;go_wp2;go_ret3;rw[bN.o];exact uG.bad F.o.fk
    | cons p ps=>
     have hA:0<nr.length:=by rw[cF.o];simp
     have A1:((nr.length:Int)==0)=false:=by rw[aC];omega
     obtain⟨g,eg⟩:∃g,ar=some ⟨g,0,none⟩:=by
      rcases iL F.o.lr.ro with e|⟨g,c,e⟩
      ·injection e with Z e2 e3;omega
      ·injection e with Z e2 e3;exact⟨g,Z⟩
     subst eg;have HN:=fV (qW.node2 F.o.fn F.o.fk F.o.lr rfl hA 1 (by decide) (λ _=>false));have aT:QQ (∀m,m∈nr->m<(L++M).length):=λ m hm=>by have:=F.o.sr.lt m hm;rw[lB]at this;exact this
     have bS:(OD ao no.length co).ownBlock≠some g:=λ e=>F.o.di g e rfl
     have bM:=fV (F.o.lo.tagged bS);obtain⟨L1,Z⟩:∃L1,L1=L++M:=⟨_,rfl⟩
     have tO:L1.length<=6000:=by rw[Z,LF];omega
     rw[<-Z]at HN aT;have Y:=fV Z;clear Z bS;go_wp2_with fail;refine(uQ HN.o.1 1 (some ⟨g,0,none⟩) none nr.length cr 0 0 ⟨1,nr,λ _=>false⟩ rfl HN.o.2.2 aT.o (by omega)).mono ?_;obtain⟨t1,aO⟩:∃t:NV,t=⟨⟨1,nr,λ _=>false⟩,.slice (some ⟨g,0,none⟩) nr.length cr,.slice none 0 0⟩:=⟨_,rfl⟩
     rw[<-aO];rintro e w3 ⟨rfl,O3,A3,bT,aL⟩;have eR:QQ (t1.x=⟨1,nr,λ _=>false⟩):=by unfold QQ;rw[aO]
     have eN:=fV bT;have aW:=fV (HN.o.2.1.trans aL);have bC:=fV (bM.o.keep aL);have bK:=fV bC.o.ro;have A2:=aW.o.size;clear aO bT aL HN bM;go_wp2_with (first|(at_builtin;refine gB w3 rfl (.tmp 42) (.tmp 44) 59 rfl w.heap.size 3 (.int .i64 0) 1 8 NJ bY rfl (by decide) (by decide) (.slice ao no.length co) no.length (kI no) [.int .i64 (L1.length:Int)] _ rfl bK.o _ rfl rfl rfl (by simp[NN]) (by omega) (by omega) ?_;intro g4 cap4 w4 D C J V;have I:=fV (qW.app eN.o aW.o bC.o (qW.start w3 O3 w.heap.size) (λ k e=>by cases e) D C J);clear D C J V));go_roundw
     case rel=>
      have hN:=F.o.bar hs hR U hC.o eR.o (by rw[<-Y.o];exact I.o.1) I.o.2.1 (by rw[<-Y.o];exact I.o.2.2.1);exact⟨i+1,_,_,_,_,_,_,_,by go_num,by omega,U,hN⟩
     case measure=>simp[QP];omega
   ·have t1:((bt s i:Int)==41)=false:=by rw[aC];omega
    have t2:((bt s i:Int)==124)=false:=by rw[aC];omega
    have iN:=fV k1;have eS:QQ (∀W,FN fb W O1 (L++M) cP vR rc nR (pl+yC ors+yC rs) cn->QV MH 104 #[.pointer (some ⟨fb,0,none⟩),.string s,.int .i64 (i:Int)] W (uG 2 fb W O1 (L++M) vR rc nR (pl+yC ors+yC rs) cn i (iZ s ex i))):=λ W hW=>HP.o fb W O1 (L++M) cP vR rc nR _ cn i hW F.o.ok (by omega) (by omega) (by rw[LF];omega)
    have aR:QQ (iZ s ex i=none->T=none):=λ e=>F.o.ei.bad U rT.o iN.o e
    have eO:=fV (λ r a=>wQ HB.o i r a);have hE:QQ (∀r2 a2,iZ s ex i=some (r2,a2)->Jz s ex T ors (rs++[r2]) a2):=λ r2 a2 e=>F.o.ei.piece HB.o e
    obtain⟨P,eT⟩:∃P,P=iZ s ex i:=⟨_,rfl⟩
    rw[<-eT]at eS aR eO hE;have hG:=fV eT;clear eT k1 hK hY;generalize bt s i=y at*
    cases P with
    | none=>
     have bN:=fV (aR.o rfl);go_wp2_with fail;refine(eS.o _ (F.o.fn.below ⟨rfl,rfl,rfl,lR,λ _ _=>rfl⟩)).mono ?_;rintro e w1 ⟨a,b,O',rfl,hk⟩;have HK:=fV (F.o.fk.trans hk);clear hk;go_wp2;go_ret3;rw[bN.o];exact uG.bad HK.o
    | some q=>
     obtain⟨r2,a2⟩:=q;have A0:=eO.o r2 a2 rfl;have hH:QQ (iZ s ex i=some (r2,a2)):=hG.o.symm;clear aR eO hE hG;go_wp2_with fail;refine(eS.o _ (F.o.fn.below ⟨rfl,rfl,rfl,lR,λ _ _=>rfl⟩)).mono ?_;rintro e w1 ⟨n,M2,H3,O2,rfl,hf,hk,hX,eM,hM⟩;have nL:=fV hf;have hD:=fV (F.o.fk.trans hk);have rO:=fV hX;have qR:=fV eM;have hI:=fV (F.o.lr.keep hk);have rL:=fV (F.o.lo.keep hk);have bK:=fV hI.o.ro;have H1:=hD.o.size;clear hf hk hX eM;go_wp2_with (first|(at_builtin;refine gB w1 rfl (.tmp 66) (.tmp 68) 59 rfl w.heap.size 3 (.int .i64 0) 1 8 NJ bY rfl (by decide) (by decide) (.slice ar nr.length cr) nr.length (kI nr) [.int .i64 (n:Int)] _ rfl bK.o _ rfl rfl rfl (by simp[NN]) (by omega) (by omega) ?_;intro g4 cap4 w4 D C J V;have I:=fV (qW.app nL.o hD.o hI.o rL.o F.o.di D C J);clear D C J V));go_roundw
     case rel=>
      have tT:=F.o.more hR HB.o hH.o rO.o qR.o hM I.o.1 I.o.2.1 I.o.2.2.2.1 I.o.2.2.1 I.o.2.2.2.2;exact⟨a2,_,_,_,_,_,_,_,rfl,by omega,A0.2,tT⟩
     case measure=>simp[QP];omega
theorem Xm{s:tB}(F:s.size<=200):∀f,Oa 76 s 0 0 (s.size+1-f) (qQ s (kO s f)):=by
 intro f
 induction f with
 | zero=>intro fb w O L vN vR rc nR pl cn i _ _ I J;omega
 | succ f ih=>
  have C:=Xj (by omega) ih (xH s f);have D:=Rp (by omega) C (xH s f);have o:=Rk F D;have e:s.size+1-f-1=s.size+1-(f+1):=by omega
  rw[e]at o;exact o
theorem dJ:(Tryz.prog.info? 9).map (λ i=>(i.zero,i.size,i.bytes))=some (some (.string ⟨#[]⟩),1,16):=by kernel_rfl
theorem lN{w wr w4:tW}{v:tV}{xs:List tV}{o:Obj}(C:Bl w wr)(F:wr.ownsRow w.heap.size T z v n xs)(hg:(wr.alloc o).grownBy w4 v.ownBlock):Bl w w4:=by
 have Q:=C.size;have J:=hg.size;have I:(wr.alloc o).heap.size=wr.heap.size+1:=by simp
 exact⟨hg.os.trans C.os,hg.tape.trans C.tape,hg.output.trans C.output,by omega,λ k D=>((hg.block k (by omega) (λ e=>by have:=(F.lt k e.symm).1;omega)).trans (MC wr o k (by omega))).trans (C.block k D)⟩
def Ay(s:tB)(c:Nat)(w:tW)(e:Ending)(w':tW):Prop:=
 ∃g aJ,e=.returned (.slice (some ⟨g,0,none⟩) (lU s c).length aJ)/\Bl w w'/\w.heap.size<=g/\g<w'.heap.size/\∀j a b,(lU s c)[j]?=some (a,b)->w'.cell? ⟨g,j,none⟩=some (.string (s.extract a b))
theorem Ay.of{s:tB}{w wr:tW}{v:tV}(h:wr.ownsRow w.heap.size 9 1 v (lU s c).length (Js s (lU s c)))(I:Bl w wr):Ay s c w (.returned v) wr:=by
 have U:=Si s c;rcases iL h with e|⟨g,aJ,e⟩
 ·exfalso;obtain⟨a,q,C⟩:=gA h;rw[e]at C;injection C with _ Q _;omega
 ·have o:=h.lt g (by rw[e];rfl);refine⟨g,aJ,by rw[e],I,o.1,o.2,λ j a b J=>?_⟩;have:=h.cells (g:=g) (by rw[e];rfl) j _ (CF J);have F:(⟨g,0,none⟩:Addr).add j=⟨g,j,none⟩:=by
   unfold Addr.add;split
   ·rename_i D;rw[D]
   ·rw[MJ]
  rw[F]at this;exact this
theorem Dv(s:tB)(c:Nat)(w:tW)(hs:s.size<=500):
  QV MH 43 #[.string s,.int .u8 (c:Int)] w (Ay s c w):=by
 go_enter func43,ntmps43;go_wp2
 go_loopw [5,6,7] (λ x y z wr=>∃(i fr:Nat)(aS:List (Nat×Nat)),i<=s.size+1/\fr<=i/\aS.length<=i/\z=.int .i64 (i:Int)/\y=.int .i64 (fr:Int)/\QQ (lU s c=aS++Ym s c (s.size+1-i) fr i)/\wr.ownsRow w.heap.size 9 1 x aS.length (Js s aS)/\Bl w wr) (λ _ _ z _=>s.size+1-(QP z).toNat)
 case atStart=>exact⟨0,0,[],by omega,by omega,by simp,rfl,rfl,rfl,NB _ _ _ 1,bR⟩
 case round=>
  obtain⟨i,fr,aS,hi,bO,bK,rfl,rfl,F,aR,aL⟩:=hrel;obtain⟨ao,co,eo⟩:=gA aR;subst eo;have J:=fV aR;have V:=fV aL;have bT:=aL.size;clear aR aL;by_cases bS:i<=s.size
  ·obtain⟨n,hn⟩:∃n,s.size+1-i=n+1:=⟨s.size-i,by omega⟩
   have aW:s.size+1-(i+1)=n:=by omega
   have bN:(0:Int)<=(fr:Int)/\(fr:Int)<=(i:Int)/\(i:Int)<=(s.size:Int):=by omega
   rw[hn]at F;have X:=fV aW;clear hn aW;by_cases hc:i=s.size\/bt s i=c
   ·rw[Jq hc]at F;have aO:i=s.size\/∃h:i<s.size,(s[i]'h).toNat=c/\((i:Int)==(s.size:Int))=false:=by
     by_cases e:i=s.size
     ·exact .inl e
     ·exact .inr ⟨by omega,by rw[kL s i (by omega)];exact hc.resolve_left e,by rw[aC];omega⟩
    have I:QQ (lU s c=(aS++[(fr,i)])++Ym s c (s.size+1-(i+1)) (i+1) (i+1)):=by unfold QQ;rw[F.o,X.o];simp
    clear hc F X;rcases aO with e|⟨h1,h2,h3⟩
    ·have d1:((i:Int)==(s.size:Int))=true:=by rw[e];simp
     clear e;go_wp2_with (first|(at_builtin;refine gB wr rfl (.tmp 25) (.tmp 30) 123 rfl w.heap.size 9 (.string ⟨#[]⟩) 1 16 underlying123 dJ rfl (by decide) (by decide) (.slice ao aS.length co) aS.length (Js s aS) [.string (s.extract fr i)] _ rfl J.o _ rfl rfl rfl (by simp[NN]) (by omega) (by omega) ?_;intro g4 cap4 w4 D C Q U;have Z:=fV D;have Y:QQ (Bl w w4):=lN V.o J.o C;clear D C Q U));go_roundw
     case rel=>exact⟨i+1,i+1,aS++[(fr,i)],by omega,by omega,by simp;omega,by go_num,by go_num,I,by rw[Ho,LF,LU];exact Z.o,Y.o⟩
     case measure=>simp[QP];omega
    ·have bC:(0:Int)<=(i:Int)/\(i:Int)<(s.size:Int):=by omega
     go_wp2_with (first|(at_builtin;refine gB wr rfl (.tmp 25) (.tmp 30) 123 rfl w.heap.size 9 (.string ⟨#[]⟩) 1 16 underlying123 dJ rfl (by decide) (by decide) (.slice ao aS.length co) aS.length (Js s aS) [.string (s.extract fr i)] _ rfl J.o _ rfl rfl rfl (by simp[NN]) (by omega) (by omega) ?_;intro g4 cap4 w4 D C Q U;have Z:=fV D;have Y:QQ (Bl w w4):=lN V.o J.o C;clear D C Q U));go_roundw
     case rel=>exact⟨i+1,i+1,aS++[(fr,i)],by omega,by omega,by simp;omega,by go_num,by go_num,I,by rw[Ho,LF,LU];exact Z.o,Y.o⟩
     case measure=>simp[QP];omega
   ·rw[Sh hc]at F;have aT:i<s.size:=by
     apply LQ;intro h;exact hc (.inl (by omega))
    have bM:(s[i]'aT).toNat=bt s i:=kL s i aT;have d1:((i:Int)==(s.size:Int))=false:=by rw[aC];omega
    have d2:((bt s i:Int)==(c:Int))=false:=by rw[aC];intro e;exact hc (.inr (by omega))
    have bC:(0:Int)<=(i:Int)/\(i:Int)<(s.size:Int):=by omega
    have I:QQ (lU s c=aS++Ym s c (s.size+1-(i+1)) fr (i+1)):=by unfold QQ;rw[F.o,X.o]
    clear hc F X;generalize bt s i=y at*;go_wp2;go_roundw
    case rel=>exact⟨i+1,fr,aS,by omega,by omega,by omega,by go_num,rfl,I,J.o,V.o⟩
    case measure=>simp[QP];omega
  ·have HE:QQ (lU s c=aS):=by
    unfold QQ;rw[F.o,show s.size+1-i=0 by omega];simp[Ym]
   have dl:decide ((i:Int)<=(s.size:Int))=false:=by simp;omega
   go_wp2;go_ret;exact Ay.of (by rw[HE.o];exact J.o) V.o
section
variable {w w':tW}{O O':Nat->Nat}{fb nR pl cn:Nat}{L:List NV}{vN vR:tV}{rc:List tV}
theorem FN.cns(h:FN fb w O L vN vR rc nR pl cn)(p:Nat):FN fb (w.setCell ⟨fb,3,none⟩ (.int .i64 (p:Int))) O L vN vR rc nR pl p/\FK w O (w.setCell ⟨fb,3,none⟩ (.int .i64 (p:Int))) O:=by
 obtain⟨I,X⟩:=h.wt;have C:∀k,k≠fb->(w.setCell ⟨fb,3,none⟩ (.int .i64 (p:Int))).heap[k]?=w.heap[k]? :=λ k o=>iC w fb 3 _ o
 have Y:(w.setCell ⟨fb,3,none⟩ (.int .i64 (p:Int))).heap.size=w.heap.size:=by simp[ND]
 have D:∀i,i≠3->(w.setCell ⟨fb,3,none⟩ (.int .i64 (p:Int))).cell? ⟨fb,i,none⟩=w.cell? ⟨fb,i,none⟩:=λ i hi=>MN _ _ _ _ (by intro Q;injection Q;omega)
 have F:=(OF 0 w).setCell (p:=⟨fb,3,none⟩) zL (.int .i64 (p:Int));refine⟨⟨(D 0 (by omega)).trans h.c0,(D 1 (by omega)).trans h.c1,(D 2 (by omega)).trans h.c2,MO _ _ _ h.c3,λ i=>by rw[MW];exact h.fz i,⟨I,by omega⟩,
  iH h.rn (λ k o=>C k (by have:=(h.rn.lt k o).1;omega)),iH h.rr (λ k o=>C k (by have:=(h.rr.lt k o).1;omega)),h.tn,h.tr,
  λ t V=>(h.nd t V).keep (by omega) (λ k o J=>⟨C k (λ e=>by rw[e,I]at J;cases J),rfl⟩),h.cl,λ k o=>h.fr k (by omega)⟩,
  ⟨F.os,F.tape,F.output,by omega,λ k o U _ _=>C k (λ e=>U (by rw[e];exact I)),λ _ _=>rfl⟩⟩
def pS(cn:Nat)(n:Int):Nat:=if(cn:Int)<=n then(n+1).toNat else cn
theorem Ai(h:FN fb w O L vN vR rc nR pl cn)(n:Int)(hn: -1<=n/\n<=3):
  QV MH 75 #[.pointer (some ⟨fb,0,none⟩),.int .i64 n] w λ e w'=>e=.returned (.tuple #[])/\FN fb w' O L vN vR rc nR pl (pS cn n)/\FK w O w' O:=by
 have U:=h.c3;have V:=h.fz 3;have J:=fV h;clear h;by_cases C:(cn:Int)<=n
 ·have Q:decide ((cn:Int)<=n)=true:=by simp;omega
  have I:QQ (pS cn n=(n+1).toNat):=by unfold QQ pS;rw[aB C]
  have F:=fV (J.o.cns (n+1).toNat);have D:((n+1).toNat:Int)=n+1:=by omega
  rw[D]at F;clear D;go_enter func75,ntmps75;go_wp2;refine bodyPost_end (results_none rfl _ _ _) rfl ?_;exact⟨rfl,by rw[I.o];exact F.o.1,F.o.2⟩
 ·have Q:decide ((cn:Int)<=n)=false:=by simp;omega
  have I:QQ (pS cn n=cn):=by unfold QQ pS;rw[aA C]
  go_enter func75,ntmps75;go_wp2;refine bodyPost_end (results_none rfl _ _ _) rfl ?_;exact⟨rfl,by rw[I.o];exact J.o,FK.refl _ _⟩
structure RV where
 f:Nat->Bool
 c:Nat
 n:Nat
 g:Nat
def RV.cells(x:RV):List tV:= [.slice (some ⟨x.g,0,none⟩) 4 4,.int .u8 (x.c:Int),.int .i64 (x.n:Int)]
def BT(R:List RV):List tV:=R.flatMap RV.cells
theorem GC(l:List RV)(t:RV):BT (l++[t])=BT l++t.cells:=by unfold BT;simp
def Kc(w:tW)(O:Nat->Nat)(x:RV):Prop:=O x.g=4/\x.g<w.heap.size/\∀i,i<4->w.cell? ⟨x.g,i,none⟩=some (.bool (x.f i))
theorem Kc.keep{x:RV}(h:Kc w O x)(C:FK w O w' O'):Kc w' O' x:=by
 obtain⟨D,o,F⟩:=h;have e:=C.block x.g o (by omega) (by omega) (by omega);exact⟨(C.own x.g o).trans D,MI o C.size,λ i hi=>(LK (w:=w) (a:=⟨x.g,i,none⟩) e).trans (F i hi)⟩
theorem FN.rule(h:FN fb w O L vN vR rc nR pl cn){w4:tW}{o:Obj}{g aJ n:Nat}{xs:List tV}{v0:tV}(hn:nR=n)(aT:vR=v0)
  (I:w4.ownsRow (fb+1) 82 3 (.slice (some ⟨g,0,none⟩) (n+1) aJ) (n+1) (rc++xs))
  (F:(w.alloc o).grownBy w4 v0.ownBlock) (V:v0.ownBlock=some g\/g=w.heap.size+1):
  FN fb (w4.setCell ⟨fb,1,none⟩ (.slice (some ⟨g,0,none⟩) (n+1) aJ)) (λ k=>if k=g then 3 else O k) L vN (.slice (some ⟨g,0,none⟩) (n+1) aJ) (rc++xs) (n+1) pl cn/\
  FK w O (w4.setCell ⟨fb,1,none⟩ (.slice (some ⟨g,0,none⟩) (n+1) aJ)) (λ k=>if k=g then 3 else O k):=by
 subst hn aT;obtain⟨o1,b1⟩:=h.wt;have bC:=F.size;have ez:(w.alloc o).heap.size=w.heap.size+1:=by simp
 have aW:=(I.lt g rfl).2;have bK:(w4.setCell ⟨fb,1,none⟩ (.slice (some ⟨g,0,none⟩) (nR+1) aJ)).heap.size=w4.heap.size:=by simp[ND]
 have U:g<w.heap.size->O g=3:=λ hg=>by
  rcases V with e|e
  ·exact h.tr g e
  ·omega
 have D:∀k,k<w.heap.size->O k≠1->O k≠3->(w4.setCell ⟨fb,1,none⟩ (.slice (some ⟨g,0,none⟩) (nR+1) aJ)).heap[k]?=w.heap[k]? /\(if k=g then 3 else O k)=O k:=λ k C aR Q=>by
  have aL:k≠fb:=λ e=>aR (by rw[e];exact o1)
  have aO:k≠g:=λ e=>Q (by rw[e];exact U (by omega))
  refine⟨(iC w4 fb 1 _ aL).trans ((F.block k (by omega) (λ e=>Q (h.tr k e.symm))).trans (MC w o k C)),aA aO⟩
 have J:w4.heap[fb]?=w.heap[fb]? :=(F.block fb (by omega) (λ e=>by have:=h.tr fb e.symm;omega)).trans (MC w o fb b1);have Y:g≠fb:=by have:=(I.lt g rfl).1;omega
 have X:∀i,i≠1->(w4.setCell ⟨fb,1,none⟩ (.slice (some ⟨g,0,none⟩) (nR+1) aJ)).cell? ⟨fb,i,none⟩=w.cell? ⟨fb,i,none⟩:=λ i hi=>by
  rw[MN (h:=by intro e';injection e';omega)];exact LK (w:=w) (a:=⟨fb,i,none⟩) J
 refine⟨⟨(X 0 (by omega)).trans h.c0,MO _ _ _ ((LK (w:=w) (a:=⟨fb,1,none⟩) J).trans h.c1),(X 2 (by omega)).trans h.c2,(X 3 (by omega)).trans h.c3,λ i=>by rw[MW];exact(ML (w:=w) (a:=⟨fb,i,none⟩) J).trans (h.fz i),⟨(aA (Ne.symm Y)).trans o1,by omega⟩,?_,?_,λ k C=>?_,λ k C=>?_,λ u hu=>?_,h.cl,λ k C=>?_⟩,?_⟩
 ·exact iH h.rn (λ k C=>(D k (h.rn.lt k C).2 (by have:=h.tn k C;omega) (by have:=h.tn k C;omega)).1)
 ·exact QO I (show fb<fb+1 by omega) _
 ·have:=h.tn k C;rw[(D k (h.rn.lt k C).2 (by omega) (by omega)).2];exact this
 ·have Z:g=k:=by simpa[NF]using C
  exact aB Z.symm
 ·exact(h.nd u hu).keep (by omega) (λ k C ho=>D k C (by omega) (by omega))
 ·rw[aA (by omega)];exact h.fr k (by omega)
 ·have hs:=(OF 0 w4).setCell (p:=⟨fb,1,none⟩) zL (.slice (some ⟨g,0,none⟩) (nR+1) aJ);refine⟨hs.os.trans F.os,hs.tape.trans F.tape,hs.output.trans F.output,by omega,λ k C h1 _ h2=>(D k C h1 h2).1,λ k C=>?_⟩;by_cases e:k=g
  ·simp only[e,if_true];exact(U (by omega)).symm
  ·simp only[aA e]
end
section
def oD(x:tB):Nat->(Nat->Bool)->Int->Nat->Option ((Nat->Bool)×Int)
 | 0,_,_,_=>none
 | n+1,f,aZ,i=>if x.size<=i then some (f,aZ)else if jS (bt x i)<=aZ then none else oD x n (λ j=>if(j:Int)=jS (bt x i)then true else f j) (jS (bt x i)) (i+1)
def zF(D C o:tB):Option ((Nat->Bool)×Int×Nat×Rx):=
 if D.size=0\/o.size≠1 then none else
 match oD D (D.size+1) gK (-1) 0 with
 | none=>none
 | some (f,aZ)=>if jS (bt o 0)<0/\bt o 0≠46/\bt o 0≠45 then none else
  match qQ C (kO C (C.size+1)) 0 with
  | none=>none
  | some (r,a)=>if a=C.size then some (f,aZ,bt o 0,r)else none
def oF(s:tB):Option ((Nat->Bool)×Int×Nat×Rx):=
 match lU s 32 with
 | [p0,p1,p2]=>zF (s.extract p0.1 p0.2) (s.extract p1.1 p1.2) (s.extract p2.1 p2.2)
 | _=>none
def T1(s:tB)(fb:Nat)(w:tW)(O:Nat->Nat)(L:List NV)(rc:List tV)(nR pl cn:Nat)(x:Option ((Nat->Bool)×Int×Nat×Rx))(e:Ending)(w':tW):Prop:=
 match x with
 | none=>∃O',e=.returned (.bool false)/\FK w O w' O'
 | some (f,aZ,c,r)=>∃(n g:Nat)(M:List NV)(o C:tV)(O':Nat->Nat),e=.returned (.bool true)/\FN fb w' O' (L++M) o C (rc++RV.cells ⟨f,c,n,g⟩) (nR+1) (pl+r.np) (pS (pS cn aZ) (jS c))/\FK w O w' O'/\Kc w' O' ⟨f,c,n,g⟩/\Stn.Sem (jB (L++M)) n r/\En (L++M) (pl+r.np)/\M.length<=3*s.size
theorem T1.bad{s:tB}{w w':tW}{O O':Nat->Nat}{L:List NV}{rc:List tV}(h:FK w O w' O'):T1 s fb w O L rc nR pl cn none (.returned (.bool false)) w':=⟨O',rfl,h⟩
theorem T1.good{s:tB}{w w':tW}{O O':Nat->Nat}{L M:List NV}{vN' o:tV}{rc:List tV}{f:Nat->Bool}{r:Rx}(C:FN fb w' O' (L++M) vN' o (rc++RV.cells ⟨f,c,n,g⟩) (nR+1) (pl+r.np) (pS (pS cn aZ) (jS c)))(D:FK w O w' O')(F:Kc w' O' ⟨f,c,n,g⟩)(I:Stn.Sem (jB (L++M)) n r)(J:En (L++M) (pl+r.np))(Q:M.length<=3*s.size):
  T1 s fb w O L rc nR pl cn (some (f,aZ,c,r)) (.returned (.bool true)) w':=⟨n,g,M,vN',o,O',rfl,C,D,F,I,J,Q⟩
theorem eH:(Tryz.prog.info? 4).map (λ i=>(i.zero,i.size,i.bytes))=some (some (.bool false),1,1):=by kernel_rfl
theorem fU(X:tW):(Instr.makeSlice 80 (.int .i64 4) (.int .i64 4)).run MH X=.ok (.slice (some ⟨X.heap.size,0,none⟩) 4 4) (X.alloc (.cells #[.bool false,.bool false,.bool false,.bool false] 4)):=
 by
 have h:=run_make_row' (P:=MH) 80 4 (.bool false) 1 OH eH rfl .i64 .i64 4 (by omega) (by omega) X;have e:QT #[PB false] 4= #[.bool false,.bool false,.bool false,.bool false]:=by first|kernel_rfl|(simp[QT];done)|decide
 rw[e]at h;exact h
attribute [local go_sem] fU
attribute [local go_sem ↓] Go.wp_at_zero Go.wp_at_succ
theorem S0(s:tB)(a b:Nat):(s.extract a b).size<=s.size:=by rw[ByteArray.size_extract];omega
structure RB(w1 wr:tW)(rb gs:Nat)(f:Nat->Bool)(c:Nat)(n:Nat):Prop where
 c0:wr.cell? ⟨rb,0,none⟩=some (.slice (some ⟨gs,0,none⟩) 4 4)
 c1:wr.cell? ⟨rb,1,none⟩=some (.int .u8 (c:Int))
 c2:wr.cell? ⟨rb,2,none⟩=some (.int .i64 (n:Int))
 fz:∀i,wr.frozen? ⟨rb,i,none⟩=false
 ne:gs≠rb
 b1:w1.heap.size<=rb
 b2:rb<wr.heap.size
 b3:w1.heap.size<=gs
 b4:gs<wr.heap.size
 ba:BA wr gs 4 f
theorem AB(w:tW)(B:Nat)(C:w.heap.size=B):BA (w.alloc (.cells #[.bool false,.bool false,.bool false,.bool false] 4)) B 4 gK:=by
 subst C;refine⟨λ i hi=>?_,λ i=>NO _ _ _ i rfl⟩;rw[NG];have o:i=0\/i=1\/i=2\/i=3:=by omega
 rcases o with rfl|rfl|rfl|rfl<;>rfl
theorem BA.other{w w':tW}{f:Nat->Bool}(h:BA w g n f)(e:w'.heap[g]?=w.heap[g]?):BA w' g n f:=
 ⟨λ i hi=>(LK (w:=w) (a:=⟨g,i,none⟩) e).trans (h.c i hi),λ i=>(ML (w:=w) (a:=⟨g,i,none⟩) e).trans (h.f i)⟩
theorem RB.newA(w1:tW)(c:Nat):RB w1 (((w1.alloc (.cells #[.bool false,.bool false,.bool false,.bool false] 4)).alloc (.cells #[.slice (some ⟨w1.heap.size,0,none⟩) 4 4,.int .u8 (c:Int),.int .i64 0] 82)).drewN 1) (w1.heap.size+1) w1.heap.size gK c 0/\Bl w1 (((w1.alloc (.cells #[.bool false,.bool false,.bool false,.bool false] 4)).alloc (.cells #[.slice (some ⟨w1.heap.size,0,none⟩) 4 4,.int .u8 (c:Int),.int .i64 0] 82)).drewN 1):=by
 have D:(w1.alloc (.cells #[.bool false,.bool false,.bool false,.bool false] 4)).heap.size=w1.heap.size+1:=by simp
 have F:(((w1.alloc (.cells #[.bool false,.bool false,.bool false,.bool false] 4)).alloc (.cells #[.slice (some ⟨w1.heap.size,0,none⟩) 4 4,.int .u8 (c:Int),.int .i64 0] 82)).drewN 1).heap.size=w1.heap.size+2:=by show((w1.alloc _).alloc _).heap.size=_;simp
 have C:Bl w1 ((w1.alloc (.cells #[.bool false,.bool false,.bool false,.bool false] 4)).alloc (.cells #[.slice (some ⟨w1.heap.size,0,none⟩) 4 4,.int .u8 (c:Int),.int .i64 0] 82)):=(bR.alloc lR _).alloc (by omega) _;have o:∀i,(((w1.alloc (.cells #[.bool false,.bool false,.bool false,.bool false] 4)).alloc (.cells #[.slice (some ⟨w1.heap.size,0,none⟩) 4 4,.int .u8 (c:Int),.int .i64 0] 82)).drewN 1).cell? ⟨w1.heap.size+1,i,none⟩=(#[.slice (some ⟨w1.heap.size,0,none⟩) 4 4,.int .u8 (c:Int),.int .i64 0]:Array tV)[i]? :=λ i=>MS _ _ _ i D.symm
 refine⟨⟨o 0,o 1,o 2,λ i=>?_,by omega,by omega,by omega,lR,by omega,?_⟩,⟨C.os,C.tape,C.output,C.size,C.block⟩⟩
 ·exact NO _ _ _ i D.symm
 ·exact(AB w1 _ rfl).other (MC (w1.alloc _) _ _ (by omega))
theorem RB.newB(w1:tW)(c:Nat):RB w1 (((w1.alloc (.cells #[.slice (some ⟨w1.heap.size+1,0,none⟩) 4 4,.int .u8 (c:Int),.int .i64 0] 82)).alloc (.cells #[.bool false,.bool false,.bool false,.bool false] 4)).drewN 1) w1.heap.size (w1.heap.size+1) gK c 0/\Bl w1 (((w1.alloc (.cells #[.slice (some ⟨w1.heap.size+1,0,none⟩) 4 4,.int .u8 (c:Int),.int .i64 0] 82)).alloc (.cells #[.bool false,.bool false,.bool false,.bool false] 4)).drewN 1):=by
 have F:(w1.alloc (.cells #[.slice (some ⟨w1.heap.size+1,0,none⟩) 4 4,.int .u8 (c:Int),.int .i64 0] 82)).heap.size=w1.heap.size+1:=by simp
 have I:(((w1.alloc (.cells #[.slice (some ⟨w1.heap.size+1,0,none⟩) 4 4,.int .u8 (c:Int),.int .i64 0] 82)).alloc (.cells #[.bool false,.bool false,.bool false,.bool false] 4)).drewN 1).heap.size=w1.heap.size+2:=by show((w1.alloc _).alloc _).heap.size=_;simp
 have C:Bl w1 ((w1.alloc (.cells #[.slice (some ⟨w1.heap.size+1,0,none⟩) 4 4,.int .u8 (c:Int),.int .i64 0] 82)).alloc (.cells #[.bool false,.bool false,.bool false,.bool false] 4)):=(bR.alloc lR _).alloc (by omega) _;have D:(((w1.alloc (.cells #[.slice (some ⟨w1.heap.size+1,0,none⟩) 4 4,.int .u8 (c:Int),.int .i64 0] 82)).alloc (.cells #[.bool false,.bool false,.bool false,.bool false] 4)).drewN 1).heap[w1.heap.size]?=(w1.alloc (.cells #[.slice (some ⟨w1.heap.size+1,0,none⟩) 4 4,.int .u8 (c:Int),.int .i64 0] 82)).heap[w1.heap.size]? :=MC (w1.alloc _) _ _ (by omega);have o:∀i,(((w1.alloc (.cells #[.slice (some ⟨w1.heap.size+1,0,none⟩) 4 4,.int .u8 (c:Int),.int .i64 0] 82)).alloc (.cells #[.bool false,.bool false,.bool false,.bool false] 4)).drewN 1).cell? ⟨w1.heap.size,i,none⟩=(#[.slice (some ⟨w1.heap.size+1,0,none⟩) 4 4,.int .u8 (c:Int),.int .i64 0]:Array tV)[i]? :=λ i=>(LK (a:=⟨w1.heap.size,i,none⟩) D).trans (MS _ _ _ i rfl)
 refine⟨⟨o 0,o 1,o 2,λ i=>(ML (a:=⟨w1.heap.size,i,none⟩) D).trans (NO _ _ _ i rfl),by omega,lR,by omega,by omega,by omega,?_⟩,⟨C.os,C.tape,C.output,C.size,C.block⟩⟩;exact(AB _ _ F).other rfl
theorem RB.set{w1 wr:tW}{f:Nat->Bool}(h:RB w1 wr rb gs f c n)(k:Nat)(C:k<4):RB w1 (wr.setCell ⟨gs,k,none⟩ (.bool true)) rb gs (λ j=>if j=k then true else f j) c n:=by
 have o:=iC wr gs k (.bool true) (Ne.symm h.ne);have F:(wr.setCell ⟨gs,k,none⟩ (.bool true)).heap.size=wr.heap.size:=by simp[ND]
 have b2:=h.b2;have D:=h.b4;exact⟨(LK (w:=wr) (a:=⟨rb,0,none⟩) o).trans h.c0,(LK (w:=wr) (a:=⟨rb,1,none⟩) o).trans h.c1,(LK (w:=wr) (a:=⟨rb,2,none⟩) o).trans h.c2,λ i=>(ML (w:=wr) (a:=⟨rb,i,none⟩) o).trans (h.fz i),h.ne,h.b1,by omega,h.b3,by omega,h.ba.set C true⟩
theorem RB.draw{w1 wr:tW}{f:Nat->Bool}(h:RB w1 wr rb gs f c n)(q:Nat):RB w1 (wr.drewN q) rb gs f c n:=
 ⟨h.c0,h.c1,h.c2,h.fz,h.ne,h.b1,h.b2,h.b3,h.b4,⟨h.ba.c,h.ba.f⟩⟩
theorem RB.keepK{w1 wr D:tW}{O F:Nat->Nat}{f:Nat->Bool}(h:RB w1 wr rb gs f c n)(C:FK wr O D F)(Q:O rb=0)(U:O gs=0):RB w1 D rb gs f c n:=by
 have o:=C.block rb h.b2 (by omega) (by omega) (by omega);have I:=C.block gs h.b4 (by omega) (by omega) (by omega);have V:=C.size;have b2:=h.b2;have J:=h.b4;exact⟨(LK (w:=wr) (a:=⟨rb,0,none⟩) o).trans h.c0,(LK (w:=wr) (a:=⟨rb,1,none⟩) o).trans h.c1,(LK (w:=wr) (a:=⟨rb,2,none⟩) o).trans h.c2,λ i=>(ML (w:=wr) (a:=⟨rb,i,none⟩) o).trans (h.fz i),h.ne,h.b1,by omega,h.b3,by omega,h.ba.other I⟩
theorem RB.top{w w1 o:tW}{O C:Nat->Nat}{L:List NV}{vN vR:tV}{rc:List tV}{f:Nat->Bool}(h:RB w1 o rb gs f c 0)(Y:FN fb o C L vN vR rc nR pl cn)(D:FK w O o C)(hw:w.heap.size<=w1.heap.size)(h1:C rb=0)(V:C gs=0)(n:Nat):
  FN fb (o.setCell ⟨rb,2,none⟩ (.int .i64 (n:Int))) (λ k=>if k=gs then 4 else C k) L vN vR rc nR pl cn/\FK w O (o.setCell ⟨rb,2,none⟩ (.int .i64 (n:Int))) (λ k=>if k=gs then 4 else C k)/\RB w1 (o.setCell ⟨rb,2,none⟩ (.int .i64 (n:Int))) rb gs f c n/\Kc (o.setCell ⟨rb,2,none⟩ (.int .i64 (n:Int))) (λ k=>if k=gs then 4 else C k) ⟨f,c,n,gs⟩:=by
 have hz:(o.setCell ⟨rb,2,none⟩ (.int .i64 (n:Int))).heap.size=o.heap.size:=by simp[ND]
 have J:∀k,k≠rb->(o.setCell ⟨rb,2,none⟩ (.int .i64 (n:Int))).heap[k]?=o.heap[k]? :=λ k D=>iC o rb 2 _ D
 have X:∀i,i≠2->(o.setCell ⟨rb,2,none⟩ (.int .i64 (n:Int))).cell? ⟨rb,i,none⟩=o.cell? ⟨rb,i,none⟩:=λ i hi=>MN _ _ _ _ (by intro e1;injection e1;omega)
 have b1:=h.b1;have b2:=h.b2;have b3:=h.b3;have U:=h.b4;have Q:=(OF 0 o).setCell (p:=⟨rb,2,none⟩) zL (.int .i64 (n:Int));have F:=D.tag (g:=gs) (by omega);have I:=h.ba.other (J gs h.ne);refine⟨(Y.tag V U).keep (by omega) (λ k D h0=>⟨J k (λ e=>h0 (by rw[e];show(if rb=gs then 4 else C rb)=0;rw[aA (Ne.symm h.ne)];exact h1)),rfl⟩) (λ k D=>(Y.tag V U).fr k (by omega)),
  ⟨Q.os.trans F.os,Q.tape.trans F.tape,Q.output.trans F.output,by have:=F.size;omega,λ k D a1 Z a3=>(J k (by omega)).trans (F.block k D a1 Z a3),F.own⟩,
  ⟨(X 0 (by omega)).trans h.c0,(X 1 (by omega)).trans h.c1,MO _ _ _ h.c2,λ i=>by rw[MW];exact h.fz i,h.ne,b1,by omega,b3,by omega,I⟩,
  ⟨aB rfl,by show gs<_;omega,I.c⟩⟩
theorem eQ:(Tryz.prog.info? 82).map (λ i=>(i.zero,i.size,i.bytes))=some (some (.agg #[.slice none 0 0,.int .u8 0,.int .i64 0]),3,40):=by kernel_rfl
theorem zZ{x:tB}{f:Nat->Bool}(h:x.size<=i):oD x (n+1) f aZ i=some (f,aZ):=by
 show(if x.size<=i then _ else _)=_;rw[aB h]
theorem yZ{x:tB}{f:Nat->Bool}(h:i<x.size)(o:jS (bt x i)<=aZ):oD x (n+1) f aZ i=none:=by
 show(if x.size<=i then _ else _)=_;rw[aA (by omega),aB o]
theorem A5{x:tB}{f:Nat->Bool}(h:i<x.size)(o:¬jS (bt x i)<=aZ):oD x (n+1) f aZ i=oD x n (λ j=>if(j:Int)=jS (bt x i)then true else f j) (jS (bt x i)) (i+1):=by
 show(if x.size<=i then _ else _)=_;rw[aA (by omega),aA o]
theorem N4(c:Nat): -1<=jS c/\jS c<=3:=by unfold jS;split<;>omega
theorem Xq{s:tB}{w:tW}{O:Nat->Nat}{L:List NV}{vN vR:tV}{rc:List tV}(hs:s.size<=120)(h:FN fb w O L vN vR rc nR pl cn)(B2:En L pl)(hL:L.length+3*s.size<=5000)(W9:nR<=1000):
  QV MH 44 #[.pointer (some ⟨fb,0,none⟩),.string s] w (T1 s fb w O L rc nR pl cn (oF s)):=by
 obtain⟨aR,qR,eR⟩:=gA h.rr;subst eR;have HF:=fV h;have H6:=fV B2;have nN:=fV (λ W=>Dv s 32 W (by omega));have cP:QQ (oF s=match lU s 32 with
  | [p0,p1,p2]=>zF (s.extract p0.1 p0.2) (s.extract p1.1 p1.2) (s.extract p2.1 p2.2)
  | _=>none):=rfl
 clear h B2;go_enter func44,ntmps44;go_upto_region 2 with fail;refine(nN.o _).mono ?_;rintro e w1 ⟨Q,T3,rfl,rT,W6,A2,tO⟩;have F:=fV rT;have cF:=fV tO;clear rT tO nN;generalize lU s 32=l at*;by_cases h3:l.length=3
 ·obtain⟨p0,p1,p2,el⟩:∃p0 p1 p2,l=[p0,p1,p2]:=by
   match l,h3 with
   | [a,b,c],_=>exact⟨a,b,c,rfl⟩
  subst el;have aT:QQ (oF s=zF (s.extract p0.1 p0.2) (s.extract p1.1 p1.2) (s.extract p2.1 p2.2)):=cP.o;have x0:=cF.o 0 p0.1 p0.2 rfl;have x1:=cF.o 1 p1.1 p1.2 rfl;have x2:=cF.o 2 p2.1 p2.2 rfl;have z0:=S0 s p0.1 p0.2;have z1:=S0 s p1.1 p1.2;have z2:=S0 s p2.1 p2.2;generalize s.extract p0.1 p0.2=X0 at*;generalize s.extract p1.1 p1.2=X1 at*;generalize s.extract p2.1 p2.2=X2 at*;clear cP cF h3;by_cases k0:X0.size=0\/X2.size≠1
  ·have Y:QQ (oF s=none):=by unfold QQ;rw[aT.o];unfold zF;rw[aB k0]
   by_cases k1:X0.size=0
   ·have d1:((X0.size:Int)==0)=true:=by rw[k1];rfl
    clear k0 k1;go_wp2;go_ret;rw[Y.o];exact T1.bad (FK.of_below F.o O)
   ·have d1:((X0.size:Int)==0)=false:=by rw[aC];omega
    have d2:((X2.size:Int) !=1)=true:=by rw[aD];omega
    clear k0 k1;go_wp2;go_ret;rw[Y.o];exact T1.bad (FK.of_below F.o O)
  ·have k2:X2.size=1:=by omega
   have d1:((X0.size:Int)==0)=false:=by rw[aC];omega
   have d2:((X2.size:Int) !=1)=false:=by rw[k2];rfl
   have hA:0<X2.size:=by omega
   have sW:(X2[0]'hA).toNat=bt X2 0:=kL X2 0 hA;have tL:=mT X2 0;have W1:=fV k2;clear k2;go_upto_region 4 with fail;obtain⟨c,hN⟩:=xE (bt X2 0)
   rw[hN]at sW tL;have hS:=fV hN;clear hN
   go_cut [6] from 33 to 38 (λ v wc=>∃(rb gs:Nat),v=.pointer (some ⟨rb,0,none⟩)/\RB w1 wc rb gs gK c 0/\Bl w1 wc)
   case first=>
    go_big_region
    all_goals
     go_wp2;go_meet
     case rel=>first|exact⟨_,_,rfl,RB.newA w1 c⟩|exact⟨_,_,rfl,RB.newB w1 c⟩
   case rest=>
    obtain⟨rb,gs,rfl,X,V⟩:=hcut;have eT:=fV X;have eS:=fV V;clear X V x2 sW;go_wp2
    go_loopw [7,8] (λ y z wr=>∃(i:Nat)(f:Nat->Bool)(aZ:Int),i<=X0.size/\z=.int .i64 (i:Int)/\y=.int .i64 aZ/\ -1<=aZ/\aZ<=3/\QQ (oD X0 (X0.size+1) gK (-1) 0=oD X0 (X0.size+1-i) f aZ i)/\RB w1 wr rb gs f c 0/\Bl w1 wr) (λ _ z _=>X0.size-(QP z).toNat)
    case atStart=>exact⟨0,gK, -1,by omega,rfl,rfl,by omega,by omega,rfl,eT.o,eS.o⟩
    case round=>
     obtain⟨i,f,aZ,hi,rfl,rfl,O8,P0,HG,X,V⟩:=hrel;have hK:=fV X;have aO:=fV V;have y0:wr.cell? ⟨Q,0,none⟩=some (.string X0):=(V.cell (p:=⟨Q,0,none⟩) A2).trans x0;clear eT eS;by_cases bN:i<X0.size
     ·have W4:(X0[i]'bN).toNat=bt X0 i:=kL X0 i bN;have sR:=mT X0 i;have W7:(0:Int)<=(i:Int)/\(i:Int)<(X0.size:Int):=by omega
      have eM:=N4 (bt X0 i);obtain⟨m,hm⟩:∃m,X0.size+1-i=m+1:=⟨X0.size-i,by omega⟩
      have hG:QQ (X0.size+1-(i+1)=m):=by unfold QQ;omega
      rw[hm]at HG;clear hm X V;have hM:=fV (λ W=>C7 (bt X0 i) W sR);by_cases eN:jS (bt X0 i)<=aZ
      ·have Y:QQ (oF s=none):=by
        unfold QQ;rw[aT.o];unfold zF;rw[aA k0,HG.o,yZ bN eN]
       have O0:decide (jS (bt X0 i)<=aZ)=true:=by simp;exact eN
       generalize jS (bt X0 i)=nn at*;generalize bt X0 i=b at*;clear HG hG;go_wp2_with fail;refine(hM.o _).mono ?_;rintro e w5 ⟨rfl,q,Z⟩;have hB:QQ (Bl w w5):=by
        have U:=F.o.trans (aO.o.mono F.o.size);unfold QQ;rw[Z];exact⟨U.os,U.tape,U.output,U.size,U.block⟩
       clear Z;go_wp2;go_ret;rw[Y.o];exact T1.bad (FK.of_below hB.o O)
      ·obtain⟨k,hk⟩:∃k:Nat,jS (bt X0 i)=(k:Int):=⟨(jS (bt X0 i)).toNat,by omega⟩
       have B1:k<4:=by omega
       have W8:(0:Int)<=(k:Int)/\(k:Int)<4:=by omega
       have O0:decide ((k:Int)<=aZ)=false:=by simp;omega
       have H1:QQ (oD X0 (X0.size+1) gK (-1) 0=oD X0 (X0.size+1-(i+1)) (λ j=>if j=k then true else f j) (k:Int) (i+1)):=by
        unfold QQ;rw[HG.o,A5 bN eN,hG.o,hk];congr 1
        funext j
        by_cases e:j=k
        ·rw[aB e,aB (by omega)]
        ·rw[aA e,aA (by omega)]
       rw[hk]at hM;clear HG hG hk eN eM;generalize bt X0 i=b at*;go_wp2_with fail;refine(hM.o _).mono ?_;rintro e w5 ⟨rfl,q,Z⟩;have aW:QQ (RB w1 w5 rb gs f c 0):=by unfold QQ;rw[Z];exact hK.o.draw _
       have hB:QQ (Bl w1 w5):=by
        have U:=aO.o;unfold QQ;rw[Z];exact⟨U.os,U.tape,U.output,U.size,U.block⟩
       have r0:=aW.o.c0;have r1:=aW.o.ba.c k B1;have r2:=aW.o.ba.f k;clear Z;go_wp2;go_roundw
       case rel=>exact⟨i+1,_,(k:Int),bN,by go_num,rfl,by omega,by omega,H1,aW.o.set k B1,hB.o.setCell (p:=⟨gs,k,none⟩) aW.o.b3 _⟩
       case measure=>simp[QP];omega
     ·have hC:QQ (oD X0 (X0.size+1) gK (-1) 0=some (f,aZ)):=by
       unfold QQ;rw[HG.o,show X0.size+1-i=0+1 by omega];exact zZ (by omega)
      have dl:decide ((i:Int)<(X0.size:Int))=false:=by simp;omega
      have hX:=fV (HF.o.below (F.o.trans (aO.o.mono F.o.size)));have iN:=fV (FK.of_below (F.o.trans (aO.o.mono F.o.size)) O);have Go:=aO.o.size;have S2:=F.o.size;have C:QQ (O rb=0/\O gs=0/\O Q=0):=⟨HF.o.fr rb (by have:=X.b1;omega),HF.o.fr gs (by have:=X.b3;omega),HF.o.fr Q (by omega)⟩
      have y1:wr.cell? ⟨Q,1,none⟩=some (.string X1):=(V.cell (p:=⟨Q,1,none⟩) A2).trans x1;have qL:=fV y1;have A3:Q<wr.heap.size:=by omega
      clear X V HG x0 x1 y1;go_wp2_with fail;refine(Ai hX.o aZ ⟨O8,P0⟩).mono ?_;rintro e w6 ⟨rfl,A0,bK⟩;have hT:=fV A0;have hY:=fV (iN.o.trans bK);have hH:=fV (hK.o.keepK bK C.o.1 C.o.2.1);have u1:=hH.o.c1;have rL:QQ (w6.cell? ⟨Q,1,none⟩=some (.string X1)):=(LK (w:=wr) (a:=⟨Q,1,none⟩) (bK.block Q A3 (by rw[C.o.2.2];omega) (by rw[C.o.2.2];omega) (by rw[C.o.2.2];omega))).trans qL.o;have O6:Q<w6.heap.size:=MI A3 bK.size;clear A0 bK y0 hX iN hK qL;go_wp2_with fail;refine(C7 c _ tL).mono ?_;rintro e w7 ⟨rfl,q7,aL⟩;have hU:QQ (FN fb w7 O L vN (.slice aR nR qR) rc nR pl (pS cn aZ)):=by unfold QQ;rw[aL];exact hT.o.draw _
      have hD:QQ (FK w O w7 O):=by
       have U:=hY.o;unfold QQ;rw[aL];exact⟨U.os,U.tape,U.output,U.size,U.block,U.own⟩
      have hI:QQ (RB w1 w7 rb gs f c 0):=by unfold QQ;rw[aL];exact hH.o.draw _
      have rO:QQ (w7.cell? ⟨Q,1,none⟩=some (.string X1)):=by unfold QQ;rw[aL];exact rL.o
      have hQ:Q<w7.heap.size:=by rw[aL];exact O6
      have v1:=hI.o.c1;clear aL u1 hT hY hH rL;have eM:=N4 c;by_cases kb:jS c<0/\c≠46/\c≠45
      ·have Y:QQ (oF s=none):=by
        unfold QQ;rw[aT.o];unfold zF;rw[aA k0,hC.o,hS.o];simp only;rw[aB kb]
       have t0:decide (jS c<0)=true:=by simp;omega
       have t1:((c:Int) !=46)=true:=by rw[aD];omega
       have t2:((c:Int) !=45)=true:=by rw[aD];omega
       clear kb;generalize jS c=tt at*;go_wp2;go_ret;rw[Y.o];exact T1.bad hD.o
      ·have hF:QQ (oF s=match qQ X1 (kO X1 (X1.size+1)) 0 with
        | none=>none
        | some (r,a)=>if a=X1.size then some (f,aZ,c,r)else none):=by
        unfold QQ;rw[aT.o];unfold zF;rw[aA k0,hC.o,hS.o];simp only;rw[aA kb]
       have O3:X1.size<=200:=by omega
       have HX:QQ (∀W,FN fb W O L vN (.slice aR nR qR) rc nR pl (pS (pS cn aZ) (jS c))->QV MH 76 #[.pointer (some ⟨fb,0,none⟩),.string X1,.int .i64 0] W (uG 0 fb W O L (.slice aR nR qR) rc nR pl (pS (pS cn aZ) (jS c)) 0 (qQ X1 (kO X1 (X1.size+1)) 0))):=λ W hW=>Xm O3 (X1.size+1) fb W O L vN (.slice aR nR qR) rc nR pl _ 0 hW H6.o (by omega) (by omega) (by omega)
       have L1:=fV (λ r a=>Un (xH X1 (X1.size+1)) 0 r a);generalize qQ X1 (kO X1 (X1.size+1)) 0=A at*;obtain⟨tt,eO⟩:=xE (jS c)
       have gL:=eM;rw[eO]at gL HX kb;have N0:=fV eO;have bC:(0<=tt)\/(tt<0/\c=46)\/(tt<0/\c≠46/\c=45):=by omega
       rw[eO];clear eO eM kb hC aT;have O5:(decide (tt<0)=false)\/(decide (tt<0)=true/\((c:Int) !=46)=false)\/(decide (tt<0)=true/\((c:Int) !=46)=true/\((c:Int) !=45)=false):=by
        rcases bC with e|⟨e1,e2⟩|⟨e1,e2,e3⟩
        ·exact .inl (by simp;omega)
        ·exact .inr (.inl ⟨by simp;omega,by rw[e2];rfl⟩)
        ·exact .inr (.inr ⟨by simp;omega,by rw[aD];omega,by rw[e3];rfl⟩)
       clear bC;rcases O5 with t0|⟨t0,t1⟩|⟨t0,t1,t2⟩
       all_goals
        go_wp2_with fail;refine(Ai hU.o tt gL).mono ?_;rintro e w8 ⟨rfl,A1,bM⟩;have hV:=fV A1;have hE:=fV (hD.o.trans bM);have eL:=fV (hI.o.keepK bM C.o.1 C.o.2.1);have y8:w8.cell? ⟨Q,1,none⟩=some (.string X1):=(LK (w:=w7) (a:=⟨Q,1,none⟩) (bM.block Q hQ (by rw[C.o.2.2];omega) (by rw[C.o.2.2];omega) (by rw[C.o.2.2];omega))).trans rO.o;have O7:Q<w8.heap.size:=MI hQ bM.size;clear A1 bM v1 hU hD hI rO hQ;go_wp2_with fail;refine(HX.o _ (hV.o.below ⟨rfl,rfl,rfl,lR,λ _ _=>rfl⟩)).mono ?_;have T2:=fV y8
        cases A with
        | none=>
         have Y:=fV hF.o;rintro e w9 ⟨a,b,O9,rfl,J⟩;have cN:=fV (hE.o.trans J);clear J y8;go_wp2;go_ret;rw[Y.o];exact T1.bad cN.o
        | some q=>
         obtain⟨r,a⟩:=q;rintro e w9 ⟨n,M,Ha,O9,rfl,hP,J,bT,bO,W2⟩;have X4:=L1.o r a rfl;have cN:=fV (hE.o.trans J);have y9:w9.cell? ⟨Q,1,none⟩=some (.string X1):=(LK (w:=w8) (a:=⟨Q,1,none⟩) (J.block Q O7 (by rw[C.o.2.2];omega) (by rw[C.o.2.2];omega) (by rw[C.o.2.2];omega))).trans T2.o;by_cases ha:a=X1.size
         ·have Y:QQ (oF s=some (f,aZ,c,r)):=by unfold QQ;rw[hF.o];simp only;rw[aB ha]
          have dn:((a:Int) !=(X1.size:Int))=false:=by rw[ha];simp
          have hJ:=fV (eL.o.keepK J C.o.1 C.o.2.1);have I:=fV (hJ.o.top hP cN.o S2 ((J.own rb eL.o.b2).trans C.o.1) ((J.own gs eL.o.b4).trans C.o.2.1) n);have q2:=hJ.o.c2;have S5:=hJ.o.fz 2;have M2:=fV bT;have H5:=fV bO;clear hP J bT bO ha y8 hV hE eL;go_upto_region 23 with fail;clear q2 S5 y9;generalize w9.setCell ⟨rb,2,none⟩ (.int .i64 (n:Int))=W at*;have c1:=I.o.1.c1;have f1:=I.o.1.fz 1;have r0:=I.o.2.2.1.c0;have r1:=I.o.2.2.1.c1;have r2:=I.o.2.2.1.c2;have W3:fb<W.heap.size:=I.o.1.wt.2;have nL:=fV I.o.1.rr;have lH:QQ (∀k,(OD aR nR qR).ownBlock=some k->fb+1<=k):=λ k hk=>(nL.o.lt k hk).1
          go_region_law ((refine sF W.drew rfl (.tmp 107) (.tmp 109) 63 rfl (fb+1) 82 (.agg #[.slice none 0 0,.int .u8 0,.int .i64 0]) 3 40 underlying63 eQ rfl (by decide) (by decide) (.slice aR nR qR) nR rc [.slice (some ⟨gs,0,none⟩) 4 4,.int .u8 (c:Int),.int .i64 (n:Int)] _ rfl nL.o W.heap.size rfl rfl rfl (by simp[NN]) (by omega) (by show fb+1<=W.heap.size;omega) ?_;intro g4 cap4 w4 bS D eX W0;have m3:=((gH D (k:=fb) (by show fb<W.heap.size;omega) (λ e=>by have:=lH.o fb e.symm;omega)).1 1).trans c1;have n3:=((gH D (k:=fb) (by show fb<W.heap.size;omega) (λ e=>by have:=lH.o fb e.symm;omega)).2 1).trans f1;have H4:=fV bS;have H2:=fV D;have E6:=fV eX;clear bS D eX))
          all_goals
           obtain⟨tT,hR⟩:=(I.o.1.draw 1).rule (xs:=RV.cells ⟨f,c,n,gs⟩) rfl rfl H4.o H2.o E6.o;have HD:QQ (FK W (λ k=>if k=gs then 4 else O9 k) (W.drewN 1) (λ k=>if k=gs then 4 else O9 k)):=FK.of_below (w:=W) (w':=W.drewN 1) ⟨rfl,rfl,rfl,lR,λ _ _=>rfl⟩ _;have H0:=fV tT;have H3:=fV (I.o.2.1.trans (HD.o.trans hR));have N1:=fV (I.o.2.2.2.keep (HD.o.trans hR));clear tT hR c1 f1 r0 r1 r2 m3 n3;generalize w4.setCell ⟨fb,1,none⟩ (.slice (some ⟨g4,0,none⟩) (nR+1) cap4)=W5 at*;go_wp2;go_ret;rw[Y.o];exact T1.good (by rw[N0.o];exact H0.o) H3.o N1.o M2.o H5.o (by omega)
         ·have Y:QQ (oF s=none):=by unfold QQ;rw[hF.o];simp only;rw[aA ha]
          have dn:((a:Int) !=(X1.size:Int))=true:=by rw[aD];omega
          clear hP J bT bO ha y8;go_wp2;go_ret;rw[Y.o];exact T1.bad cN.o
 ·have Y:QQ (oF s=none):=by
   unfold QQ;rw[cP.o];split
   ·exact absurd rfl h3
   ·rfl
  have d1:((l.length:Int) !=3)=true:=by rw[aD];omega
  clear cP;go_wp2;go_ret;rw[Y.o];exact T1.bad (FK.of_below F.o O)
end
abbrev mR:=(Nat->Bool)×Int×Nat×Rx
def B9(s:tB):List (Nat×Nat)->Option (List mR)
 | []=>some []
 | p::ps=>match oF (s.extract p.1 p.2)with
  | none=>none
  | some x=>match B9 s ps with
   | none=>none
   | some l=>some (x::l)
theorem Ly{s:tB}:∀{ps:List (Nat×Nat)}{l:List mR}{p:Nat×Nat}{x:mR},B9 s ps=some l->oF (s.extract p.1 p.2)=some x->B9 s (ps++[p])=some (l++[x])
 | [],l,p,x,h,hx=>by
  injection h with h;subst h;show B9 s [p]=_;unfold B9;rw[hx]
  rfl
 | q::ps,l,p,x,h,hx=>by
  unfold B9 at h;show B9 s (q::(ps++[p]))=_;unfold B9
  cases e:oF (s.extract q.1 q.2)with
  | none=>rw[e]at h;cases h
  | some y=>
   rw[e]at h;simp only at h⊢
   cases e2:B9 s ps with
   | none=>rw[e2]at h;cases h
   | some l2=>
    rw[e2]at h;rw[Ly e2 hx];injection h with h;subst h
    rfl
theorem Tp{s:tB}:∀{ps:List (Nat×Nat)}{p:Nat×Nat},p∈ps->oF (s.extract p.1 p.2)=none->B9 s ps=none
 | q::ps,p,hm,hx=>by
  unfold B9;rcases MG.1 hm with e|e
  ·rw[<-e,hx]
  ·cases oF (s.extract q.1 q.2)with
   | none=>rfl
   | some y=>simp only;rw[Tp e hx]
def Ab:List mR->Nat
 | []=>0
 | x::l=>x.2.2.2.np+Ab l
theorem Db:∀(l:List mR)(x:mR),Ab (l++[x])=Ab l+x.2.2.2.np
 | [],x=>by simp[Ab]
 | y::l,x=>by show y.2.2.2.np+Ab (l++[x])=_;rw[Db l x];show _=y.2.2.2.np+Ab l+x.2.2.2.np;omega
def CY(l:List mR):Nat:=l.foldl (λ c x=>pS (pS c x.2.1) (jS x.2.2.1)) 0
theorem i9(l:List mR)(x:mR):CY (l++[x])=pS (pS (CY l) x.2.1) (jS x.2.2.1):=by unfold CY;rw[NT];rfl
def Sx(w:tW)(O:Nat->Nat)(N:List RN)(R:List RV)(ls:List mR):Prop:=
 R.length=ls.length/\∀(j:Nat)(x:RV)(y:mR),R[j]?=some x->ls[j]?=some y->Kc w O x/\x.f=y.1/\x.c=y.2.2.1/\Stn.Sem N x.n y.2.2.2
theorem Sx.nil(w:tW)(O:Nat->Nat)(N:List RN):Sx w O N [] []:=⟨rfl,λ j x y h=>by simp at h⟩
theorem Sx.snoc{w w':tW}{O O':Nat->Nat}{N:List RN}{M:List RN}{R:List RV}{ls:List mR}(h:Sx w O N R ls)(X:gI N)(Z:FK w O w' O'){x:RV}{y:mR}(hx:Kc w' O' x)(Q:x.f=y.1)(U:x.c=y.2.2.1)(V:Stn.Sem (N++M) x.n y.2.2.2):Sx w' O' (N++M) (R++[x]) (ls++[y]):=by
 have F:=h.1;refine⟨by simp[F],λ j a b o C=>?_⟩;by_cases Y:j<R.length
 ·rw[LP Y]at o;rw[LP (by omega)]at C;obtain⟨k1,k2,k3,k4⟩:=h.2 j a b o C;exact⟨k1.keep Z,k2,k3,k4.more X M⟩
 ·have D:=(LO.1 o).1;rw[LF,LU]at D;have e:j=R.length:=by omega
  subst e;rw[LY lR,MY]at o;rw[F,LY lR,MY]at C;have I:=sJ o
  have J:=sJ C
  subst I J;exact⟨hx,Q,U,V⟩
theorem FN.start(w:tW):FN w.heap.size (w.alloc (.cells #[.slice none 0 0,.slice none 0 0,.int .i64 0,.int .i64 0] 65)) (λ k=>if k=w.heap.size then 1 else 0) [] (.slice none 0 0) (.slice none 0 0) [] 0 0 0:=by
 have I:(w.alloc (.cells #[.slice none 0 0,.slice none 0 0,.int .i64 0,.int .i64 0] 65)).heap.size=w.heap.size+1:=by simp
 have o:∀i,(w.alloc (.cells #[.slice none 0 0,.slice none 0 0,.int .i64 0,.int .i64 0] 65)).cell? ⟨w.heap.size,i,none⟩=(#[.slice none 0 0,.slice none 0 0,.int .i64 0,.int .i64 0]:Array tV)[i]? :=λ i=>MS _ _ _ i rfl
 exact⟨o 0,o 1,o 2,o 3,λ i=>NO _ _ _ i rfl,⟨aB rfl,by omega⟩,NB _ _ _ 3,NB _ _ _ 3,λ k e=>(by cases e),λ k e=>(by cases e),λ t C=>absurd C LM,λ n x D=>by simp[jB]at D,λ k F=>aA (by omega)⟩
def vG(s:tB):Option (List mR)×Nat:=
 if 120<s.size then(none,1)else
 if 8<(lU s 10).length then(none,2)else
 match B9 s (lU s 10)with
 | none=>(none,2)
 | some l=>if 10<Ab l then(none,3)else(some l,0)
def sK(s:tB)(w:tW)(e:Ending)(w':tW):Prop:=
 Bl w w'/\match vG s with
  | (none,c)=>e=.returned (.tuple #[.pointer none,.int .i64 (c:Int)])
  | (some l,_)=>∃(fb:Nat)(O:Nat->Nat)(L:List NV)(vN vR:tV)(R:List RV),e=.returned (.tuple #[.pointer (some ⟨fb,0,none⟩),.int .i64 0])/\w.heap.size<=fb/\FN fb w' O L vN vR (BT R) R.length (Ab l) (CY l)/\En L (Ab l)/\Sx w' O (jB L) R l/\L.length<=3000
theorem sK.bad{s:tB}{w w':tW}(o:Bl w w')(h:vG s=(none,c)):sK s w (.returned (.tuple #[.pointer none,.int .i64 (c:Int)])) w':=by
 unfold sK;rw[h];exact⟨o,rfl⟩
theorem sK.good{s:tB}{w w':tW}{l:List mR}{O:Nat->Nat}{L:List NV}{vN vR:tV}{R:List RV}(C:Bl w w')(h:vG s=(some l,0))(o:w.heap.size<=fb)(hn:nR=R.length)(D:FN fb w' O L vN vR (BT R) nR (Ab l) (CY l))(I:En L (Ab l))(J:Sx w' O (jB L) R l)(F:L.length<=3000):
  sK s w (.returned (.tuple #[.pointer (some ⟨fb,0,none⟩),.int .i64 0])) w':=by
 unfold sK;rw[h];exact⟨C,fb,O,L,vN,vR,R,rfl,o,by rw[<-hn];exact D,I,J,F⟩
theorem Rh{s:tB}(o:¬120<s.size)(C:¬8<(lU s 10).length):vG s=match B9 s (lU s 10)with
  | none=>(none,2)
  | some l=>if 10<Ab l then(none,3)else(some l,0):=by
 unfold vG;rw[aA o,aA C]
 all_goals rfl
theorem Tq{s:tB}:∀{ps:List (Nat×Nat)}{l:List mR},B9 s ps=some l->l.length=ps.length
 | [],l,h=>by injection h with h;rw[<-h];rfl
 | q::ps,l,h=>by
  unfold B9 at h
  cases e:oF (s.extract q.1 q.2)with
  | none=>rw[e]at h;cases h
  | some y=>
   rw[e]at h;simp only at h
   cases e2:B9 s ps with
   | none=>rw[e2]at h;cases h
   | some l2=>
    rw[e2]at h;injection h with h;rw[<-h,MD,MD,Tq e2]
theorem Xo(s:tB)(w:tW):QV MH 20 #[.string s] w (sK s w):=by
 by_cases C:120<s.size
 ·have Z:QQ (vG s=(none,1)):=by unfold QQ vG;rw[aB C]
  have d1:decide ((120:Int)<(s.size:Int))=true:=by simp;omega
  clear C;go_enter func20,ntmps20;go_wp2;go_ret2;exact sK.bad bR Z.o
 ·have eM:=fV (λ W=>Dv s 10 W (by omega));have bT:=fV (λ h2=> @Rh s C h2);have H2:QQ (8<(lU s 10).length->vG s=(none,2)):=λ h=>by unfold vG;rw[aA C,aB h]
  have d1:decide ((120:Int)<(s.size:Int))=false:=by simp;omega
  go_enter func20,ntmps20;go_upto_region 4 with fail;refine(eM.o _).mono ?_;rintro e w1 ⟨F,hX,rfl,aT,iN,hP,eO⟩;have aW:=fV aT;have bO:=fV eO;have hS:=aT.size;clear aT eO eM;generalize lU s 10=l at*;by_cases h8:8<l.length
  ·have Z:=fV (H2.o h8);have d2:decide ((8:Int)<(l.length:Int))=true:=by simp;omega
   clear h8;go_wp2;go_ret2;exact sK.bad aW.o Z.o
  ·have Z:=fV (bT.o h8);have d2:decide ((8:Int)<(l.length:Int))=false:=by simp;omega
   have aR:=fV (FN.start w1);have bC:QQ (Bl w (w1.alloc (.cells #[.slice none 0 0,.slice none 0 0,.int .i64 0,.int .i64 0] 65))):=aW.o.alloc hS _;have bN:QQ (∀j a b,l[j]?=some (a,b)->(w1.alloc (.cells #[.slice none 0 0,.slice none 0 0,.int .i64 0,.int .i64 0] 65)).cell? ⟨F,j,none⟩=some (.string (s.extract a b))):=λ j a b hj=>(LK (w:=w1) (a:=⟨F,j,none⟩) (MC w1 _ F hP)).trans (bO.o j a b hj)
   have hT:w1.heap.size<(w1.alloc (.cells #[.slice none 0 0,.slice none 0 0,.int .i64 0,.int .i64 0] 65)).heap.size:=by simp
   clear bO bT H2;go_wp2;generalize w1.alloc (.cells #[.slice none 0 0,.slice none 0 0,.int .i64 0,.int .i64 0] 65)=W at*;obtain⟨fb,eS⟩:∃fb,fb=w1.heap.size:=⟨_,rfl⟩
   rw[<-eS]at aR hT ⊢;have lH:F<fb:=by omega
   have hR:w.heap.size<=fb:=by omega
   clear eS;have bM:QQ (∀wr O1,FK W (λ k=>if k=fb then 1 else 0) wr O1->Bl w wr):=λ wr O1 hk=>by
    have hb:=bC.o;have hz:=hb.size;refine⟨hk.os.trans hb.os,hk.tape.trans hb.tape,hk.output.trans hb.output,NW hb.size hk.size,λ k hQ=>?_⟩;have e:(if k=fb then 1 else 0)=0:=aA (by omega);exact(hk.block k (by omega) (by show(if k=fb then 1 else 0)≠1;rw[e];decide) (by show(if k=fb then 1 else 0)≠2;rw[e];decide) (by show(if k=fb then 1 else 0)≠3;rw[e];decide)).trans (hb.block k hQ)
   have hG:QQ (∀wr O1,FK W (λ k=>if k=fb then 1 else 0) wr O1->∀j a b,l[j]?=some (a,b)->wr.cell? ⟨F,j,none⟩=some (.string (s.extract a b))):=λ wr O1 hk j a b hj=>by
    have e:(if F=fb then 1 else 0)=0:=aA (by omega);exact(LK (w:=W) (a:=⟨F,j,none⟩) (hk.block F (by omega) (by show(if F=fb then 1 else 0)≠1;rw[e];decide) (by show(if F=fb then 1 else 0)≠2;rw[e];decide) (by show(if F=fb then 1 else 0)≠3;rw[e];decide))).trans (bN.o j a b hj)
   clear bN bC
   go_loopw [6] (λ z wr=>∃(i:Nat)(ls:List mR)(L:List NV)(vN vR:tV)(R:List RV)(O1:Nat->Nat),i<=l.length/\z=.int .i64 (i:Int)/\QQ (B9 s (l.take i)=some ls)/\FN fb wr O1 L vN vR (BT R) i (Ab ls) (CY ls)/\En L (Ab ls)/\Sx wr O1 (jB L) R ls/\L.length<=360*i/\FK W (λ k=>if k=fb then 1 else 0) wr O1) (λ z _=>l.length-(QP z).toNat)
   case atStart=>exact⟨0,[],[],_,_,[],_,by omega,rfl,rfl,aR.o,⟨λ n x hx=>by simp[jB]at hx,rfl⟩,Sx.nil _ _ _,by simp,FK.refl _ _⟩
   case round=>
    obtain⟨i,ls,L,vN,vR,R,O1,hi,rfl,cF,eX,hB,hC,hY,eT⟩:=hrel;have D:=fV eX;have cN:=fV hB;have aO:=fV hC;have J:=fV eT;clear eX hB hC eT aR;by_cases gL:i<l.length
    ·obtain⟨p,hp⟩:∃p,l[i]?=some p:=⟨l[i],LD gL⟩
     obtain⟨Y,pb⟩:=p;have y0:=hG.o wr O1 J.o i Y pb hp;have nL:(0:Int)<=(i:Int)/\(i:Int)<(l.length:Int):=by omega
     have qL:=S0 s Y pb;have cP:=fV (λ(W':tW)(hW:FN fb W' O1 L vN vR (BT R) i (Ab ls) (CY ls))=>Xq (s:=s.extract Y pb) (by omega) hW cN.o (by omega) (by omega));have V:QQ ((Y,pb)∈l):=MA hp;have eN:QQ (l.take (i+1)=l.take i++[(Y,pb)]):=by unfold QQ;rw[OG,hp];rfl
     have U:QQ (oF (s.extract Y pb)=none->vG s=(none,2)):=λ e=>by rw[Z.o,Tp V.o e]
     have eL:QQ (∀x,oF (s.extract Y pb)=some x->B9 s (l.take (i+1))=some (ls++[x])):=λ x e=>by rw[eN.o];exact Ly cF.o e
     clear hp eN V;generalize s.extract Y pb=X at*;generalize oF X=A at*
     cases A with
     | none=>
      have hH:=fV (U.o rfl);go_wp2_with fail;refine(cP.o _ (D.o.below ⟨rfl,rfl,rfl,lR,λ _ _=>rfl⟩)).mono ?_;rintro e w5 ⟨O5,rfl,I⟩;have hF:=fV (bM.o _ _ (J.o.trans I));clear I;go_wp2;go_ret2;exact sK.bad hF.o hH.o
     | some x=>
      obtain⟨f,aZ,c,r⟩:=x;have hL:=fV (eL.o _ rfl);clear eL U;go_wp2_with fail;refine(cP.o _ (D.o.below ⟨rfl,rfl,rfl,lR,λ _ _=>rfl⟩)).mono ?_;rintro e w5 ⟨n,g,M,hU,hV,O5,rfl,eR,I,hE,hD,hA,nN⟩;have hI:=fV eR;have bS:=fV I;have hN:=fV hE;have hM:=fV hD;have hK:=fV hA;clear eR I hE hD hA;go_wp2;go_roundw
      case rel=>
       refine⟨i+1,ls++[(f,aZ,c,r)],L++M,hU,hV,R++[⟨f,c,n,g⟩],O5,gL,by go_num,hL,?_,?_,?_,by rw[LF];omega,J.o.trans bS.o⟩
       ·rw[GC,Db,i9];exact hI.o
       ·rw[Db];exact hK.o
       ·rw[Q8];exact aO.o.snoc D.o.cl bS.o hN.o rfl rfl (by rw[<-Q8];exact hM.o)
      case measure=>simp[QP];omega
    ·have HT:QQ (B9 s l=some ls):=by have:=cF.o;rw[show i=l.length by omega,OY]at this;exact this
     have dl:decide ((i:Int)<(l.length:Int))=false:=by simp;omega
     have c2:=D.o.c2;have hJ:QQ (i=R.length):=by
      have:=aO.o.1;rw[Tq HT.o]at this;unfold QQ;omega
     have bK:=fV (bM.o _ _ J.o);by_cases Q:10<Ab ls
     ·have aL:QQ (vG s=(none,3)):=by unfold QQ;rw[Z.o,HT.o];simp only;rw[aB Q]
      have d3:decide ((10:Int)<(Ab ls:Int))=true:=by simp;omega
      clear Q;go_wp2;go_ret2;exact sK.bad bK.o aL.o
     ·have aL:QQ (vG s=(some ls,0)):=by unfold QQ;rw[Z.o,HT.o];simp only;rw[aA Q]
      have d3:decide ((10:Int)<(Ab ls:Int))=false:=by simp;omega
      clear Q;go_wp2;go_ret2;exact sK.good bK.o aL.o hR hJ.o D.o cN.o aO.o (by omega)
def IL(w:tW)(v:tV)(ns:List Nat):Prop:=
 ∃a aJ,v=.slice a ns.length aJ/\ns.length<=aJ/\(ns=[]\/∃g o,a=some ⟨g,o,none⟩/\g<w.heap.size/\∀(i m:Nat),ns[i]?=some m->w.cell? ⟨g,o+i,none⟩=some (.int .i64 (m:Int)))
theorem IL.below{w w':tW}{v:tV}(h:IL w v ns)(D:Below B w w')(U:w.heap.size<=B):IL w' v ns:=by
 obtain⟨a,aJ,e,C,h⟩:=h;have V:=D.size;refine⟨a,aJ,e,C,?_⟩;rcases h with h|⟨g,o,F,Q,I⟩
 ·exact .inl h
 ·exact .inr ⟨g,o,F,by omega,λ i m J=>(D.cell (p:=⟨g,o+i,none⟩) (by show g<B;omega)).trans (I i m J)⟩
def xF(N:List RN)(ns:List Nat):Bool:=ns.all (xG N)
theorem l6{N:List RN}{ns:List Nat}{i m:Nat}(h:ns[i]?=some m)(o:xG N m=false):xF N ns=false:=by
 unfold xF;rw[List.all_eq_false];exact⟨m,MA h,by rw[o];simp⟩
theorem Vr{N:List RN}{ns:List Nat}(h:∀(i m:Nat),ns[i]?=some m->xG N m=true):xF N ns=true:=by
 unfold xF;rw[MQ];intro m o;obtain⟨i,hi⟩:=List.getElem?_of_mem o;exact h i m hi
theorem Xl{L:List NV}(hs:qX (jB L))(hc:gI (jB L))(hL:L.length<=100000){w:tW}(h:FR fb w L gN aJ){v:tV}{ns:List Nat}(Y:IL w v ns)(hn:∀m,m∈ns->m<L.length)(hl:ns.length<=1000000):
  QV MH 85 #[.pointer (some ⟨fb,0,none⟩),v] w λ e w'=>e=.returned (.bool (xF (jB L) ns))/\Bl w w':=by
 obtain⟨a,vc,rfl,_,Y⟩:=Y;have HV:=fV Y;have HF:=fV h;have HN:=fV hn;have HE:=fV (λ m (F:m<L.length) W=>L0 (fb:=fb) (gN:=gN) (aJ:=aJ) hs hc hL m F W);have aO:=fV (λ i m=> @l6 (jB L) ns i m);have Q:=fV (@Vr (jB L) ns);obtain⟨n,en⟩:=xE (ns.length)
 rw[en]at hl ⊢;have J:=fV en;clear h Y hn en;go_enter func85,ntmps85;go_wp2
 go_loopw [5] (λ z wr=>∃(i:Nat),i<=n/\z=.int .i64 (i:Int)/\QQ (∀(j m:Nat),j<i->ns[j]?=some m->xG (jB L) m=true)/\Bl w wr) (λ z _=>n-(QP z).toNat)
 case atStart=>exact⟨0,by omega,rfl,fV (λ j m hj=>absurd hj (by omega)),bR⟩
 case round=>
  obtain⟨i,hi,rfl,HA,D⟩:=hrel;have HB:=fV D;by_cases V:i<n
  ·obtain⟨m,F⟩:∃m,ns[i]?=some m:=⟨ns[i]'(by rw[J.o];exact V),LD _⟩
   obtain⟨g,o,rfl,hg,C⟩:=HV.o.resolve_left (λ e=>by rw[e]at F;simp at F);have y0:wr.cell? ⟨g,o+i,none⟩=some (.int .i64 (m:Int)):=(D.cell (p:=⟨g,o+i,none⟩) hg).trans (C i m F);have aR:=HN.o m (MA F);have aW:=iI i n (by omega)
   have aL:=fV (HF.o.below D lR);have HM:=fV F;have aT:=fV C;clear D C F;go_wp2_with fail;refine(HE.o m aR _ (aL.o.below ⟨rfl,rfl,rfl,lR,λ _ _=>rfl⟩ lR)).mono ?_;rintro e w5 ⟨rfl,U⟩;have I:=fV (HB.o.trans (U.mono HB.o.size));clear U
   cases hem:xG (jB L) m with
   | true=>
    have Z:QQ (∀(j x:Nat),j<i+1->ns[j]?=some x->xG (jB L) x=true):=λ j x hj X=>by
     by_cases e:j=i
     ·subst e;rw[HM.o]at X;injection X with X;rw[<-X];exact hem
     ·exact HA.o j x (by omega) X
    clear hem;go_wp2;go_roundw
    case rel=>exact⟨i+1,V,by go_num,Z,I.o⟩
    case measure=>simp[QP];omega
   | false=>
    have HR:=fV (aO.o i m HM.o hem);clear hem;go_wp2;go_ret;exact⟨by rw[HR.o];rfl,I.o⟩
  ·have HR:QQ (xF (jB L) ns=true):=Q.o (λ j m F=>HA.o j m (by have:=(LO.1 F).1;rw[J.o]at this;omega) F);have dl:=dF i n (by omega)
   clear D;go_wp2;go_ret;exact⟨by rw[HR.o];rfl,HB.o⟩
theorem xZ{P:Program}(w:tW)(t ty:TypeId)(aH:Nat)(e:TypeId)(i:TypeInfo)(size:Nat)(D:P.underlying t=some (.slice e))(hi:P.info? e=some i)
  (v:tV) (n:Nat) (xs:List tV) (o:w.ownsRow aH e size v n xs) (a:Option Addr) (c:Nat):(Builtin.append_ #[t,t] ty #[v,.slice a 0 c]).run P w=.ok v w:=by
 cases a with
 | none=>
  rcases o.2 with⟨rfl,rfl⟩|⟨g,aJ,F,rfl,_,_,C,_⟩
  ·simp[Builtin.append_,QU D,sizeOf,typeInfo,hi,Builtin.lenOf,Builtin.firstCells]
  ·simp[Builtin.append_,QU D,sizeOf,typeInfo,hi,Builtin.lenOf,Builtin.firstCells,C,storeCells]
 | some ad=>
  rcases o.2 with⟨rfl,rfl⟩|⟨g,aJ,F,rfl,_,_,C,_⟩
  ·simp[Builtin.append_,QU D,sizeOf,typeInfo,hi,Builtin.lenOf,Builtin.firstCells,loadCells,loadCellsFrom]
  ·simp[Builtin.append_,QU D,sizeOf,typeInfo,hi,Builtin.lenOf,Builtin.firstCells,C,storeCells,loadCells,loadCellsFrom]
theorem oI(g o j:Nat):(⟨g,o,none⟩:Addr).add j=⟨g,o+j,none⟩:=by
 unfold Addr.add;split
 ·rename_i C;rw[C];rfl
 ·rfl
theorem S3(w:tW){ops:Array Oper}{rest:List Oper}{o:Oper}{a:Act}{Q:Exit->Act->tW->Prop}(I:o.guard=none)(s x:Operand)
  (X:o.op=.call {callee:= .builtin .append,args:= #[s,x],argTypes:= #[59,59]})
  (aH:Nat) (v:tV) (ms ns:List Nat) (u:tV) (Z:a.eval s=v) (C:w.ownsRow aH 3 1 v ms.length (kI ms)) (hx:a.eval x=u) (hu:IL w u ns) (hn:ms.length+ns.length<=1000000000) (F:aH<=w.heap.size)
  (h:∀v' w',w'.ownsRow aH 3 1 v' (ms++ns).length (kI (ms++ns))->w.grownBy w' v.ownBlock->wpList MH ops Q rest (a.put o.dst v') w'):wpList MH ops Q (o::rest) a w:=by
 obtain⟨i,hi,hz,J,hb⟩:=QR bY;obtain⟨ad,aJ,rfl,_,hu⟩:=hu;rcases hu with rfl|⟨g,of,rfl,hg,hc⟩
 ·refine wpList_plain I λ K U=>?_
  have Y:=xZ (P:=MH) w 59 o.type aH 3 i 1 NJ hi v ms.length (kI ms) C ad aJ;have V:=h v w (by rw[MB];exact C) ⟨rfl,rfl,rfl,lR,λ _ _ _=>rfl⟩;unfold Oper.wp execOp;simp only[X,resolve,invoke,builtin,Sem.run_bind,Sem.run_pure,Result.andThen_ok,OX,NZ,PF,Z,hx,NQ,Y];exact U _ _ V
 ·by_cases aL:ns.length=0
  ·have e:ns=[]:=MZ.1 aL;subst e;refine wpList_plain I λ K U=>?_
   have Y:=xZ (P:=MH) w 59 o.type aH 3 i 1 NJ hi v ms.length (kI ms) C (some ⟨g,of,none⟩) aJ;have V:=h v w (by rw[MB];exact C) ⟨rfl,rfl,rfl,lR,λ _ _ _=>rfl⟩;unfold Oper.wp execOp;simp only[X,resolve,invoke,builtin,Sem.run_bind,Sem.run_pure,Result.andThen_ok,OX,NZ,PF,Z,hx,NQ,Y];exact U _ _ V
  ·refine wpList_append_lies w I s x 59 X aH 3 i (.int .i64 0) 1 8 NJ hi hz J hb rfl (by decide) v ms.length (kI ms) Z C ⟨g,of,none⟩ ns.length aJ (kI ns) hx (by unfold kI;simp) (λ j y D=>?_) (λ y D=>?_) (by omega) (by unfold maxLen;omega) (by omega) F _ rfl (λ g4 cap4 w4 h1 h2 _ _=>h _ w4 (by unfold kI at*;rw[List.map_append,LF];exact h1) h2)
   ·rw[oI];have hj:j<ns.length:=by have:=(LO.1 D).1;unfold kI at this;rw[NC]at this;exact this
    have hm:=qG (LD hj);rw[hm]at D;injection D with D;rw[<-D];exact hc j _ (LD hj)
   ·unfold kI at D;obtain⟨m,_,rfl⟩:=LZ.1 D
    rfl
theorem X3{w:tW}{v u:tV}(Z:IL w v ns)(Y:IL w u ms)(hn:ns.length+ms.length<=1000000000):
  QV MH 108 #[v,u] w λ e w'=>∃v',e=.returned v'/\Bl w w'/\w'.ownsRow w.heap.size 3 1 v' (ns++ms).length (kI (ns++ms)):=by
 have HV:=fV Z;have HU:=fV Y;clear Z Y;go_enter func108,ntmps108;go_wp2_with (first
  | (at_builtin;refine S3 w rfl (.tmp 6) (.tmp 7) rfl w.heap.size (.slice none 0 0) [] ns v rfl (NB _ _ _ 1) rfl HV.o (by simp;omega) lR ?_;intro v1 w1 J D;have I:=fV J;have C:QQ (Bl w w1):=⟨D.os,D.tape,D.output,D.size,λ k U=>D.block k U (λ e=>by cases e)⟩;clear J D)
  | (at_builtin;refine S3 w1 rfl (.tmp 9) (.tmp 10) rfl w.heap.size v1 ([]++ns) ms u rfl I.o rfl (HU.o.below C.o lR) (by simp;omega) C.o.size ?_;intro v2 w2 Q F;have X:=fV Q;have V:QQ (Bl w w2):=⟨F.os.trans C.o.os,F.tape.trans C.o.tape,F.output.trans C.o.output,NW C.o.size F.size,λ k U=>(F.block k (MI U C.o.size) (λ e=>by have:=(I.o.lt k e.symm).1;omega)).trans (C.o.block k U)⟩;clear Q F))
 go_ret;exact⟨v2,rfl,V.o,X.o⟩
def mF(o:Nat)(ns:List Nat)(rb:Nat)(ms:List Nat):Bool:=decide (o=rb/\ns=ms)
theorem BX(F:ns.length=ms.length)(h:∀(j x y:Nat),ns[j]?=some x->ms[j]?=some y->x=y):ns=ms:=by
 apply OQ;intro j;by_cases D:j<ns.length
 ·have o:=LD D;have C:=LD (show j<ms.length by omega);rw[o,C,h j _ _ o C]
 ·rw[MV (by omega),MV (by omega)]
theorem Xr{w:tW}(D rb:Nat){v u:tV}{ns ms:List Nat}(hv:IL w v ns)(hu:IL w u ms)(hl:ns.length<=1000000/\ms.length<=1000000):
  QV MH 110 #[.agg #[.int .i64 (D:Int),v],.agg #[.int .i64 (rb:Int),u]] w λ e w'=>e=.returned (.bool (mF D ns rb ms))/\Bl w w':=by
 obtain⟨a,ca,rfl,_,hv⟩:=hv;obtain⟨b,cb,rfl,_,hu⟩:=hu;obtain⟨n,en⟩:=xE (ns.length)
 obtain⟨m,em⟩:=xE (ms.length)
 rw[en,em]at hl ⊢;have I:=fV en;have Q:=fV em;have HV:=fV hv;have HU:=fV hu;clear en em hv hu;have C:QQ (Bl w ((w.alloc (.cells #[.int .i64 (D:Int),.slice a n ca] 188)).alloc (.cells #[.int .i64 (rb:Int),.slice b m cb] 188))):=(bR.alloc lR _).alloc (by simp) _;have e1:(w.alloc (.cells #[.int .i64 (D:Int),.slice a n ca] 188)).heap.size=w.heap.size+1:=by simp
 have ho:((w.alloc (.cells #[.int .i64 (D:Int),.slice a n ca] 188)).alloc (.cells #[.int .i64 (rb:Int),.slice b m cb] 188)).heap[w.heap.size]?=(w.alloc (.cells #[.int .i64 (D:Int),.slice a n ca] 188)).heap[w.heap.size]? :=MC (w.alloc _) _ _ (by omega);have a0:((w.alloc (.cells #[.int .i64 (D:Int),.slice a n ca] 188)).alloc (.cells #[.int .i64 (rb:Int),.slice b m cb] 188)).cell? ⟨w.heap.size,0,none⟩=some (.int .i64 (D:Int)):=(LK (a:=⟨w.heap.size,0,none⟩) ho).trans ((MS _ _ _ 0 rfl).trans rfl);have a1:((w.alloc (.cells #[.int .i64 (D:Int),.slice a n ca] 188)).alloc (.cells #[.int .i64 (rb:Int),.slice b m cb] 188)).cell? ⟨w.heap.size,1,none⟩=some (.slice a n ca):=(LK (a:=⟨w.heap.size,1,none⟩) ho).trans ((MS _ _ _ 1 rfl).trans rfl);have b0:((w.alloc (.cells #[.int .i64 (D:Int),.slice a n ca] 188)).alloc (.cells #[.int .i64 (rb:Int),.slice b m cb] 188)).cell? ⟨w.heap.size+1,0,none⟩=some (.int .i64 (rb:Int)):=(MS _ _ _ 0 e1.symm).trans rfl;have b1:((w.alloc (.cells #[.int .i64 (D:Int),.slice a n ca] 188)).alloc (.cells #[.int .i64 (rb:Int),.slice b m cb] 188)).cell? ⟨w.heap.size+1,1,none⟩=some (.slice b m cb):=(MS _ _ _ 1 e1.symm).trans rfl;clear e1 ho;by_cases k1:D=rb/\n=m
 ·obtain⟨Z,h2⟩:=k1;have d1:((D:Int) !=(rb:Int))=false:=by rw[Z];simp
  have d2:((n:Int) !=(m:Int))=false:=by rw[h2];simp
  have aT:=fV Z;have Y:=fV h2;clear Z h2;go_enter func110,ntmps110;go_wp2_with fail;generalize (w.alloc (.cells #[.int .i64 (D:Int),.slice a n ca] 188)).alloc (.cells #[.int .i64 (rb:Int),.slice b m cb] 188)=W at*
  go_loopw [5] (λ z wr=>∃(i q:Nat),i<=n/\z=.int .i64 (i:Int)/\QQ (∀(j x y:Nat),j<i->ns[j]?=some x->ms[j]?=some y->x=y)/\wr=W.drewN q) (λ z _=>n-(QP z).toNat)
  case atStart=>exact⟨0,0,by omega,rfl,fV (λ j x y hj=>absurd hj (by omega)),rfl⟩
  case round=>
   obtain⟨i,q,hi,rfl,HA,rfl⟩:=hrel;by_cases U:i<n
   ·have aO:i<m:=by rw[<-Y.o];exact U
    obtain⟨x,J⟩:∃x,ns[i]?=some x:=⟨ns[i]'(by rw[I.o];exact U),LD _⟩
    obtain⟨y,V⟩:∃y,ms[i]?=some y:=⟨ms[i]'(by rw[Q.o];exact aO),LD _⟩
    obtain⟨g,o,rfl,hg,hc⟩:=HV.o.resolve_left (λ e=>by rw[e]at J;simp at J);obtain⟨g2,o2,rfl,aW,aL⟩:=HU.o.resolve_left (λ e=>by rw[e]at V;simp at V);have y1:W.cell? ⟨g,o+i,none⟩=some (.int .i64 (x:Int)):=(C.o.cell (p:=⟨g,o+i,none⟩) hg).trans (hc i x J);have y2:W.cell? ⟨g2,o2+i,none⟩=some (.int .i64 (y:Int)):=(C.o.cell (p:=⟨g2,o2+i,none⟩) aW).trans (aL i y V);have bC:=iI i n (by omega)
    have bK:=iI i m (by omega)
    have HX:=fV J;have HY:=fV V;clear J V hc aL;by_cases F:x=y
    ·have aR:QQ (∀(j x y:Nat),j<i+1->ns[j]?=some x->ms[j]?=some y->x=y):=λ j p r hj hp hr=>by
      by_cases e:j=i
      ·subst e;rw[HX.o]at hp;rw[HY.o]at hr;injection hp with hp;injection hr with hr;rw[<-hp,<-hr];exact F
      ·exact HA.o j p r (by omega) hp hr
     have dx:((x:Int) !=(y:Int))=false:=by rw[F];simp
     clear F;go_upto_region 6 with fail;go_big_region
     all_goals
      go_wp2;go_roundw
      case rel=>exact⟨i+1,q+1,U,by go_num,aR,rfl⟩
      case measure=>simp[QP];omega
    ·have X:QQ (mF D ns rb ms=false):=by
      unfold QQ mF;rw[aF];rintro⟨_,e⟩;have:=HX.o;rw[e,HY.o]at this;injection this with this;exact F this.symm
     have dx:((x:Int) !=(y:Int))=true:=by rw[aD];omega
     clear F;go_upto_region 6 with fail;go_big_region
     all_goals
      go_wp2;go_ret;exact⟨by rw[X.o];rfl,C.o.os,C.o.tape,C.o.output,C.o.size,C.o.block⟩
   ·have X:QQ (mF D ns rb ms=true):=by
     unfold QQ mF;rw[aE];exact⟨aT.o,BX (by rw[I.o,Q.o];exact Y.o) (λ j x y J V=>HA.o j x y (by have:=(LO.1 J).1;rw[I.o]at this;omega) J V)⟩
    have dl:=dF i n (by omega)
    go_wp2;go_ret;exact⟨by rw[X.o];rfl,C.o.os,C.o.tape,C.o.output,C.o.size,C.o.block⟩
 ·have X:QQ (mF D ns rb ms=false):=by
   unfold QQ mF;rw[aF];rintro⟨Z,h2⟩;exact k1 ⟨Z,by rw[<-I.o,<-Q.o,h2]⟩
  by_cases k2:D=rb
  ·have d1:((D:Int) !=(rb:Int))=false:=by rw[k2];simp
   have d2:((n:Int) !=(m:Int))=true:=by rw[aD];intro e;exact k1 ⟨k2,by omega⟩
   clear k1 k2;go_enter func110,ntmps110;go_wp2;go_ret;exact⟨by rw[X.o];rfl,C.o⟩
  ·have d1:((D:Int) !=(rb:Int))=true:=by rw[aD];omega
   clear k1 k2;go_enter func110,ntmps110;go_wp2;go_ret;exact⟨by rw[X.o];rfl,C.o⟩
def Em(w:tW)(B:Nat)(ob:Option Nat)(v:tV)(ns:List Nat):Prop:=
 ∃a aJ,v=.slice a ns.length aJ/\ns.length<=aJ/\(ns=[]\/∃g o,a=some ⟨g,o,none⟩/\B<=g/\g<w.heap.size/\ob≠some g/\∀(i m:Nat),ns[i]?=some m->w.cell? ⟨g,o+i,none⟩=some (.int .i64 (m:Int)))
theorem Em.il{w:tW}{v:tV}(h:Em w B ob v ns):IL w v ns:=by
 obtain⟨a,aJ,e,C,h⟩:=h;refine⟨a,aJ,e,C,?_⟩;rcases h with h|⟨g,o,D,_,F,_,I⟩
 ·exact .inl h
 ·exact .inr ⟨g,o,D,F,I⟩
theorem Em.nil(w:tW)(B:Nat)(ob:Option Nat):Em w B ob (.slice none 0 0) []:=⟨none,0,rfl,lR,.inl rfl⟩
theorem Em.keep{w w':tW}{C:Option Nat}{v:tV}(h:Em w B ob v ns)(hz:w.heap.size<=w'.heap.size)(Y:∀k,B<=k->k<w.heap.size->ob≠some k->w'.heap[k]?=w.heap[k]? /\C≠some k)(hb:B'<=B):Em w' B' C v ns:=by
 obtain⟨a,aJ,e,D,h⟩:=h;refine⟨a,aJ,e,D,?_⟩;rcases h with h|⟨g,o,Q,J,U,V,X⟩
 ·exact .inl h
 ·obtain⟨F,I⟩:=Y g J U V;exact .inr ⟨g,o,Q,by omega,by omega,I,λ i m Z=>(LK (w:=w) (a:=⟨g,o+i,none⟩) F).trans (X i m Z)⟩
theorem Em.of_row{w:tW}{v:tV}(h:w.ownsRow B 3 1 v ns.length (kI ns))(J:∀k,ob=some k->k<B)(U:B'<=B):Em w B' ob v ns:=by
 obtain⟨a,aJ,e⟩:=gA h;refine⟨a,aJ,e,Ue (by rw[<-e];exact h),?_⟩;rcases iL h with o|⟨g,Q,o⟩
 ·left;rw[e]at o;injection o with _ C _;exact MZ.1 C
 ·right;have D:=h.lt g (by rw[o];rfl);rw[e]at o;injection o with C _ _;refine⟨g,0,C,by omega,D.2,λ F=>by have:=J g F;omega,λ i m I=>?_⟩;have:=h.cells (g:=g) (by rw[e,C];rfl) i _ (qG I);rw[oI]at this;exact this
structure LL(w:tW)(B:Nat)(v:tV)(xs:List (List Nat))(vs:List tV):Prop where
 ro:w.ownsRow B 59 1 v xs.length vs
 el:∀(j:Nat)(u:tV)(x:List Nat),vs[j]?=some u->xs[j]?=some x->Em w B v.ownBlock u x
theorem LL.start(w:tW)(B:Nat):LL w B (.slice none 0 0) [] []:=⟨NB w B _ 1,λ j u x h=>by simp at h⟩
theorem LL.below{w w':tW}{v:tV}{vs:List tV}(h:LL w B v xs vs)(o:Bl w w'):LL w' B v xs vs:=
 ⟨iH h.ro (λ k C=>o.block k (h.ro.lt k C).2),λ j u x F I=>(h.el j u x F I).keep o.size (λ k _ C D=>⟨o.block k C,D⟩) lR⟩
theorem LL.app{w w4:tW}{v u:tV}{vs:List tV}(h:LL w B v xs vs)(hu:Em w B v.ownBlock u x){o:Obj}{g aJ:Nat}
  (I:w4.ownsRow B 59 1 (.slice (some ⟨g,0,none⟩) (xs.length+1) aJ) (xs.length+1) (vs++[u])) (F:(w.alloc o).grownBy w4 v.ownBlock) (Q:v.ownBlock=some g\/g=w.heap.size+1):
  LL w4 B (.slice (some ⟨g,0,none⟩) (xs.length+1) aJ) (xs++[x]) (vs++[u]):=by
 have aL:=F.size;have ez:(w.alloc o).heap.size=w.heap.size+1:=by simp
 have hl:vs.length=xs.length:=by have:=h.ro.1;omega
 have C:∀k,k<w.heap.size->v.ownBlock≠some k->w4.heap[k]?=w.heap[k]? /\(OD (some ⟨g,0,none⟩) (xs.length+1) aJ).ownBlock≠some k:=λ k hk X=>by
  refine⟨(F.block k (by omega) (λ e=>X e.symm)).trans (MC w o k hk),λ e=>?_⟩;have e:g=k:=by simpa[NF]using e
  subst e;rcases Q with V|V
  ·exact X V
  ·omega
 refine⟨by rw[LF,LU];exact I,λ j a b D J=>?_⟩;by_cases hj:j<vs.length
 ·rw[LP hj]at D;rw[LP (by omega)]at J;exact(h.el j a b D J).keep (by omega) (λ k _=>C k) lR
 ·have U:=(LO.1 D).1;rw[LF,LU]at U;have e:j=vs.length:=by omega
  subst e;rw[LY lR,MY]at D;rw[hl,LY lR,MY]at J;have Y:=sJ D
  have Z:=sJ J
  subst Y Z;exact hu.keep (by omega) (λ k _=>C k) lR
def Zc(w:tW)(B:Nat)(v:tV)(xs:List (List Nat)):Prop:=
 ∃a aJ,v=.slice a xs.length aJ/\(xs=[]\/∃g,a=some ⟨g,0,none⟩/\B<=g/\g<w.heap.size/\∀(k:Nat)(x:List Nat),xs[k]?=some x->∃u,w.cell? ⟨g,k,none⟩=some u/\Em w B none u x)
theorem Zc.keep{w w':tW}{v:tV}(h:Zc w B v xs)(X:w.heap.size<=w'.heap.size)(D:∀k,B<=k->k<w.heap.size->w'.heap[k]?=w.heap[k]?)(U:B'<=B):Zc w' B' v xs:=by
 obtain⟨a,aJ,e,h⟩:=h;refine⟨a,aJ,e,?_⟩;rcases h with h|⟨g,o,C,F,I⟩
 ·exact .inl h
 ·refine .inr ⟨g,o,by omega,by omega,λ k x V=>?_⟩;obtain⟨u,J,Q⟩:=I k x V;exact⟨u,(LK (w:=w) (a:=⟨g,k,none⟩) (D g C F)).trans J,Q.keep X (λ k o C _=>⟨D k o C,λ e=>by cases e⟩) U⟩
theorem LL.read{w:tW}{v:tV}{vs:List tV}(h:LL w B v xs vs):Zc w B v xs:=by
 obtain⟨a,aJ,e⟩:=gA h.ro;refine⟨a,aJ,e,?_⟩;have V:vs.length=xs.length:=by have:=h.ro.1;omega
 rcases iL h.ro with o|⟨g,U,o⟩
 ·left;rw[e]at o;injection o with _ D _;exact MZ.1 D
 ·right;have C:=h.ro.lt g (by rw[o];rfl);rw[e]at o;injection o with D _ _;refine⟨g,D,C.1,C.2,λ k x J=>?_⟩;have Q:k<vs.length:=by have:=(LO.1 J).1;omega
  have I:=LD Q;have F:=h.ro.cells (g:=g) (by rw[e,D];rfl) k _ I;rw[oI,MJ]at F;exact⟨_,F,(h.el k _ x I J).keep lR (λ _ _ _ _=>⟨rfl,λ e=>by cases e⟩) lR⟩
structure RI(w w1:tW)(vo1:tV)(wr:tW)(vo:tV)(xs:List (List Nat)):Prop where
 ll:∃vs,LL wr w.heap.size vo xs vs
 gr:w1.grownBy wr vo1.ownBlock
 ow:∀g,vo.ownBlock=some g->vo1.ownBlock=some g\/w1.heap.size<=g
 bl:Bl w wr
theorem RI.start(w:tW):RI w w (.slice none 0 0) w (.slice none 0 0) []:=⟨⟨[],LL.start w _⟩,⟨rfl,rfl,rfl,lR,λ _ _ _=>rfl⟩,λ g e=>(by cases e),bR⟩
theorem RI.from{w w1 wr:tW}{o vo:tV}(h:RI w w1 o wr vo xs):RI w wr vo wr vo xs:=⟨h.ll,⟨rfl,rfl,rfl,lR,λ _ _ _=>rfl⟩,λ _ e=> .inl e,h.bl⟩
theorem RI.below{w w1 wr w':tW}{C vo:tV}(h:RI w w1 C wr vo xs)(o:Bl wr w'):RI w w1 C w' vo xs:=by
 obtain⟨vs,I⟩:=h.ll;have U:=h.gr.size;have J:=h.bl.size;have Q:=o.size;refine⟨⟨vs,I.below o⟩,⟨o.os.trans h.gr.os,o.tape.trans h.gr.tape,o.output.trans h.gr.output,by omega,λ k D F=>(o.block k (by omega)).trans (h.gr.block k D F)⟩,h.ow,⟨o.os.trans h.bl.os,o.tape.trans h.bl.tape,o.output.trans h.bl.output,by omega,λ k D=>(o.block k (by omega)).trans (h.bl.block k D)⟩⟩
theorem RI.app{w w1 wr w4:tW}{Q vo u:tV}(h:RI w w1 Q wr vo xs)(Y:Em wr w.heap.size vo.ownBlock u x)(hn:xs.length=n){vs:List tV}(V:LL wr w.heap.size vo xs vs){o:Obj}{g aJ:Nat}
  (J:w4.ownsRow w.heap.size 59 1 (.slice (some ⟨g,0,none⟩) (n+1) aJ) (n+1) (vs++[u])) (C:(wr.alloc o).grownBy w4 vo.ownBlock) (F:vo.ownBlock=some g\/g=wr.heap.size+1):
  RI w w1 Q w4 (.slice (some ⟨g,0,none⟩) (n+1) aJ) (xs++[x]):=by
 subst hn;have X:=C.size;have ez:(wr.alloc o).heap.size=wr.heap.size+1:=by simp
 have hz:=h.gr.size;have Z:=h.bl.size;refine⟨⟨_,V.app Y J C F⟩,⟨C.os.trans h.gr.os,C.tape.trans h.gr.tape,C.output.trans h.gr.output,by omega,λ k U I=>?_⟩,λ k e=>?_,⟨C.os.trans h.bl.os,C.tape.trans h.bl.tape,C.output.trans h.bl.output,by omega,λ k U=>?_⟩⟩
 ·refine((C.block k (by omega) (λ e=>?_)).trans (MC wr o k (by omega))).trans (h.gr.block k U I);rcases h.ow k e.symm with D|D
  ·exact I D.symm
  ·omega
 ·have e:g=k:=by simpa[NF]using e
  subst e;rcases F with D|D
  ·exact h.ow g D
  ·right;omega
 ·exact((C.block k (by omega) (λ e=>by have:=(V.ro.lt k e.symm).1;omega)).trans (MC wr o k (by omega))).trans (h.bl.block k U)
open Go.Stn
section
abbrev jL:=Nat×List Nat
def nE(l:List jL)(x:jL):Bool:=l.any (λ y=>mF y.1 y.2 x.1 x.2)
theorem rP{l:List jL}{x:jL}:nE l x=true↔x∈l:=by
 unfold nE mF;rw[NM];constructor
 ·rintro⟨y,o,h⟩;rw[aE]at h;have:y=x:=Prod.ext h.1 h.2;rw[<-this];exact o
 ·intro h;exact⟨x,h,by simp⟩
def Bm(out:List jL)(x:jL):List jL:=if nE out x=true then out else out++[x]
def yE(r:Nat)(out:List jL)(ms:List (List Nat)):List jL:=ms.foldl (λ o m=>Bm o (r,m)) out
def yO(N:List RN)(c:Nat)(x:List Nat):List (List Nat):=nU (bD N c) N x
def wU(N:List RN)(c:Nat)(out:List jL)(l:List jL):List jL:=l.foldl (λ o p=>yE p.1 o (yO N c p.2)) out
def lI(N:List RN)(c:Nat)(l:List jL):List jL:=wU N c [] l
theorem Uv(r:Nat)(out:List jL)(ms:List (List Nat))(m:List Nat):yE r out (ms++[m])=Bm (yE r out ms) (r,m):=by unfold yE;rw[NT];rfl
theorem Sl(N:List RN)(c:Nat)(out l:List jL)(p:jL):wU N c out (l++[p])=yE p.1 (wU N c out l) (yO N c p.2):=by unfold wU;rw[NT];rfl
theorem z9{out:List jL}{x y:jL}:x∈Bm out y↔x∈out\/x=y:=by
 unfold Bm;split
 ·rename_i h;constructor
  ·exact .inl
  ·rintro(o|o)
   ·exact o
   ·rw[o];exact rP.1 h
 ·rw[LN,LI]
theorem Cv{x:jL}:∀{ms:List (List Nat)}{out:List jL},x∈yE r out ms↔x∈out\/∃m,m∈ms/\x=(r,m)
 | [],out=>by
  constructor
  ·exact .inl
  ·rintro(h|⟨m,o,_⟩)
   ·exact h
   ·exact absurd o LM
 | a::ms,out=>by
  show x∈yE r (Bm out (r,a)) ms↔_;rw[Cv,z9];constructor
  ·rintro((h|h)|⟨m,o,h⟩)
   ·exact .inl h
   ·exact .inr ⟨a,LH,h⟩
   ·exact .inr ⟨m,LJ _ o,h⟩
  ·rintro(h|⟨m,o,h⟩)
   ·exact .inl (.inl h)
   ·rcases MG.1 o with e|e
    ·rw[e]at h;exact .inl (.inr h)
    ·exact .inr ⟨m,e,h⟩
theorem U6{N:List RN}{x:jL}:∀{l out:List jL},x∈wU N c out l↔x∈out\/∃p,p∈l/\p.1=x.1/\x.2∈yO N c p.2
 | [],out=>by
  constructor
  ·exact .inl
  ·rintro(h|⟨m,D,_⟩)
   ·exact h
   ·exact absurd D LM
 | a::l,out=>by
  show x∈wU N c (yE a.1 out (yO N c a.2)) l↔_;rw[U6,Cv];constructor
  ·rintro((h|⟨m,D,h⟩)|⟨p,F,o,C⟩)
   ·exact .inl h
   ·exact .inr ⟨a,LH,by rw[h],by rw[h];exact D⟩
   ·exact .inr ⟨p,LJ _ F,o,C⟩
  ·rintro(h|⟨p,F,o,C⟩)
   ·exact .inl (.inl h)
   ·rcases MG.1 F with e|e
    ·rw[e]at o C;exact .inl (.inr ⟨x.2,C,Prod.ext o.symm rfl⟩)
    ·exact .inr ⟨p,e,o,C⟩
theorem U5{N:List RN}{l:List jL}{x:jL}:x∈lI N c l↔∃p,p∈l/\p.1=x.1/\x.2∈yO N c p.2:=by
 unfold lI;rw[U6];exact⟨λ h=>h.resolve_left LM,.inr⟩
theorem FF{out:List jL}{x:jL}(h:out.Nodup):(Bm out x).Nodup:=by
 unfold Bm;split
 ·exact h
 ·rename_i D;rw[List.nodup_append];refine⟨h,by simp,λ a o b C=>?_⟩;rw[LI.1 C];rintro rfl;exact D (rP.2 o)
theorem Iz:∀{ms:List (List Nat)}{out:List jL},out.Nodup->(yE r out ms).Nodup
 | [],_,h=>h
 | m::ms,out,h=>Iz (ms:=ms) (out:=Bm out (r,m)) (FF h)
theorem Cz{N:List RN}:∀{l out:List jL},out.Nodup->(wU N c out l).Nodup
 | [],_,h=>h
 | p::l,out,h=>Cz (l:=l) (out:=yE p.1 out (yO N c p.2)) (Iz h)
theorem Q4(N:List RN)(c:Nat)(l:List jL):(lI N c l).Nodup:=Cz List.nodup_nil
theorem wA{α:Type} [DecidableEq α]:∀{l S:List α},l.Nodup->(∀x,x∈l->x∈S)->l.length<=S.length
 | [],S,_,_=>zL
 | a::l,S,hn,h=>by
  have C:=h a LH;rw[PA]at hn;have F:=wA (S:=S.erase a) hn.2 (λ x D=>by
   have o:x≠a:=λ e=>hn.1 (by rw[<-e];exact D)
   exact(List.mem_erase_of_ne o).2 (h x (LJ _ D)))
  rw[List.length_erase_of_mem C]at F;have:=List.length_pos_of_mem C;rw[MD];omega
structure mK(N:List RN)(aQ ks:List Nat):Prop where
 sh:qX N
 cl:gI N
 len:ks.length=aQ.length
 tr:∀(r n k:Nat),aQ[r]?=some n->ks[r]?=some k->n<N.length/\Tr N n k
 sum:ks.sum<=10
 r8:aQ.length<=8
 n3:N.length<=3000
def UL(N:List RN)(aQ:List Nat)(p:jL):Prop:=∃n,aQ[p.1]?=some n/\p.2∈pD N n
def UB(N:List RN)(aQ:List Nat)(p:jL):Prop:=∃n,aQ[p.1]?=some n/\(p.2=[n]\/p.2∈pD N n)
theorem UL.ub{N:List RN}{aQ:List Nat}{p:jL}(h:UL N aQ p):UB N aQ p:=by
 obtain⟨n,o,C⟩:=h;exact⟨n,o,.inr C⟩
section
variable {N:List RN}{aQ ks:List Nat}
theorem v7:∀{l:List Nat}{k:Nat},k∈l->k<=l.sum
 | [],k,h=>absurd h LM
 | a::l,k,h=>by
  rw[PC];rcases MG.1 h with e|e
  ·omega
  ·have:=v7 e;omega
theorem mK.top(h:mK N aQ ks){r n:Nat}(D:aQ[r]?=some n):∃k,ks[r]?=some k/\n<N.length/\Tr N n k/\k<=10:=by
 have C:=(LO.1 D).1;have o:=LD (l:=ks) (i:=r) (by rw[h.len];exact C);obtain⟨F,I⟩:=h.tr r n _ D o;have:=h.sum;have J:=v7 (MA o);exact⟨_,o,F,I,by omega⟩
theorem BN{B:Nat->List (List Nat)}:nU B N [n]=B n:=by
 unfold nU;have:(if xG N n=true then nU B N []else [])=[]:=by unfold nU;split<;>rfl
 rw[this,MB];simp
theorem mK.step_in(h:mK N aQ ks){p:jL}(I:UB N aQ p){c:Nat}{m:List Nat}(o:m∈yO N c p.2):UL N aQ (p.1,m):=by
 obtain⟨n,C,F⟩:=I;obtain⟨k,_,D,_,_⟩:=h.top C;refine⟨n,C,?_⟩;unfold yO at o;rcases F with e|e
 ·rw[e,BN]at o;exact Bp h.cl n D m o
 ·exact FJ h.cl n D p.2 e m o
theorem mK.step_all(h:mK N aQ ks){l:List jL}(F:∀p,p∈l->UB N aQ p){c:Nat}:∀p,p∈lI N c l->UL N aQ p:=λ x I=>by
 obtain⟨p,o,C,D⟩:=U5.1 I;have:=h.step_in (F p o) D;rw[C]at this;exact this
theorem KV:∀(aQ ks:List Nat)(o:Nat),ks.length=aQ.length->(∀(r n k:Nat),aQ[r]?=some n->ks[r]?=some k->n<N.length/\Tr N n k)->∃S:List jL,S.length<=ks.sum/\∀(r n:Nat)(y:List Nat),aQ[r]?=some n->y∈pD N n->(o+r,y)∈S
 | [],ks,o,_,_=>⟨[],by simp,λ r n y h=>by simp at h⟩
 | t::aQ,[],o,hl,_=>by simp at hl
 | t::aQ,k::ks,o,hl,h=>by
  obtain⟨S,Q,F⟩:=KV aQ ks (o+1) (by simpa using hl) (λ r n q C J=>h (r+1) n q (by simpa using C) (by simpa using J));obtain⟨_,⟨T,U,I⟩,_⟩:=h 0 t k rfl rfl;refine⟨T.map (λ y=>(o,y))++S,by rw[LF,NC,PC];omega,λ r n y C D=>?_⟩
  cases r with
  | zero=>
   have e:=sJ C
   subst e;exact LN.2 (.inl (LZ.2 ⟨y,I y D,rfl⟩))
  | succ r=>
   have:=F r n y (by simpa using C) D;rw[show o+1+r=o+(r+1) by omega]at this;exact LN.2 (.inr this)
theorem mK.univ(h:mK N aQ ks):∃S:List jL,S.length<=10/\∀p,UL N aQ p->p∈S:=by
 obtain⟨S,I,o⟩:=Go.Proofs.YtgjgjgihceijnaaGreat.KV (N:=N) aQ ks 0 h.len h.tr;have:=h.sum;refine⟨S,by omega,λ p F=>?_⟩;obtain⟨n,C,D⟩:=F;have:=o p.1 n p.2 C D;rw[MJ]at this;exact this
theorem mK.few(h:mK N aQ ks){l:List jL}(hn:l.Nodup)(C:∀p,p∈l->UL N aQ p):l.length<=10:=by
 obtain⟨S,F,o⟩:=h.univ;have:=wA hn (λ x D=>o x (C x D));omega
theorem mK.bnd(h:mK N aQ ks){p:jL}(J:UB N aQ p):(∀m,m∈p.2->m<N.length/\∀c,(bD N c m).length<=10)/\p.2.length<=700000/\p.1<aQ.length:=by
 obtain⟨n,D,F⟩:=J;obtain⟨k,_,C,Q,V⟩:=h.top D;have U:=h.n3;have I:∀m,m∈p.2->I6 N n m:=λ m o=>by
  rcases F with e|e
  ·rw[e]at o;rw[LI.1 o];exact .refl
  ·exact AR h.cl n C p.2 e m o
 refine⟨λ m o=>⟨(I m o).lt h.cl C,λ c=>by have:=Q.2 m (I m o) c;omega⟩,?_,(LO.1 D).1⟩;rcases F with e|e
 ·rw[e,LU];omega
 ·have:=(Ql h.cl h.sh n C p.2 e).2;omega
def WL(N:List RN)(l:List jL)(r:Nat)(w:List Nat):Prop:=∃p,p∈l/\p.1=r/\qU (WN N) p.2 w
theorem mK.wl_step(h:mK N aQ ks){l:List jL}(U:∀p,p∈l->UB N aQ p){c:Nat}(Q:c<256)(r:Nat)(w:List Nat):WL N (lI N c l) r w↔WL N l r (c::w):=by
 have o:∀p,p∈l->((∃y,y∈yO N c p.2/\qU (WN N) y w)↔qU (WN N) p.2 (c::w)):=λ p D=>
  Jh h.sh p.2 (λ m V=>DU h.sh h.cl Q (m+1) m (by omega) ((h.bnd (U p D)).1 m V).1) w
 constructor
 ·rintro⟨x,X,I,F⟩;obtain⟨p,C,Z,J⟩:=U5.1 X;exact⟨p,C,by omega,(o p C).1 ⟨x.2,J,F⟩⟩
 ·rintro⟨p,D,I,F⟩;obtain⟨y,Y,C⟩:=(o p D).2 F;exact⟨(p.1,y),U5.2 ⟨p,D,rfl,Y⟩,I,C⟩
theorem mK.done(h:mK N aQ ks)(x:List Nat):xF N x=true↔qU (WN N) x []:=by
 unfold xF;rw[MQ,L9];exact⟨λ k m o=>(N8 h.sh m).1 (k m o),λ k m o=>(N8 h.sh m).2 (k m o)⟩
end
def Fj(N:List RN)(b:Int)(p:jL):Int:=if xF N p.2=true/\(b= -1\/(p.1:Int)<b)then(p.1:Int)else b
def qB(N:List RN)(l:List jL):Int:=l.foldl (Fj N) (-1)
theorem Hj(N:List RN)(l:List jL)(p:jL):qB N (l++[p])=Fj N (qB N l) p:=by unfold qB;rw[NT];rfl
def S9(N:List RN)(l:List jL)(v:Int):Prop:=(v= -1/\∀p,p∈l->xF N p.2=false)\/∃r:Nat,v=(r:Int)/\(∃p,p∈l/\p.1=r/\xF N p.2=true)/\∀p,p∈l->xF N p.2=true->r<=p.1
theorem S9.snoc{N:List RN}{l:List jL}{v:Int}(h:S9 N l v)(p:jL):S9 N (l++[p]) (Fj N v p):=by
 unfold Fj
 cases hd:xF N p.2 with
 | false=>
  rw[aA (by simp)];rcases h with⟨C,D⟩|⟨r,C,⟨q,D,J,Q⟩,I⟩
  ·refine .inl ⟨C,λ q V=>?_⟩;rcases LN.1 V with e|e
   ·exact D q e
   ·rw[LI.1 e];exact hd
  ·refine .inr ⟨r,C,⟨q,LN.2 (.inl D),J,Q⟩,λ x F o=>?_⟩;rcases LN.1 F with e|e
   ·exact I x e o
   ·rw[LI.1 e,hd]at o;cases o
 | true=>
  simp only[true_and];rcases h with⟨C,D⟩|⟨r,C,⟨q,D,J,Q⟩,I⟩
  ·rw[aB (.inl C)];refine .inr ⟨p.1,rfl,⟨p,LN.2 (.inr LH),rfl,hd⟩,λ x F o=>?_⟩;rcases LN.1 F with e|e
   ·rw[D x e]at o;cases o
   ·rw[LI.1 e];exact lR
  ·by_cases U:(p.1:Int)<v
   ·rw[aB (.inr U)];refine .inr ⟨p.1,rfl,⟨p,LN.2 (.inr LH),rfl,hd⟩,λ x F o=>?_⟩;rcases LN.1 F with e|e
    ·have:=I x e o;omega
    ·rw[LI.1 e];exact lR
   ·rw[aA (by omega)];refine .inr ⟨r,C,⟨q,LN.2 (.inl D),J,Q⟩,λ x F o=>?_⟩;rcases LN.1 F with e|e
    ·exact I x e o
    ·rw[LI.1 e];omega
theorem q8(N:List RN)(l:List jL):S9 N l (qB N l):=by
 have o:∀(m l:List jL),S9 N l (qB N l)->S9 N (l++m) (qB N (l++m)):=by
  intro m
  induction m with
  | nil=>intro l h;rw[MB];exact h
  | cons p m ih=>
   intro l h;have:=ih (l++[p]) (by rw[Hj];exact h.snoc p);rw[LS]at this;exact this
 have:=o l [] (.inl ⟨rfl,λ p C=>absurd C LM⟩);rw[OL]at this;exact this
def pO(a b:List jL):Bool:=decide (a.length=b.length)&&a.all (λ x=>nE b x)
theorem Ca{a b:List jL}(D:a.Nodup)(I:b.Nodup):pO a b=true↔∀x,x∈a↔x∈b:=by
 unfold pO;rw[NY,aE,MQ];constructor
 ·rintro⟨F,C⟩ x;refine⟨λ o=>rP.1 (C x o),λ o=>?_⟩;apply LQ;intro J;have:=wA (l:=x::a) (S:=b) (by rw[PA];exact⟨J,D⟩) (λ y Q=>by
   rcases MG.1 Q with e|e
   ·rw[e];exact o
   ·exact rP.1 (C y e))
  rw[MD]at this;omega
 ·intro h;refine⟨?_,λ x o=>rP.2 ((h x).1 o)⟩;have F:=wA D (λ x o=>(h x).1 o);have C:=wA I (λ x o=>(h x).2 o);omega
def wV(N:List RN)(a b:Nat):Bool:=N.all (λ x=>x.k !=0||x.f a==x.f b)
theorem CO{N:List RN}{b:Nat}(h:wV N a b=true){n:Nat}{x:RN}(C:N[n]?=some x)(o:x.k=0):x.f a=x.f b:=by
 unfold wV at h;rw[MQ]at h;have:=h x (MA C);rw[o]at this;simpa using this
theorem IE{N:List RN}(D:gI N){a b:Nat}(h:wV N a b=true):∀n,bD N a n=bD N b n:=by
 intro n
 induction n using MU with
 | ind n ih=>
  cases hx:N[n]? with
  | none=>unfold bD vM;rw[hx]
  | some x=>
   have o:∀m,m∈x.l->bD N a m=bD N b m:=λ m o=>ih m (D n x hx m o)
   rw[M6 D hx,M6 D hx,tX x.l o (λ _ _=>rfl),uI x.l o];by_cases C:x.k=0
   ·rw[aB C,aB C,CO h hx C]
   ·rw[aA C,aA C]
    cases hl:x.l with
    | nil=>rfl
    | cons m l=>
     rw[hl]at o;simp only[o m LH]
theorem Hq{N:List RN}(o:gI N){a b:Nat}(h:wV N a b=true)(l:List jL):lI N a l=lI N b l:=by
 have e:yO N a=yO N b:=by
  funext x
  unfold yO;exact tX x (λ m _=>IE o h m) (λ _ _=>rfl)
 unfold lI wU;rw[e]
end
section
def DC(w:tW)(P:Nat->Prop)(v:tV)(ns:List Nat):Prop:=
 ∃a aJ,v=.slice a ns.length aJ/\ns.length<=aJ/\(ns=[]\/∃g o,a=some ⟨g,o,none⟩/\P g/\g<w.heap.size/\∀(i m:Nat),ns[i]?=some m->w.cell? ⟨g,o+i,none⟩=some (.int .i64 (m:Int)))
theorem DC.il{w:tW}{P:Nat->Prop}{v:tV}(h:DC w P v ns):IL w v ns:=by
 obtain⟨a,aJ,e,C,h⟩:=h;refine⟨a,aJ,e,C,?_⟩;rcases h with h|⟨g,o,D,_,F,I⟩
 ·exact .inl h
 ·exact .inr ⟨g,o,D,F,I⟩
theorem DC.keep{w w':tW}{P P':Nat->Prop}{v:tV}(h:DC w P v ns)(Y:w.heap.size<=w'.heap.size)(V:∀k,P k->k<w.heap.size->w'.heap[k]?=w.heap[k]? /\P' k):DC w' P' v ns:=by
 obtain⟨a,aJ,e,C,h⟩:=h;refine⟨a,aJ,e,C,?_⟩;rcases h with h|⟨g,o,J,I,Q,U⟩
 ·exact .inl h
 ·obtain⟨D,F⟩:=V g I Q;exact .inr ⟨g,o,J,F,by omega,λ i m X=>(LK (w:=w) (a:=⟨g,o+i,none⟩) D).trans (U i m X)⟩
def Y4{α:Type}(E:tW->(Nat->Prop)->List tV->α->Prop):Prop:=
 ∀(w w':tW)(P P':Nat->Prop)(c:List tV)(x:α),E w P c x->w.heap.size<=w'.heap.size->(∀k,P k->k<w.heap.size->w'.heap[k]?=w.heap[k]? /\P' k)->E w' P' c x
theorem Ck:∀{cs:List (List tV)}{j i:Nat}{c:List tV},(∀c,c∈cs->c.length=z)->cs[j]?=some c->i<z->cs.flatten[j*z+i]?=c[i]?
 | [],j,i,c,_,h,_=>by simp at h
 | d::cs,0,i,c,hl,h,hi=>by
  have e:=sJ h
  subst e;rw[OR,Nat.zero_mul,MJ,LP (by rw[hl d LH];exact hi)]
 | d::cs,j+1,i,c,hl,h,hi=>by
  have C:=hl d LH;have e:(j+1)*z+i=z+(j*z+i):=by rw[Nat.add_mul];omega
  rw[OR,e,LY (by omega),C,Nat.add_sub_cancel_left];exact Ck (λ c o=>hl c (LJ _ o)) (by simpa using h) hi
def sT{α:Type}(E:tW->(Nat->Prop)->List tV->α->Prop)(T:TypeId)(z:Nat)(w:tW)(B:Nat)(P:Nat->Prop)(v:tV)(xs:List α)(cs:List (List tV)):Prop:=
 w.ownsRow B T z v xs.length cs.flatten/\cs.length=xs.length/\(∀c,c∈cs->c.length=z)/\∀(j:Nat)(c:List tV)(x:α),cs[j]?=some c->xs[j]?=some x->E w P c x
section
variable {α:Type}{E:tW->(Nat->Prop)->List tV->α->Prop}{T:TypeId}{z B:Nat}{w w':tW}{P P':Nat->Prop}{v:tV}{xs:List α}{cs:List (List tV)}
theorem sT.start(w:tW)(B:Nat)(P:Nat->Prop):sT E T z w B P (.slice none 0 0) [] []:=⟨NB w B T z,rfl,λ c o=>absurd o LM,λ j c x h=>by simp at h⟩
theorem sT.keep(C:Y4 E)(h:sT E T z w B P v xs cs)(J:w.heap.size<=w'.heap.size)(F:∀k,v.ownBlock=some k->w'.heap[k]?=w.heap[k]?)(o:∀k,P k->k<w.heap.size->w'.heap[k]?=w.heap[k]? /\P' k):sT E T z w' B P' v xs cs:=
 ⟨iH h.1 F,h.2.1,h.2.2.1,λ j c x D I=>C w w' P P' c x (h.2.2.2 j c x D I) J o⟩
theorem sT.app(V:Y4 E)(h:sT E T z w B P v xs cs){w4:tW}{o:Obj}{g aJ n:Nat}{u:List tV}{x:α}(hn:xs.length=n)(hu:E w P u x)(U:u.length=z)
  (I:w4.ownsRow B T z (.slice (some ⟨g,0,none⟩) (n+1) aJ) (n+1) (cs.flatten++u)) (F:(w.alloc o).grownBy w4 v.ownBlock)
  (hP:∀k,P k->k<w.heap.size->v.ownBlock≠some k/\P' k):sT E T z w4 B P' (.slice (some ⟨g,0,none⟩) (n+1) aJ) (xs++[x]) (cs++[u]):=by
 subst hn;have aL:=F.size;have ez:(w.alloc o).heap.size=w.heap.size+1:=by simp
 have C:∀k,P k->k<w.heap.size->w4.heap[k]?=w.heap[k]? /\P' k:=λ k hp X=>by
  obtain⟨h1,h2⟩:=hP k hp X;exact⟨(F.block k (by omega) (λ e=>h1 e.symm)).trans (MC w o k X),h2⟩
 have Y:=h.2.1;refine⟨by rw[LF,LU,List.flatten_append,List.flatten_singleton];exact I,by simp[Y],λ c D=>?_,λ j c y D J=>?_⟩
 ·rcases LN.1 D with e|e
  ·exact h.2.2.1 c e
  ·rw[LI.1 e];exact U
 ·by_cases hj:j<cs.length
  ·rw[LP hj]at D;rw[LP (by omega)]at J;exact V w w4 P P' c y (h.2.2.2 j c y D J) (by omega) C
  ·have Q:=(LO.1 D).1;rw[LF,LU]at Q;have e:j=cs.length:=by omega
   subst e;rw[LY lR,MY]at D;rw[Y,LY lR,MY]at J;have Z:=sJ D
   have eb:=sJ J
   subst Z eb;exact V w w4 P P' u x hu (by omega) C
theorem sT.at(h:sT E T z w B P v xs cs){j:Nat}{x:α}(Q:xs[j]?=some x):∃(g aJ:Nat)(c:List tV),v=.slice (some ⟨g,0,none⟩) xs.length aJ/\B<=g/\g<w.heap.size/\E w P c x/\c.length=z/\∀(i:Nat)(u:tV),c[i]?=some u->w.cell? ⟨g,j*z+i,none⟩=some u:=by
 obtain⟨a,aJ,e⟩:=gA h.1;have F:=(LO.1 Q).1;have U:j<cs.length:=by rw[h.2.1];exact F
 have C:=LD U;rcases iL h.1 with o|⟨g,V,o⟩
 ·rw[e]at o;injection o with _ D _;omega
 ·have I:=h.1.lt g (by rw[o];rfl);rw[e]at o;injection o with D _ _;refine⟨g,aJ,_,by rw[e,D],I.1,I.2,h.2.2.2 j _ x C Q,h.2.2.1 _ (MA C),λ i u J=>?_⟩;have hi:i<z:=by
   have:=(LO.1 J).1;rw[h.2.2.1 _ (MA C)]at this;exact this
  have:=h.1.cells (g:=g) (by rw[e,D];rfl) (j*z+i) u ((Ck h.2.2.1 C hi).trans J);rw[oI,MJ]at this;exact this
end
def wF(w:tW)(P:Nat->Prop)(c:List tV)(x:jL):Prop:=∃u,c=[.int .i64 (x.1:Int),u]/\DC w P u x.2
theorem wF.keeps:Y4 wF:=λ _ _ _ _ _ _ ⟨u,h1,h2⟩ hz hB=>⟨u,h1,h2.keep hz hB⟩
def Ax(w:tW)(P:Nat->Prop)(v:tV)(ls:List jL):Prop:=
 ∃a aJ,v=.slice a ls.length aJ/\(ls=[]\/∃g,a=some ⟨g,0,none⟩/\P g/\g<w.heap.size/\∀(k:Nat)(x:jL),ls[k]?=some x->∃u,w.rangeAt g (k*2) [.int .i64 (x.1:Int),u]/\DC w P u x.2)
theorem Ax.keep{w w':tW}{P P':Nat->Prop}{v:tV}{ls:List jL}(h:Ax w P v ls)(Z:w.heap.size<=w'.heap.size)(o:∀k,P k->k<w.heap.size->w'.heap[k]?=w.heap[k]? /\P' k):Ax w' P' v ls:=by
 obtain⟨a,aJ,e,h⟩:=h;refine⟨a,aJ,e,?_⟩;rcases h with h|⟨g,F,I,J,Q⟩
 ·exact .inl h
 ·obtain⟨C,D⟩:=o g I J;refine .inr ⟨g,F,D,by omega,λ k x X=>?_⟩;obtain⟨u,U,V⟩:=Q k x X;exact⟨u,λ i y Y=>(LK (w:=w) (a:=⟨g,k*2+i,none⟩) C).trans (U i y Y),V.keep Z o⟩
theorem Ax.below{w w':tW}{P:Nat->Prop}{v:tV}{ls:List jL}(h:Ax w P v ls)(o:Bl w w'):Ax w' P v ls:=h.keep o.size (λ k D C=>⟨o.block k C,D⟩)
theorem Ax.mono{w:tW}{P P':Nat->Prop}{v:tV}{ls:List jL}(h:Ax w P v ls)(D:∀k,P k->k<w.heap.size->P' k):Ax w P' v ls:=h.keep lR (λ k o C=>⟨rfl,D k o C⟩)
theorem sT.lf{w:tW}{P P':Nat->Prop}{v:tV}{ls:List jL}{cs:List (List tV)}(h:sT wF 188 2 w B P v ls cs)(hp:∀k,P k->k<w.heap.size->P' k)(ho:∀k,B<=k->v.ownBlock=some k->P' k):Ax w P' v ls:=by
 obtain⟨a,aJ,e⟩:=gA h.1;refine⟨a,aJ,e,?_⟩
 cases hl:ls with
 | nil=>exact .inl rfl
 | cons y l=>
  right;obtain⟨g,F,_,J,hb,hz,_⟩:=h.at (j:=0) (x:=y) (by rw[hl];rfl);rw[e]at J;injection J with C _ _;refine⟨g,C,ho g hb (by rw[e,C];rfl),hz,λ k x U=>?_⟩;rw[<-hl]at U;obtain⟨X,I,c,Q,_,_,⟨u,hc,hu⟩,_,o⟩:=h.at U;rw[e,C]at Q;injection Q with D _ _;have V:g=X:=by injection D with D;injection D
  subst V;refine⟨u,λ i y hy=>o i y (by rw[hc];exact hy),hu.keep lR (λ k Y Z=>⟨rfl,hp k Y Z⟩)⟩
structure GR{α:Type}(E:tW->(Nat->Prop)->List tV->α->Prop)(T:TypeId)(z:Nat)(w w1:tW)(v1:tV)(wr:tW)(v:tV)(xs:List α)(cs:List (List tV)):Prop where
 ro:sT E T z wr w.heap.size (λ g=>w.heap.size<=g/\v.ownBlock≠some g) v xs cs
 gr:w1.grownBy wr v1.ownBlock
 ow:∀g,v.ownBlock=some g->v1.ownBlock=some g\/w1.heap.size<=g
 bl:Bl w wr
section
variable {α:Type}{E:tW->(Nat->Prop)->List tV->α->Prop}{T:TypeId}{z:Nat}{w w1 wr:tW}{v1 v:tV}{xs:List α}{cs:List (List tV)}
theorem GR.start(E:tW->(Nat->Prop)->List tV->α->Prop)(T:TypeId)(z:Nat)(w:tW):GR E T z w w (.slice none 0 0) w (.slice none 0 0) [] []:=⟨sT.start w _ _,⟨rfl,rfl,rfl,lR,λ _ _ _=>rfl⟩,λ g e=>(by cases e),bR⟩
theorem GR.from(h:GR E T z w w1 v1 wr v xs cs):GR E T z w wr v wr v xs cs:=⟨h.ro,⟨rfl,rfl,rfl,lR,λ _ _ _=>rfl⟩,λ _ e=> .inl e,h.bl⟩
theorem GR.below(F:Y4 E){w':tW}(h:GR E T z w w1 v1 wr v xs cs)(o:Bl wr w'):GR E T z w w1 v1 w' v xs cs:=by
 have U:=h.gr.size;have J:=h.bl.size;have Q:=o.size;exact⟨h.ro.keep F o.size (λ k C=>o.block k (h.ro.1.lt k C).2) (λ k I C=>⟨o.block k C,I⟩),⟨o.os.trans h.gr.os,o.tape.trans h.gr.tape,o.output.trans h.gr.output,by omega,λ k C D=>(o.block k (by omega)).trans (h.gr.block k C D)⟩,h.ow,⟨o.os.trans h.bl.os,o.tape.trans h.bl.tape,o.output.trans h.bl.output,by omega,λ k C=>(o.block k (by omega)).trans (h.bl.block k C)⟩⟩
theorem GR.app(X:Y4 E)(h:GR E T z w w1 v1 wr v xs cs){w4:tW}{o:Obj}{g aJ n:Nat}{u:List tV}{x:α}(hn:xs.length=n)(Z:E wr (λ g=>w.heap.size<=g/\v.ownBlock≠some g) u x)(V:u.length=z)
  (J:w4.ownsRow w.heap.size T z (.slice (some ⟨g,0,none⟩) (n+1) aJ) (n+1) (cs.flatten++u)) (C:(wr.alloc o).grownBy w4 v.ownBlock) (F:v.ownBlock=some g\/g=wr.heap.size+1):
  GR E T z w w1 v1 w4 (.slice (some ⟨g,0,none⟩) (n+1) aJ) (xs++[x]) (cs++[u]):=by
 have Y:=C.size;have ez:(wr.alloc o).heap.size=wr.heap.size+1:=by simp
 have hz:=h.gr.size;have aL:=h.bl.size;refine⟨h.ro.app X hn Z V J C (λ k U Q=>⟨U.2,U.1,λ e=>?_⟩),⟨C.os.trans h.gr.os,C.tape.trans h.gr.tape,C.output.trans h.gr.output,by omega,λ k Q I=>?_⟩,λ k e=>?_,⟨C.os.trans h.bl.os,C.tape.trans h.bl.tape,C.output.trans h.bl.output,by omega,λ k Q=>?_⟩⟩
 ·have e:g=k:=by simpa[NF]using e
  subst e;rcases F with D|D
  ·exact U.2 D
  ·omega
 ·refine((C.block k (by omega) (λ e=>?_)).trans (MC wr o k (by omega))).trans (h.gr.block k Q I);rcases h.ow k e.symm with D|D
  ·exact I D.symm
  ·omega
 ·have e:g=k:=by simpa[NF]using e
  subst e;rcases F with D|D
  ·exact h.ow g D
  ·right;omega
 ·exact((C.block k (by omega) (λ e=>by have:=(h.ro.1.lt k e.symm).1;omega)).trans (MC wr o k (by omega))).trans (h.bl.block k Q)
end
end
