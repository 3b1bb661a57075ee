import Derived.Test.YtgjgjgihceijnaaGreatK02
import Derived.Laws.IdiomStrings
open Go.RowKit renaming ownsRow_setCell_below->QO,Hid->QP
open Go renaming wpList_load_mid->QQ,wpList_store_mid->QR,all_oneCell_toArray->QS,info_parts->QT,madeCells->QU,wpList_make_own->QV,wpList_plain->QW,maxLen->QX,Calls->QY
open List renaming getD_eq_getElem?_getD->LD,getElem?_eq_getElem->LF,getElem?_eq_some_iff->LH,mem_singleton->LI,length_append->LK,mem_append->LO,append_assoc->LQ,getElem?_append_left->LR,getElem?_append_right->LU,not_mem_nil->LY,getElem_mem->MA,getElem?_map->MB,replicate->ME,mem_cons_of_mem->MM,mem_cons_self->MN,append_nil->MT,length_map->MU,drop_eq_getElem_cons->MW,append_eq_nil_iff->NE,cons_append->NF,length_replicate->NH,singleton_append->NI,getElem?_cons_succ->NN,map_append->NQ,mem_cons->NR,getElem?_range->NW,drop_eq_nil_iff->OF,length_set->OH,flatMap_cons->OL,map_cons->OM,drop_length->ON,mem_map->OP,nil_append->OR,getElem?_toArray->OV,map_singleton->PA,set_cons_succ->PB,map_nil->PF,take_add_one->PG,length_take->PM,drop_zero->PQ,range->PZ
open UInt8 renaming ofNat->LG
open Go.Proofs.Tryz renaming zeroCells50->LJ,prog->LZ,zeroCells169->MF,underlying116->MZ,underlying164->NB,underlying44->ND,underlying108->NG,underlying59->NK,underlying50->NT,underlying119->NY,underlying48->OB,zeroCells158->OC,underlying162->OK,ntmps71->OQ
open Go.Value renaming oneCell'->LM,ownBlock->MG,slice->MJ,int->NS
open Go.World renaming rangeAt_setCells_same->LN,cell?_setCell_other->MC,setCell->MI,cell?_alloc_at->MO,frozen?_setCell->MY,cell?_setCell_same->NC,ownsRow_nil->NU,frozen?_of_block->OD,cell?_of_block->OG,frozen?_alloc_new->OO,there_setCells->OX,grownBy_alloc->OY,there_alloc->PK
open Nat renaming lt_of_lt_of_le->LP,zero_add->LS,lt_succ_self->MQ,le_of_lt->MV,le_trans->NO,lt_trichotomy->NZ,mod_eq_of_lt->OE,succ_pos->OJ,not_lt_zero->OS,strongRecOn->OU,and_lt_two_pow->PC,lt_or_gt_of_ne->PE,or_lt_two_pow->PH,le_succ->PO,lt_irrefl->PT,mul_comm->PU,succ_mul->PV,zero_mul->PW,add_mul->PX,one_pos->PY
open Go.RowKit.Below renaming heap_alloc->MD,heap_setCell->MH,refl->OZ
open Int renaming toNat_natCast->ML
open Classical renaming byContradiction->MR
open Array renaming length_toList->MS
open Bool renaming or_eq_true->NJ,and_eq_true->NM
open Option renaming map_some->OI,getD_some->PN
open Go.Proofs.Tryz
set_option maxRecDepth 100000
set_option maxHeartbeats 8000000
namespace Go.Stn
open Go.RowKit
variable {B j s K aH e size g n aJ k b pb p q L a top cg h m a' nb:Nat}{S G S':List Int}{x ahead aP y fr ds:Int}{aV:List (Int×Int×Int)}{u v:List Nat}
def In(E:List (Nat×tV)):List tV:=E.flatMap λ e=>[NS .i64 (e.1:Int),e.2]
theorem l8(E:List (Nat×tV))(e:Nat×tV):In (E++[e])=In E++[NS .i64 (e.1:Int),e.2]:=by simp[In]
def mQ(vf vl:tV)(aG:Nat->Int):Array tV:= #[vf,vl,.int .i64 (aG 0),.int .i64 (aG 1),.int .i64 (aG 2),.int .i64 (aG 3),.int .i64 (aG 4),.int .i64 (aG 5),.int .i64 (aG 6),.int .i64 (aG 7),.int .i64 (aG 8),.int .i64 (aG 9)]
theorem Bk.below{w w':tW}{v:tV}{l:List Int}(h:Bk w v l)(I:Below B w w')(J:∀k,v.ownBlock=some k->k<B):Bk w' v l:=by
 refine⟨?_⟩;rcases h.sh with o|⟨g,aJ,rfl,C,D,F⟩
 ·exact .inl o
 ·exact .inr ⟨g,aJ,rfl,C,D,λ k x Q=>(I.cell (p:=⟨g,k,none⟩) (J g rfl)).trans (F k x Q)⟩
def Ac(num:Nat->Int)(S:List Int):Prop:=∀x:Nat,x<1024->num x=if(x:Int)∈S/\x≠0 then((jT S (x:Int):Nat):Int)else 0
structure qE(S:List Int):Prop where
 zero:S[0]?=some 0
 nd:S.Nodup
 rg:∀x∈S,0<=x/\x<1024
def zM(S:List Int)(x:Int):Int×List Int:=
 if x<=0\/1024<=x then(-1,S)else if x∈S then((jT S x:Nat),S)else((S.length:Nat),S++[x])
theorem Ci(h:x∈S):jT S x<S.length:=by
 induction S with
 | nil=>cases h
 | cons a r ih=>
  rw[jT];split
  ·simp
  ·rename_i o;rcases NR.1 h with e|e
   ·exact absurd e.symm o
   ·have:=ih e;simp;omega
theorem Cj(h:¬x∈S):jT S x=S.length:=by
 induction S with
 | nil=>rfl
 | cons a r ih=>
  rw[jT,aA (λ e=>h (by rw[e];exact MN)),ih (λ e=>h (MM _ e))];rfl
theorem T8(h:x∈S):S[jT S x]?=some x:=by
 induction S with
 | nil=>cases h
 | cons a r ih=>
  rw[jT];split
  ·rename_i e;rw[e];rfl
  ·rename_i o;rcases NR.1 h with e|e
   ·exact absurd e.symm o
   ·rw[NN];exact ih e
theorem Vw{T:List Int}(h:x∈S):jT (S++T) x=jT S x:=by
 induction S with
 | nil=>cases h
 | cons a r ih=>
  rw[NF,jT,jT];split
  ·rfl
  ·rename_i o;rcases NR.1 h with e|e
   ·exact absurd e.symm o
   ·rw[ih e]
theorem Vx(h:¬x∈S):jT (S++[x]) x=S.length:=by
 induction S with
 | nil=>simp[jT]
 | cons a r ih=>
  rw[NF,jT,aA (λ e=>h (by rw[e];exact MN)),ih (λ e=>h (MM _ e))];rfl
theorem p9(C:qE S){x:Int}(h:x∈S)(o:x≠0):0<jT S x:=by
 refine Nat.pos_of_ne_zero (λ e=>?_);have:=T8 h;rw[e,C.zero]at this;injection this with this;exact o this.symm
theorem Ml{num:Nat->Int}(C:qE S)(hn:Ac num S){x:Nat}(D:x<1024)(o:x≠0):num x=0↔¬(x:Int)∈S:=by
 rw[hn x D];by_cases h:(x:Int)∈S
 ·rw[aB ⟨h,o⟩];have:=p9 C h (by omega);constructor
  ·intro e;omega
  ·intro e;exact absurd h e
 ·rw[aA (λ q=>h q.1)];simp[h]
theorem Qj{num:Nat->Int}(hn:Ac num S){x:Nat}(F:x≠0)(h:¬(x:Int)∈S):Ac (λ j=>if j=x then(S.length:Int)else num j) (S++[(x:Int)]):=by
 intro y I;by_cases e:y=x
 ·subst e;simp only[aB];rw[aB ⟨by simp,F⟩,Vx h]
 ·simp only[aA e];rw[hn y I];by_cases o:(y:Int)∈S
  ·by_cases C:y=0
   ·rw[aA (λ q=>q.2 C),aA (λ q=>q.2 C)]
   ·rw[aB ⟨o,C⟩,aB ⟨by simp[o],C⟩,Vw o]
  ·rw[aA (λ q=>o q.1),aA (λ q=>by
    rcases LO.1 q.1 with D|D
    ·exact o D
    ·simp at D;omega)]
theorem No(C:qE S){x:Int}(h:¬x∈S)(F:0<=x)(I:x<1024):qE (S++[x]):=by
 refine⟨?_,?_,λ y U=>?_⟩
 ·have:=C.zero;have Q:0<S.length:=(LH.1 this).1;rw[LR Q];exact this
 ·rw[List.nodup_append];refine⟨C.nd,by simp,λ a J b D e=>?_⟩;rw[LI]at D;subst D;subst e;exact h J
 ·rcases LO.1 U with o|o
  ·exact C.rg y o
  ·rw[LI]at o;subst o;exact⟨F,I⟩
theorem yR(C:qE S):S.length<=1024:=by
 refine Qx 1024 S.length (λ i=>(S.getD i 0).toNat) (λ i hi=>?_) (λ i j hi o J=>?_)
 ·have:=C.rg (S[i]) (MA hi);rw[LD,LF hi];simp only[PN];omega
 ·have U:=C.rg (S[i]) (MA hi);have V:=C.rg (S[j]) (MA o);rw[LD,LD,LF hi,LF o]at J;simp only[PN]at J;have Q:=List.pairwise_iff_getElem.1 C.nd;rcases NZ i j with I|D|F
  ·exact absurd (by omega) (Q i j hi o I)
  ·exact D
  ·exact absurd (by omega) (Q j i o hi F)
def wR(ahead:Int):List Int->List Int->List Int->List Int×List Int
 | [],aS,S=>(aS,S)
 | a::r,aS,S=>wR ahead r (aS++[(zM S (nQ ahead a)).1]) (zM S (nQ ahead a)).2
def kY(aG:Nat->Int)(aP:Int)(S:List Int)(s:Nat):Int:=if s=0 then aP else Bt aG (S.getD s 0)
def oA(aG:Nat->Int)(aP:Int)(G:List Int):Nat->Nat->List Int->List (List Int)->List Int×List (List Int)
 | 0,_,S,R=>(S,R)
 | f+1,s,S,R=>if s<S.length then oA aG aP G f (s+1) (wR (kY aG aP S s) G [] S).2 (R++[(wR (kY aG aP S s) G [] S).1])else(S,R)
def jF(aG:Nat->Int)(aP:Int)(G:List Int):List Int×List (List Int):=oA aG aP G 1025 0 [0] []
theorem Jt(h:qE S)(x:Int):qE (zM S x).2/\S.length<=(zM S x).2.length/\(∀i,i<S.length->(zM S x).2.getD i 0=S.getD i 0)/\((zM S x).1= -1\/(0<=(zM S x).1/\(zM S x).1<(zM S x).2.length)):=by
 unfold zM;split
 ·exact⟨h,lR,λ _ _=>rfl,.inl rfl⟩
 ·rename_i C;split
  ·rename_i o;have:=Ci o;exact⟨h,lR,λ _ _=>rfl,.inr ⟨by simp only;omega,by simp only;omega⟩⟩
  ·rename_i o;refine⟨No h o (by omega) (by omega),by simp,λ i hi=>?_,.inr ⟨by simp only;omega,by simp;omega⟩⟩;simp only;rw[LD,LD,LR hi]
theorem Ud:∀(G aS S:List Int),qE S->(∀y∈aS,y= -1\/(0<=y/\y<S.length))->
  qE (wR ahead G aS S).2/\S.length<=(wR ahead G aS S).2.length/\(∀i,i<S.length->(wR ahead G aS S).2.getD i 0=S.getD i 0)/\(wR ahead G aS S).1.length=aS.length+G.length/\
   ∀y∈(wR ahead G aS S).1,y= -1\/(0<=y/\y<(wR ahead G aS S).2.length):=by
 intro G
 induction G with
 | nil=>intro aS S h o;exact⟨h,lR,λ _ _=>rfl,rfl,o⟩
 | cons a r ih=>
  intro aS S h o;obtain⟨D,F,I,J⟩:=Jt h (nQ ahead a);rw[wR];obtain⟨U,V,X,Y,Z⟩:=ih (aS++[(zM S (nQ ahead a)).1]) (zM S (nQ ahead a)).2 D (λ y Q=>by
   rcases LO.1 Q with q|q
   ·rcases o y q with C|C
    ·exact .inl C
    ·exact .inr ⟨C.1,by omega⟩
   ·rw[LI]at q;rw[q];exact J)
  exact⟨U,NO F V,λ i hi=>(X i (by omega)).trans (I i hi),by rw[Y];simp;omega,Z⟩
theorem Hg{aS:List Int}{a:Int}(h:G[j]?=some a):wR ahead (G.drop j) aS S=wR ahead (G.drop (j+1)) (aS++[(zM S (nQ ahead a)).1]) (zM S (nQ ahead a)).2:=by
 have e:G.drop j=a::G.drop (j+1):=by
  obtain⟨C,o⟩:=LH.1 h;rw[MW C,o]
 rw[e,wR]
def Jv(bB:List Int)(S:List Int)(s:Nat)(zb:Nat->Nat)(K:Nat):List (Nat×tV):=
 (PZ S.length).map λ i=>(yT bB (S.getD i 0),if i<s then MJ (some ⟨zb i,0,none⟩) K K else MJ none 0 0)
theorem uD(bB S:List Int)(s:Nat)(zb:Nat->Nat)(K:Nat):(Jv bB S s zb K).length=S.length:=by simp[Jv]
theorem EH{bB:List Int}{C:Nat}{zb:Nat->Nat}(F:s<S.length):Jv bB S (s+1) (λ i=>if i=s then C else zb i) K=(Jv bB S s zb K).set s (yT bB (S.getD s 0),.slice (some ⟨C,0,none⟩) K K):=by
 refine List.ext_getElem? (λ i=>?_);by_cases e:i=s
 ·subst e;rw[List.getElem?_set_self (by rw[uD];exact F)];unfold Jv;rw[MB,NW F];simp
 ·rw[List.getElem?_set_ne (λ h=>e h.symm)];unfold Jv;rw[MB,MB]
  cases hr:(PZ S.length)[i]? with
  | none=>rfl
  | some j=>
   have I:j=i:=by
    obtain⟨J,o⟩:=LH.1 hr;simp at o;exact o.symm
   subst I;simp only[OI];by_cases D:j<s
   ·rw[aB D,aB (by omega),aA e]
   ·rw[aA D,aA (by omega)]
theorem EG:∀(E:List (Nat×tV)) (s:Nat) (t:Nat) (u v:tV),E[s]?=some (t,u)->(In E).set (s*2+1) v=In (E.set s (t,v)):=by
 intro E
 induction E with
 | nil=>intro s t u v h;simp at h
 | cons e r ih=>
  intro s t u v h;have o:In (e::r)=NS .i64 (e.1:Int)::e.2::In r:=by simp[In]
  cases s with
  | zero=>
   have C:e=(t,u):=by simpa using h
   subst C;rw[o];simp[In]
  | succ j=>
   rw[o,show(j+1)*2+1=(j*2+1)+1+1 by omega,PB,PB,ih j t u v (by simpa using h)];simp[In]
theorem Io:∀(E:List (Nat×tV)) (s:Nat) (t:Nat) (u:tV),E[s]?=some (t,u)->(In E)[s*2+1]?=some u/\(In E)[s*2]?=some (.int .i64 (t:Int)):=by
 intro E
 induction E with
 | nil=>intro s t u h;simp at h
 | cons e r ih=>
  intro s t u h;have o:In (e::r)=NS .i64 (e.1:Int)::e.2::In r:=by simp[In]
  cases s with
  | zero=>
   have C:e=(t,u):=by simpa using h
   subst C;rw[o];simp
  | succ j=>
   rw[o,show(j+1)*2+1=(j*2+1)+1+1 by omega,show(j+1)*2=j*2+1+1 by omega];simpa using ih j t u (by simpa using h)
theorem Rn{w:tW}{xs:List tV}(h:w.ownsRow aH e size (.slice (some ⟨g,0,none⟩) n aJ) n xs)(i:Nat)(u:tV):(w.setCell ⟨g,i,none⟩ u).ownsRow aH e size (.slice (some ⟨g,0,none⟩) n aJ) n (xs.set i u):=by
 refine⟨by rw[OH];exact h.1,?_⟩;rcases h.2 with⟨V,_⟩|⟨X,Q,o,U,C,hg,I,D,F,J⟩
 ·cases V
 ·cases U
  refine .inr ⟨g,aJ,o.setIfInBounds i u,rfl,C,?_,I,D,by rw[Array.size_setIfInBounds];exact F,?_⟩
  ·unfold MI;simp only[Array.getElem?_modify,hg];simp
  ·rw[Array.toList_setIfInBounds,List.take_set,J]
theorem wI(g i:Nat):(⟨g,0,none⟩:Addr).add i=⟨g,i,none⟩:=by
 by_cases h:i=0
 ·subst h;simp[Addr.add]
 ·simp[Addr.add,h]
theorem Ck{α:Type}(f:α->List tV)(m:Nat)(D:∀x,(f x).length=m):∀(l:List α)(k:Nat)(x:α)(j:Nat)(v:tV),l[k]?=some x->(f x)[j]?=some v->(l.flatMap f)[k*m+j]?=some v:=by
 intro l
 induction l with
 | nil=>intro k x j v h;simp at h
 | cons a r ih=>
  intro k x j v h o;rw[OL]
  cases k with
  | zero=>
   have e:=sJ h
   subst e;have C:=(LH.1 o).1;rw[PW,LS,LR C];exact o
  | succ i=>
   rw[LU (by rw[D];rw[PX];omega),D,show(i+1)*m+j-m=i*m+j by rw[PX];omega];exact ih i x j v (by simpa using h) o
def uC(w:tW)(g:Nat)(aX:List ((Nat->Bool)×Int×Int)):Prop:=∀k x,aX[k]?=some x->w.rangeAt g (k*6) (nH x)
theorem uC.below{w w':tW}{aX:List ((Nat->Bool)×Int×Int)}(h:uC w g aX)(o:Below B w w')(hg:g<B):uC w' g aX:=λ k x C=>fY (h k x C) (o.block g hg)
def vP(f:Nat->Bool):Nat->Nat->Nat
 | 0,c=>c
 | k+1,c=>if f k=true/\vP f k c<k+1 then k+1 else vP f k c
def N2(x:(Nat->Bool)×Int×Int)(c:Nat):Nat:=if((vP x.1 4 c:Nat):Int)<x.2.1-1 then(x.2.1-1).toNat else vP x.1 4 c
def iP:List ((Nat->Bool)×Int×Int)->Nat->Nat
 | [],c=>c
 | x::r,c=>iP r (N2 x c)
theorem Ch{aX:List ((Nat->Bool)×Int×Int)}{x:(Nat->Bool)×Int×Int}(h:aX[k]?=some x)(c:Nat):iP (aX.drop k) c=iP (aX.drop (k+1)) (N2 x c):=by
 have e:aX.drop k=x::aX.drop (k+1):=by
  obtain⟨C,o⟩:=LH.1 h;rw[MW C,o]
 rw[e,iP]
def G4(f:Nat->Bool)(fr:Int)(bE:Nat):Nat->Int->Int
 | 0,b=>b
 | k+1,b=>if f k=true/\k=bE then Ad (G4 f fr bE k b) fr else G4 f fr bE k b
def rM(fi:Nat->Int)(bE:Nat):List ((Nat->Bool)×Int×Int)->Nat->Int->Int
 | [],_,b=>b
 | x::l,r,b=>rM fi bE l (r+1) (G4 x.1 (fi r) bE 4 b)
theorem Kr{fi:Nat->Int}{bE:Nat}{aX:List ((Nat->Bool)×Int×Int)}{x:(Nat->Bool)×Int×Int}(h:aX[k]?=some x)(b:Int):rM fi bE (aX.drop k) k b=rM fi bE (aX.drop (k+1)) (k+1) (G4 x.1 (fi k) bE 4 b):=by
 have e:aX.drop k=x::aX.drop (k+1):=by
  obtain⟨C,o⟩:=LH.1 h;rw[MW C,o]
 rw[e,rM]
def yD(w:tW)(g:Nat)(aW:List (Nat->Bool)):Prop:=∀k f,aW[k]?=some f->w.rangeAt g (k*256) (gQ f)
theorem yD.below{w w':tW}{aW:List (Nat->Bool)}(h:yD w g aW)(o:Below B w w')(hg:g<B):yD w' g aW:=λ k x C=>fY (h k x C) (o.block g hg)
def Ev(b:Nat):List (Nat->Bool)->Nat->Int->Int
 | [],_,a=>a
 | f::r,p,a=>Ev b r (p+1) (if f b=true then Ad a (sO p)else a)
def G3(aW:List (Nat->Bool))(b:Nat):Int:=Ev b aW 0 0
theorem Uz{aW:List (Nat->Bool)}{f:Nat->Bool}(h:aW[k]?=some f)(a:Int):Ev b (aW.drop k) k a=Ev b (aW.drop (k+1)) (k+1) (if f b=true then Ad a (sO k)else a):=by
 have e:aW.drop k=f::aW.drop (k+1):=by
  obtain⟨C,o⟩:=LH.1 h;rw[MW C,o]
 rw[e,Ev]
def U1(al:Nat->Int):Nat->Nat->List Nat->List Int->List Nat×List Int
 | 0,_,bG,P=>(bG,P)
 | d+1,b,bG,P=>U1 al d (b+1) (bG++[jT P (al b)]) (if jT P (al b)=P.length then P++[al b]else P)
def qF(aW:List (Nat->Bool)):List Nat×List Int:=U1 (G3 aW) 256 0 [] []
def uZ(bG:List Nat)(vpl:tV):List tV:=oY bG++[vpl]
theorem P4(bG:List Nat)(vpl:tV)(h:bG.length=256):(uZ bG vpl).length=257:=by simp[uZ,nF,h]
theorem s6(bG:List Nat)(vpl:tV)(k:Nat)(h:k<bG.length):(uZ bG vpl)[k]?=some (.int .i64 (bG[k]:Int)):=by
 unfold uZ;rw[LR (by rw[nF];exact h),Q3 _ _ h]
theorem Lk(bG:List Nat)(vpl:tV)(h:bG.length=256):(uZ bG vpl)[256]?=some vpl:=by
 unfold uZ;rw[LU (by rw[nF,h];exact lR),nF,h];rfl
theorem Gg(bG:List Nat)(vpl:tV)(k x:Nat)(h:k<bG.length):(uZ bG vpl).set k (.int .i64 (x:Int))=uZ (bG.set k x) vpl:=by
 unfold uZ;rw[List.set_append_left _ _ (by rw[nF];exact h)];simp[oY,List.map_set]
theorem Ll(bG:List Nat)(vpl u:tV)(h:bG.length=256):(uZ bG vpl).set 256 u=uZ bG u:=by
 unfold uZ;rw[List.set_append_right _ _ (by rw[nF,h];exact lR),nF,h];rfl
theorem p7(P:List Int)(x:Int):jT P x<=P.length:=by
 by_cases h:x∈P
 ·exact MV (Ci h)
 ·rw[Cj h];exact lR
abbrev qM:=Int×Int×Bool
def nA(p:qM):List tV:= [.int .i64 p.1,.int .i64 p.2.1,.bool p.2.2]
def qP:qM:=(0,0,false)
def D9(w:tW)(g:Nat)(aV:List (Int×Int×Int)):Prop:=∀k x,aV[k]?=some x->w.rangeAt g (k*3) [.int .i64 x.1,.int .i64 x.2.1,.int .i64 x.2.2]
theorem D9.below{w w':tW}(h:D9 w g aV)(o:Below B w w')(hg:g<B):D9 w' g aV:=λ k x C=>fY (h k x C) (o.block g hg)
def Jc(aV:List (Int×Int×Int)):Prop:=∀(k:Nat)(x:Int×Int×Int),aV[k]?=some x->0<=x.1/\x.1<=5/\(x.1=0->0<=x.2.1/\x.2.1<10)/\(x.1≠0->0<=x.2.1/\x.2.1<k/\0<=x.2.2/\x.2.2<k)
def oU(ps:Nat->qM)(x:Int×Int×Int)(aG:Nat->Int):qM×(Nat->Int):=
 if x.1=0 then oR x.1 x.2.1 qP qP aG else oR x.1 x.2.1 (ps x.2.1.toNat) (ps x.2.2.toNat) aG
def jJ:List (Int×Int×Int)->Nat->(Nat->qM)->(Nat->Int)->(Nat->qM)×(Nat->Int)
 | [],_,ps,aG=>(ps,aG)
 | x::l,k,ps,aG=>jJ l (k+1) (λ i=>if i=k then(oU ps x aG).1 else ps i) (oU ps x aG).2
theorem Py{x:Int×Int×Int}(h:aV[k]?=some x)(ps:Nat->qM)(aG:Nat->Int):jJ (aV.drop k) k ps aG=jJ (aV.drop (k+1)) (k+1) (λ i=>if i=k then(oU ps x aG).1 else ps i) (oU ps x aG).2:=by
 have e:aV.drop k=x::aV.drop (k+1):=by
  obtain⟨C,o⟩:=LH.1 h;rw[MW C,o]
 rw[e,jJ]
def vH(w:tW)(pb n:Nat)(ps:Nat->qM):Prop:=∀j,j<n->w.rangeAt pb (j*3) (nA (ps j))/\w.there pb (j*3) 3
theorem vH.block{w w':tW}{ps:Nat->qM}(h:vH w pb n ps)(o:w'.heap[pb]?=w.heap[pb]?):vH w' pb n ps:=λ j C=>⟨fY (h j C).1 o,gJ (h j C).2 o⟩
theorem vH.set{w:tW}{ps:Nat->qM}(h:vH w pb n ps){k:Nat}(C:k<n)(p:qM):vH (w.setCells pb (k*3) (nA p)) pb n (λ i=>if i=k then p else ps i):=λ j o=>by
 refine⟨?_,OX (h j o).2 _ _ _⟩;by_cases e:j=k
 ·subst e;simp only[aB];exact LN w pb (j*3) (nA p) (h j o).2
 ·simp only[aA e];exact World.rangeAt_setCells_apart (h j o).1 _ _ _ (.inr (by show j*3+3<=k*3\/k*3+3<=j*3;omega))
def Ub(aG:Nat->Int)(aP:Int)(G:List Int)(bB:List Int):Nat×(Nat->Nat)×(Nat->Nat->Int):=
 ((jF aG aP G).1.length,(λ s=>yT bB ((jF aG aP G).1.getD s 0)),(λ s k=>((jF aG aP G).2.getD s []).getD k 0))
def Ik(aG:Nat->Int)(aP:Int)(G:List Int)(bB:List Int):Option (List (Nat×List Int)):=
 zC (Ub aG aP G bB).1 (Ub aG aP G bB).2.1 (Ub aG aP G bB).2.2 G.length
def xT(cs:Nat->Option (List (Nat×List Int))):Nat->Nat->List (List (Nat×List Int))->Option (List (List (Nat×List Int)))
 | 0,_,aS=>some aS
 | d+1,c,aS=>match cs c with
  | none=>none
  | some l=>xT cs d (c+1) (aS++[l])
theorem Sk{aG:Nat->Int}:∀f s S R,qE S->R.length=s->s<=S.length->s+f=1025->(∀r∈R,r.length=G.length/\∀y∈r,y=(-1:Int)\/(0<=y/\y<(S.length:Int)))->
  qE (oA aG aP G f s S R).1/\(oA aG aP G f s S R).2.length=(oA aG aP G f s S R).1.length/\∀r∈(oA aG aP G f s S R).2,r.length=G.length/\∀y∈r,y=(-1:Int)\/(0<=y/\y<((oA aG aP G f s S R).1.length:Int)):=by
 intro f
 induction f with
 | zero=>intro s S R o I J Q C;have:=yR o;exact⟨o,by omega,C⟩
 | succ d ih=>
  intro s S R o I J Q C;rw[oA];by_cases D:s<S.length
  ·rw[aB D];obtain⟨V,Z,k3,X,Y⟩:=Ud (ahead:=kY aG aP S s) G [] S o (λ y F=>absurd F (LY));refine ih _ _ _ V (by simp[I]) (by omega) (by omega) (λ r U=>?_);rcases LO.1 U with q|q
   ·refine⟨(C r q).1,λ y F=>?_⟩;rcases(C r q).2 y F with e|e
    ·exact .inl e
    ·exact .inr ⟨e.1,by omega⟩
   ·rw[LI]at q;rw[q];exact⟨by rw[X];simp,Y⟩
  ·rw[aA D];exact⟨o,by simp only;omega,C⟩
theorem tY(aG:Nat->Int)(aP:Int)(G:List Int):qE (jF aG aP G).1/\(jF aG aP G).2.length=(jF aG aP G).1.length/\∀r∈(jF aG aP G).2,r.length=G.length/\∀y∈r,y=(-1:Int)\/(0<=y/\y<((jF aG aP G).1.length:Int)):=
 Sk 1025 0 [0] [] ⟨rfl,by simp,λ x C=>by simp at C;omega⟩ rfl (by simp) rfl (λ r o=>absurd o (LY))
theorem BF(aG:Nat->Int)(aP:Int)(G:List Int)(i k:Nat)(hi:i<(jF aG aP G).1.length)(Q:k<G.length):
  ((jF aG aP G).2.getD i []).getD k 0= -1\/(0<=((jF aG aP G).2.getD i []).getD k 0/\((jF aG aP G).2.getD i []).getD k 0<(jF aG aP G).1.length):=by
 obtain⟨_,J,F⟩:=tY aG aP G;have o:i<(jF aG aP G).2.length:=by omega
 obtain⟨U,I⟩:=F _ (MA o);have e:(jF aG aP G).2.getD i []=(jF aG aP G).2[i]:=by rw[LD,LF o];rfl
 rw[e];have C:k<((jF aG aP G).2[i]).length:=by omega
 have D:((jF aG aP G).2[i]).getD k 0=((jF aG aP G).2[i])[k]:=by rw[LD,LF C];rfl
 rw[D];exact I _ (MA C)
section
def sI(tr:Nat->Nat->Int):Nat->List Nat->Option Nat
 | p,[]=>some p
 | p,b::w=>if tr p b= -1 then none else sI tr (tr p b).toNat w
def jN(mk:Nat->Nat)(tr:Nat->Nat->Int)(p:Nat)(w:List Nat):Nat:=match sI tr p w with
 | none=>0
 | some q=>mk q
def lF(L:Nat)(w:List Nat):Prop:=∀b∈w,b<L
theorem R6(tr:Nat->Nat->Int):∀(u v:List Nat)(p:Nat),sI tr p (u++v)=match sI tr p u with
  | none=>none
  | some q=>sI tr q v
 | [],v,p=>rfl
 | b::u,v,p=>by
  rw[NF,sI,sI];by_cases h:tr p b= -1
  ·rw[aB h,aB h]
  ·rw[aA h,aA h];exact R6 tr u v _
theorem X7{tr:Nat->Nat->Int}(h:sI tr p u=some q):sI tr p (u++[b])=if tr q b= -1 then none else some (tr q b).toNat:=by
 rw[R6,h];rfl
theorem C3{mk:Nat->Nat}{tr:Nat->Nat->Int}(h:sI tr p u=some q):jN mk tr p (u++v)=jN mk tr q v:=by
 unfold jN;rw[R6,h]
theorem iT{mk:Nat->Nat}{tr:Nat->Nat->Int}(h:tr p b≠ -1):jN mk tr p (b::v)=jN mk tr (tr p b).toNat v:=by
 unfold jN;rw[sI,aA h]
theorem lS{mk:Nat->Nat}{tr:Nat->Nat->Int}(h:tr p b= -1):jN mk tr p (b::v)=0:=by
 unfold jN;rw[sI,aB h]
theorem AG(mk:Nat->Nat)(tr:Nat->Nat->Int)(p:Nat):jN mk tr p []=mk p:=rfl
theorem B7(h:lF L u)(k:lF L v):lF L (u++v):=λ b C=>by
 rcases LO.1 C with o|o
 ·exact h b o
 ·exact k b o
theorem Lw(h:b<L):lF L [b]:=λ c o=>by rw[LI]at o;rw[o];exact h
theorem pK(h:b<L)(k:lF L v):lF L (b::v):=λ c C=>by
 rcases NR.1 C with o|o
 ·rw[o];exact h
 ·exact k c o
theorem wM(L:Nat):lF L []:=λ _ h=>absurd h LY
structure oT(n L:Nat)(tr:Nat->Nat->Int):Prop where
 pos:0<n
 rng:∀p b,p<n->b<L->tr p b= -1\/(0<=tr p b/\tr p b<(n:Int))
structure Fo(n L:Nat)(tr:Nat->Nat->Int):Prop where
 d1:∀p b q:Nat,p<n->b<L->0<q->(q:Int)<=tr p b->∃p' b':Nat,b'<L/\(p'<p\/(p'=p/\b'<=b))/\tr p' b'=(q:Int)
 d2:∀q:Nat,0<q->q<n->∃p b:Nat,p<q/\b<L/\tr p b=(q:Int)
def Bj(n L:Nat)(mk:Nat->Nat)(tr:Nat->Nat->Int):Prop:=∀p b,p<n->b<L->tr p b≠ -1->∃z,lF L z/\jN mk tr (tr p b).toNat z≠0
def Zh(n L:Nat)(mk:Nat->Nat)(tr:Nat->Nat->Int):Prop:=∀p q,p<n->q<n->p≠q->∃z,lF L z/\jN mk tr p z≠jN mk tr q z
structure uE(n L:Nat)(mk:Nat->Nat)(tr:Nat->Nat->Int):Prop where
 au:oT n L tr
 od:Fo n L tr
 li:Bj n L mk tr
 ap:Zh n L mk tr
theorem vW{tr:Nat->Nat->Int}(h:oT n L tr):∀(w:List Nat)(p q:Nat),p<n->lF L w->sI tr p w=some q->q<n
 | [],p,q,hp,_,o=>by rw[sI]at o;injection o with o;omega
 | b::w,p,q,hp,hl,o=>by
  rw[sI]at o;by_cases e:tr p b= -1
  ·rw[aB e]at o;cases o
  ·rw[aA e]at o;rcases h.rng p b hp (hl b MN)with C|C
   ·exact absurd C e
   ·exact vW h w _ q (by omega) (λ c D=>hl c (MM _ D)) o
def tC(L:Nat)(t1 t2:Nat->Nat->Int)(p q:Nat):Prop:=∃u,lF L u/\sI t1 0 u=some p/\sI t2 0 u=some q
section
variable {n1 n2 L:Nat}{m1 m2:Nat->Nat}{t1 t2:Nat->Nat->Int}
theorem tC.swap(h:tC L t1 t2 p q):tC L t2 t1 q p:=by obtain⟨u,o,C,D⟩:=h;exact⟨u,o,D,C⟩
theorem tC.obs(F:∀w,lF L w->jN m1 t1 0 w=jN m2 t2 0 w){p q:Nat}(h:tC L t1 t2 p q)(z:List Nat)(I:lF L z):jN m1 t1 p z=jN m2 t2 q z:=by
 obtain⟨u,o,C,D⟩:=h;rw[<-C3 C,<-C3 D];exact F _ (B7 o I)
theorem tC.right(I:∀w,lF L w->jN m1 t1 0 w=jN m2 t2 0 w)(C:oT n2 L t2)(X:Zh n2 L m2 t2){p q o:Nat}(h:tC L t1 t2 p q)(k:tC L t1 t2 p o):q=o:=by
 by_cases e:q=o
 ·exact e
 ·obtain⟨u,Q,Z,U⟩:=h;obtain⟨v,v1,v2,V⟩:=k;have Y:=vW C u 0 q C.pos Q U;have F:=vW C v 0 o C.pos v1 V;obtain⟨z,J,D⟩:=X q o Y F e;exact absurd ((tC.obs I ⟨u,Q,Z,U⟩ z J).symm.trans (tC.obs I ⟨v,v1,v2,V⟩ z J)) D
theorem tC.left(D:∀w,lF L w->jN m1 t1 0 w=jN m2 t2 0 w)(C:oT n1 L t1)(a1:Zh n1 L m1 t1){p o q:Nat}(h:tC L t1 t2 p q)(k:tC L t1 t2 o q):p=o:=
 tC.right (λ w F=>(D w F).symm) C a1 h.swap k.swap
theorem tC.step(Y:∀w,lF L w->jN m1 t1 0 w=jN m2 t2 0 w)(Q:oT n1 L t1)(l1:Bj n1 L m1 t1){p q b:Nat}(h:tC L t1 t2 p q)(C:b<L)(F:t1 p b≠ -1):
  t2 q b≠ -1/\tC L t1 t2 (t1 p b).toNat (t2 q b).toNat:=by
 obtain⟨u,I,J,V⟩:=h;have X:=vW Q u 0 p Q.pos I J;obtain⟨z,Z,D⟩:=l1 p b X C F;have o:=tC.obs Y ⟨u,I,J,V⟩ (b::z) (pK C Z);rw[iT F]at o;have U:t2 q b≠ -1:=λ e=>by rw[lS e]at o;exact D o
 refine⟨U,u++[b],B7 I (Lw C),?_,?_⟩
 ·rw[X7 J,aA F]
 ·rw[X7 V,aA U]
theorem Tm(P:Nat->Nat->Prop):∀(p b:Nat),P p b->∃D o,P D o/\(D<p\/(D=p/\o<=b))/\∀x y,(x<D\/(x=D/\y<o))->¬P x y:=by
 have X:∀(q:Nat),(∀x y,x<q->¬P x y)->∀b,P q b->∃o,P q o/\o<=b/\∀y,y<o->¬P q y:=by
  intro q _ b
  induction b using OU with
  | ind b ih=>
   intro h;by_cases e:∃y,y<b/\P q y
   ·obtain⟨y,Q,C⟩:=e;obtain⟨o,F,U,I⟩:=ih y Q C;exact⟨o,F,by omega,I⟩
   ·exact⟨b,h,lR,λ y Q C=>e ⟨y,Q,C⟩⟩
 intro p
 induction p using OU with
 | ind p ih=>
  intro b h;by_cases e:∃x y,x<p/\P x y
  ·obtain⟨x,y,J,C⟩:=e;obtain⟨D,o,F,U,I⟩:=ih x J y C;exact⟨D,o,F,.inl (by omega),I⟩
  ·obtain⟨o,F,U,I⟩:=X p (λ x y J C=>e ⟨x,y,J,C⟩) b h;refine⟨p,o,F,.inr ⟨rfl,U⟩,λ x y V C=>?_⟩;rcases V with J|⟨rfl,Q⟩
   ·exact e ⟨x,y,J,C⟩
   ·exact I y Q C
theorem V4(X:uE n1 L m1 t1)(Q:uE n2 L m2 t2)(hs:∀w,lF L w->jN m1 t1 0 w=jN m2 t2 0 w):∀p,p<n1->tC L t1 t2 p p:=by
 intro p
 induction p using OU with
 | ind p ih=>
  intro hp;by_cases h0:p=0
  ·subst h0;exact⟨[],wM L,rfl,rfl⟩
  ·obtain⟨x,y,hx,hy,bS⟩:=X.od.d2 p (by omega) hp;obtain⟨D,b,⟨Y,Z⟩,cN,V⟩:=Tm (λ x y=>y<L/\t1 x y=(p:Int)) x y ⟨hy,bS⟩;have aL:D<p:=by omega
   have r1:=ih D aL (by omega);have bN:t1 D b≠ -1:=by rw[Z];omega
   obtain⟨eM,C⟩:=tC.step hs X.au X.li r1 Y bN;rw[Z]at C;simp only[ML]at C;have U:D<n2:=by obtain⟨u,u1,u2,u3⟩:=r1;exact vW Q.au u 0 D Q.au.pos u1 u3
   have bK:=Q.au.rng D b U Y;generalize hq:(t2 D b).toNat=q at C;have eL:t2 D b=(q:Int):=by rcases bK with h|h<;>omega
   rcases NZ q p with I|I|I
   ·have:=tC.left hs X.au X.ap C (ih q I (by omega));omega
   ·subst I;exact C
   ·obtain⟨J,b2,F,bT,aO⟩:=Q.od.d1 D b p U Y (by omega) (by omega);have cP:¬(J=D/\b2=b):=by rintro⟨rfl,rfl⟩;omega
    have aR:J<p:=by omega
    have r2:=ih J aR (by omega);have bO:t2 J b2≠ -1:=by rw[aO];omega
    obtain⟨eN,o⟩:=tC.step (λ w hw=>(hs w hw).symm) Q.au Q.li r2.swap F bO;rw[aO]at o;simp only[ML]at o;have bM:=X.au.rng J b2 (by omega) F;generalize hq3:(t1 J b2).toNat=p3 at o;have aT:t1 J b2=(p3:Int):=by rcases bM with h|h<;>omega
    rcases NZ p3 p with h3|h3|h3
    ·have:=tC.left (λ w hw=>(hs w hw).symm) Q.au Q.ap o (ih p3 h3 (by omega)).swap;omega
    ·subst h3;exact absurd ⟨F,aT⟩ (V J b2 (by omega))
    ·obtain⟨p4,b4,aW,cF,bC⟩:=X.od.d1 J b2 p (by omega) F (by omega) (by omega);exact absurd ⟨aW,bC⟩ (V p4 b4 (by omega))
theorem M9(F:uE n1 L m1 t1)(C:uE n2 L m2 t2)(I:∀w,lF L w->jN m1 t1 0 w=jN m2 t2 0 w):
  n1=n2/\(∀p,p<n1->m1 p=m2 p)/\∀p b,p<n1->b<L->t1 p b=t2 p b:=by
 have o:=V4 F C I;have V:=V4 C F (λ w hw=>(I w hw).symm);have Y:∀p,p<n1->p<n2:=λ p D=>by obtain⟨u,u1,_,u3⟩:=o p D;exact vW C.au u 0 p C.au.pos u1 u3
 have X:∀p,p<n2->p<n1:=λ p D=>by obtain⟨u,u1,_,u3⟩:=V p D;exact vW F.au u 0 p F.au.pos u1 u3
 have hn:n1=n2:=by
  have:=F.au.pos;have:=C.au.pos;have a:=Y (n1-1) (by omega);have b:=X (n2-1) (by omega);omega
 refine⟨hn,λ p D=>tC.obs I (o p D) [] (wM L),λ p b D Q=>?_⟩;by_cases e:t1 p b= -1
 ·by_cases U:t2 p b= -1
  ·rw[e,U]
  ·exact absurd e (tC.step (λ w hw=>(I w hw).symm) C.au C.li (o p D).swap Q U).1
 ·obtain⟨U,Z⟩:=tC.step I F.au F.li (o p D) Q e;have J:=F.au.rng p b D Q;have aL:=C.au.rng p b (by omega) Q;have:=tC.right I C.au C.ap Z (o (t1 p b).toNat (by rcases J with h|h<;>omega));rcases J with h|h<;>rcases aL with k|k<;>omega
end
end
section
theorem A7{q:Nat->Nat->Bool}{l:List Nat}:∀d,d<=l.length->gW q l s d=l.length->∀f,l.length-d<=f->f<l.length->q (l.getD f 0) s=false:=by
 intro d
 induction d with
 | zero=>intro _ _ f D C;omega
 | succ k ih=>
  intro F h f D C;rw[gW]at h;by_cases o:q (l.getD (l.length-(k+1)) 0) s=true
  ·rw[aB o]at h;omega
  ·rw[aA o]at h;by_cases e:f=l.length-(k+1)
   ·rw[e];simpa using o
   ·exact ih (by omega) h f (by omega) C
structure PJ(q:Nat->Nat->Bool)(s:Nat)(aK aN:List Nat):Prop where
 pi:PI q s aK aN
 le:∀x,x<s->aN.getD (aK.getD x 0) 0<=x
 mono:∀f f',f<f'->f'<aN.length->aN.getD f 0<aN.getD f' 0
 no:∀f f',f<f'->f'<aN.length->q (aN.getD f 0) (aN.getD f' 0)=false
 zero:0<s->0<aN.length/\aN.getD 0 0=0
theorem Dg{q:Nat->Nat->Bool}:∀d s aK aN,PJ q s aK aN->(kH q d s aK aN).2.length<=100->PJ q (s+d) (kH q d s aK aN).1 (kH q d s aK aN).2:=by
 intro d
 induction d with
 | zero=>intro s aK aN h _;exact h
 | succ k ih=>
  intro s aK aN h J;have X:=Gt (q:=q) 1 s aK aN h.pi;rw[kH]at J ⊢;have D:=h.pi.len;by_cases Q:gW q aN s aN.length=aN.length
  ·rw[aB Q]at J ⊢;have Z:=A7 (q:=q) (l:=aN) (s:=s) aN.length lR Q;by_cases C:100<aN.length+1
   ·rw[aB C]at J;simp at J;omega
   ·rw[aA C]at J ⊢;rw[show s+(k+1)=s+1+k by omega];have I:PI q (s+1) (aK++[aN.length]) (aN++[s]):=by
     have:=X (by rw[kH,aB Q,aA C,kH];simp;omega);rw[kH,aB Q,aA C,kH]at this;exact this
    refine ih (s+1) _ _ ⟨I,λ x hx=>?_,λ f f' o U=>?_,λ f f' o U=>?_,λ _=>?_⟩ J
    ·by_cases e:x=s
     ·subst e;rw[show(aK++[aN.length]).getD x 0=aN.length by have:= @jD aK aN.length;rw[D]at this;exact this,jD];exact lR
     ·have F:x<s:=by omega
      rw[gV (l:=aK) (by rw[D];exact F),gV (h.pi.cl x F).1];exact h.le x F
    ·simp at U;by_cases e:f'=aN.length
     ·subst e;rw[jD,gV o];exact(h.pi.rep f o).1
     ·rw[gV (by omega),gV (by omega)];exact h.mono f f' o (by omega)
    ·simp at U;by_cases e:f'=aN.length
     ·subst e;rw[jD,gV o];exact Z f (by omega) o
     ·rw[gV (by omega),gV (by omega)];exact h.no f f' o (by omega)
    ·refine⟨by simp,?_⟩;by_cases e:s=0
     ·subst e;have:aN=[]:=by
       cases aN with
       | nil=>rfl
       | cons a r=>have:=(h.pi.rep 0 (by simp)).1;omega
      rw[this];rfl
     ·have:=h.zero (by omega);rw[gV this.1];exact this.2
  ·rw[aA Q]at J ⊢;rw[show s+(k+1)=s+1+k by omega];have V:gW q aN s aN.length<aN.length:=by have:=tN q aN s aN.length;omega
   have I:PI q (s+1) (aK++[gW q aN s aN.length]) aN:=by
    have:=Gu q k (s+1) (aK++[gW q aN s aN.length]) aN;have Y:aN.length<=100:=by
     have hg:∀d s aK aN,aN.length<=(kH q d s aK aN).2.length:=by
      intro d
      induction d with
      | zero=>intro s aK aN;exact lR
      | succ j ihj=>
       intro s aK aN;rw[kH];split
       ·split
        ·simp
        ·have:=ihj (s+1) (aK++[aN.length]) (aN++[s]);simp at this;omega
       ·exact ihj _ _ _
     have:=hg k (s+1) (aK++[gW q aN s aN.length]) aN;omega
    have:=X (by rw[kH,aA Q,kH];exact Y);rw[kH,aA Q,kH]at this;exact this
   refine ih (s+1) _ _ ⟨I,λ x hx=>?_,h.mono,h.no,λ _=>?_⟩ J
   ·by_cases e:x=s
    ·subst e;rw[show(aK++[gW q aN x aN.length]).getD x 0=gW q aN x aN.length by have:= @jD aK (gW q aN x aN.length);rw[D]at this;exact this];exact MV (h.pi.rep _ V).1
    ·have F:x<s:=by omega
     rw[gV (by rw[D];exact F)];exact h.le x F
   ·have:0<s:=by have:=(h.pi.rep _ V).1;omega
    exact h.zero this
theorem AS{q:Nat->Nat->Bool}(h:(kX n q).2.length<=100):PJ q n (kX n q).1 (kX n q).2:=by
 have:=Dg (q:=q) n 0 [] [] ⟨⟨rfl,λ x C=>by omega,λ f o=>by simp at o⟩,λ x C=>by omega,λ f f' _ o=>by simp at o,λ f f' _ o=>by simp at o,λ h=>by omega⟩ h;rw[LS]at this;exact this
theorem PJ.part{q:Nat->Nat->Bool}{aK aN:List Nat}(h:PJ q s aK aN)(Q:∀x,q x x=true)(F:∀x y,q x y=true->q y x=true)(I:∀x y z,q x y=true->q y z=true->q x z=true){x y:Nat}(U:x<s)(V:y<s):
  aK.getD x 0=aK.getD y 0↔q x y=true:=by
 have D:q (aN.getD (aK.getD x 0) 0) x=true:=by
  rcases(h.pi.cl x U).2 with e|e
  ·rw[e];exact Q x
  ·exact e
 have J:q (aN.getD (aK.getD y 0) 0) y=true:=by
  rcases(h.pi.cl y V).2 with e|e
  ·rw[e];exact Q y
  ·exact e
 constructor
 ·intro e;rw[e]at D;exact I _ _ _ (F _ _ D) J
 ·intro e;have C:=I _ _ _ (I _ _ _ D e) (F _ _ J);rcases NZ (aK.getD x 0) (aK.getD y 0)with o|o|o
  ·have:=h.no _ _ o (h.pi.cl y V).1;rw[C]at this;cases this
  ·exact o
  ·have:=h.no _ _ o (h.pi.cl x U).1;rw[F _ _ C]at this;cases this
def sY(tk:Nat->Nat)(nx:Nat->Nat->Int)(K:Nat):Nat->Nat->Nat->Prop
 | 0,_,_=>True
 | r+1,s,t=>sY tk nx K r s t/\tk s=tk t/\∀g,g<K->(nx s g= -1↔nx t g= -1)/\(nx s g≠ -1->sY tk nx K r (nx s g).toNat (nx t g).toNat)
section
variable {tk:Nat->Nat}{nx:Nat->Nat->Int}{K:Nat}
theorem sY.symm:∀{r s t:Nat},sY tk nx K r s t->sY tk nx K r t s
 | 0,_,_,_=>trivial
 | _+1,_,_,h=>⟨sY.symm h.1,h.2.1.symm,λ g hg=>⟨(h.2.2 g hg).1.symm,λ e=>sY.symm ((h.2.2 g hg).2 (λ o=>e ((h.2.2 g hg).1.1 o)))⟩⟩
theorem sY.trans:∀{r s t u:Nat},sY tk nx K r s t->sY tk nx K r t u->sY tk nx K r s u
 | 0,_,_,_,_,_=>trivial
 | _+1,_,_,_,h,k=>⟨sY.trans h.1 k.1,h.2.1.trans k.2.1,λ g hg=>⟨(h.2.2 g hg).1.trans (k.2.2 g hg).1,λ e=>sY.trans ((h.2.2 g hg).2 e) ((k.2.2 g hg).2 (λ o=>e ((h.2.2 g hg).1.2 o)))⟩⟩
theorem Ux(F:∀s g,s<n->g<K->nx s g= -1\/(0<=nx s g/\nx s g<(n:Int))){bA:List Nat}{r:Nat}(Q:∀s t,s<n->t<n->(bA.getD s 0=bA.getD t 0↔sY tk nx K r s t)){s t:Nat}(U:s<n)(V:t<n):
  iS (iV bA) tk nx K s t=true↔sY tk nx K (r+1) s t:=by
 have D:∀g,g<K->(pG (iV bA) (nx s g)=pG (iV bA) (nx t g)↔((nx s g= -1↔nx t g= -1)/\(nx s g≠ -1->sY tk nx K r (nx s g).toNat (nx t g).toNat))):=λ g hg=>by
  unfold pG iV;by_cases o:nx s g= -1<;>by_cases C:nx t g= -1
  ·rw[aB o,aB C];simp[o,C]
  ·rw[aB o,aA C];simp only[o,C];constructor
   ·intro h;omega
   ·intro h;exact absurd (h.1.1 trivial) id
  ·rw[aA o,aB C];simp only[o,C];constructor
   ·intro h;omega
   ·intro h;exact absurd (h.1.2 trivial) id
  ·rw[aA o,aA C];have Y:=F s g U hg;have Z:=F t g V hg;have:=Q (nx s g).toNat (nx t g).toNat (by omega) (by omega);constructor
   ·intro h;exact⟨by simp[o,C],λ _=>this.1 (by omega)⟩
   ·intro h;have:=this.2 (h.2 o);omega
 unfold iS Co;simp only[NM,aE];rw[show iV bA s=((bA.getD s 0:Nat):Int) from rfl,show iV bA t=((bA.getD t 0:Nat):Int) from rfl];constructor
 ·rintro⟨X,I,J⟩;exact⟨(Q s t U V).1 (by omega),I,λ g hg=>(D g hg).1 (J g hg)⟩
 ·rintro⟨X,I,J⟩;exact⟨by have:=(Q s t U V).2 X;omega,I,λ g hg=>(D g hg).2 (J g hg)⟩
end
theorem AK(k:Nat)(g:Nat->Nat)(U:∀y,y<k->∃x,x<k/\g x=y)(_hg:∀x,x<k->g x<k):∀i j,i<k->j<k->g i=g j->i=j:=by
 intro i j hi hj he;by_cases e:i=j
 ·exact e
 ·exfalso;have V:∃h:Nat->Nat,∀y,y<k->h y<k/\g (h y)=y:=⟨λ y=>if D:y<k then Classical.choose (U y D)else 0,λ y D=>by simp only[dif_pos D];exact Classical.choose_spec (U y D)⟩
  obtain⟨h,Q⟩:=V;obtain⟨I,aL,o⟩:∃I,I<k/\∀y,y<k->h y≠I:=by
   by_cases e1:h (g i)=i
   ·refine⟨j,hj,λ y D F=>?_⟩;have Z:y=g i:=by rw[<-(Q y D).2,F,he]
    rw[Z,e1]at F;exact e F
   ·refine⟨i,hi,λ y D F=>?_⟩;have Z:y=g i:=by rw[<-(Q y D).2,F]
    rw[Z]at F;exact e1 F
  have:=Qx (k-1) k (λ y=>if h y<I then h y else h y-1) (λ y D=>by
   have h1:=(Q y D).1;have h2:=o y D;by_cases c:h y<I
   ·simp only[aB c];omega
   ·simp only[aA c];omega) (λ a b ha hb C=>by
   have a1:=o a ha;have b1:=o b hb;have J:h a=h b:=by
    by_cases X:h a<I<;>by_cases Y:h b<I
    ·simp only[aB X,aB Y]at C;exact C
    ·simp only[aB X,aA Y]at C;omega
    ·simp only[aA X,aB Y]at C;omega
    ·simp only[aA X,aA Y]at C;omega
   rw[<-(Q a ha).2,<-(Q b hb).2,J])
  omega
structure kF(n:Nat)(tk:Nat->Nat)(nx:Nat->Nat->Int)(K:Nat)(aK aN:List Nat)(r:Nat):Prop where
 pj:∃q,PJ q n aK aN
 few:aN.length<=100
 rd:r<=aN.length
 cls:∀s t,s<n->t<n->(aK.getD s 0=aK.getD t 0↔sY tk nx K r s t)
 stb:∀s t,s<n->t<n->sY tk nx K r s t->sY tk nx K (r+1) s t
def DF(n:Nat)(tk:Nat->Nat)(nx:Nat->Nat->Int)(K:Nat):Prop:=∃(f:Nat->Nat)(r:Nat),(∀i,i<101->f i<n)/\∀i j,i<101->j<101->i≠j->¬sY tk nx K r (f i) (f j)
theorem Kd(o:Nat->Int)(tk:Nat->Nat)(nx:Nat->Nat->Int)(K x:Nat):iS o tk nx K x x=true:=by
 unfold iS Co;simp
theorem Ke{o:Nat->Int}{tk:Nat->Nat}{nx:Nat->Nat->Int}{x y:Nat}(h:iS o tk nx K x y=true):iS o tk nx K y x=true:=by
 unfold iS Co at*;simp only[NM,aE]at*;exact⟨h.1.symm,h.2.1.symm,λ g hg=>(h.2.2 g hg).symm⟩
theorem Hw{o:Nat->Int}{tk:Nat->Nat}{nx:Nat->Nat->Int}{x y z:Nat}(h:iS o tk nx K x y=true)(k:iS o tk nx K y z=true):iS o tk nx K x z=true:=by
 unfold iS Co at*;simp only[NM,aE]at*;exact⟨h.1.trans k.1,h.2.1.trans k.2.1,λ g hg=>(h.2.2 g hg).trans (k.2.2 g hg)⟩
theorem Qp{q:Nat->Nat->Bool}:∀d s aK aN,PJ q s aK aN->aN.length<=100->100<(kH q d s aK aN).2.length->
  ∃f:Nat->Nat,(∀i,i<101->f i<s+d)/\∀i j,i<j->j<101->q (f i) (f j)=false:=by
 intro d
 induction d with
 | zero=>intro s aK aN _ J D;rw[kH]at D;simp only at D;omega
 | succ k ih=>
  intro s aK aN h I Q;by_cases C:gW q aN s aN.length=aN.length
  ·have V:=A7 (q:=q) (l:=aN) (s:=s) aN.length lR C;by_cases o:100<aN.length+1
   ·have e:aN.length=100:=by omega
    refine⟨λ i=>if i<100 then aN.getD i 0 else s,λ i hi=>?_,λ i j U F=>?_⟩
    ·simp only;split
     ·have:=(h.pi.rep i (by omega)).1;omega
     ·omega
    ·simp only[aB (show i<100 by omega)];split
     ·exact h.no i j U (by omega)
     ·exact V i (by omega) (by omega)
   ·have F:=Dg 1 s aK aN h (by rw[kH,aB C,aA o,kH];simp;omega);rw[kH,aB C,aA o,kH]at F;rw[kH,aB C,aA o]at Q;obtain⟨f,J,D⟩:=ih (s+1) _ _ F (by simp;omega) Q;exact⟨f,λ i hi=>by have:=J i hi;omega,D⟩
  ·have F:=Dg 1 s aK aN h (by rw[kH,aA C,kH];exact I);rw[kH,aA C,kH]at F;rw[kH,aA C]at Q;obtain⟨f,J,D⟩:=ih (s+1) _ _ F I Q;exact⟨f,λ i hi=>by have:=J i hi;omega,D⟩
theorem Qh{tk:Nat->Nat}{nx:Nat->Nat->Int}(hn:0<n)(aR:∀s g,s<n->g<K->nx s g= -1\/(0<=nx s g/\nx s g<(n:Int))):∀(f:Nat)(bA:List Nat)(o r:Nat),
  (∀s t,s<n->t<n->(bA.getD s 0=bA.getD t 0↔sY tk nx K r s t))->r<=o->o<=100->101<=f+o->(o=0->r=0)->(0<o->Bc n bA o/\∀s,s<n->bA.getD s 0<o)->
  (∀x,tS n tk nx K f bA o=some x->∃r',kF n tk nx K x.1 x.2 r')/\(tS n tk nx K f bA o=none->DF n tk nx K):=by
 intro f
 induction f with
 | zero=>intro bA o r _ _ h1 h2;omega
 | succ k ih=>
  intro bA o r hp hr hc Z h0 aO;rw[tS];have hq:∀s t,s<n->t<n->(iS (iV bA) tk nx K s t=true↔sY tk nx K (r+1) s t):=λ s t C J=>Ux aR hp C J
  by_cases Q:100<(kX n (iS (iV bA) tk nx K)).2.length
  ·rw[aB Q];refine⟨λ x hx=>(by cases hx),λ _=>?_⟩;obtain⟨g,g1,g2⟩:=Qp (q:=iS (iV bA) tk nx K) n 0 [] [] ⟨⟨rfl,λ x hx=>by omega,λ f Z=>by simp at Z⟩,λ x hx=>by omega,λ f f' _ Z=>by simp at Z,λ f f' _ Z=>by simp at Z,λ h=>by omega⟩ (by simp) Q;refine⟨g,r+1,λ i hi=>by have:=g1 i hi;omega,λ i j hi hj aW X=>?_⟩;have gi:g i<n:=by have:=g1 i hi;omega
   have gj:g j<n:=by have:=g1 j hj;omega
   rcases PE aW with U|U
   ·have:=g2 i j U hj;rw[(hq _ _ gi gj).2 X]at this;cases this
   ·have:=g2 j i U hi;rw[(hq _ _ gj gi).2 X.symm]at this;cases this
  ·rw[aA Q];have I:=AS (n:=n) (q:=iS (iV bA) tk nx K) (by omega);have F:∀s t,s<n->t<n->((kX n (iS (iV bA) tk nx K)).1.getD s 0=(kX n (iS (iV bA) tk nx K)).1.getD t 0↔sY tk nx K (r+1) s t):=λ s t C J=>
    (I.part (Kd _ _ _ _) (λ _ _ h=>Ke h) (λ _ _ _ h k=>Hw h k) C J).trans (hq s t C J)
   have bC:0<(kX n (iS (iV bA) tk nx K)).2.length:=(I.zero hn).1;have V:=λ s (C:s<n)=>(I.pi.cl s C).1
   generalize hP:kX n (iS (iV bA) tk nx K)=P at*;by_cases X:P.2.length=o
   ·rw[aB X];refine⟨λ x hx=>?_,λ h=>(by cases h)⟩;injection hx with hx;subst hx;obtain⟨ho,U⟩:=aO (by omega);have D:∀s,s<n->bA.getD (P.2.getD (P.1.getD s 0) 0) 0=bA.getD s 0:=λ s C=>by
     rcases(I.pi.cl s C).2 with e|e
     ·rw[e]
     ·have:=zW e;exact this
    have aL:=AK o (λ f=>bA.getD (P.2.getD f 0) 0) (λ y hy=>by
      obtain⟨s,C,e⟩:=ho.2 y hy;refine⟨P.1.getD s 0,by rw[<-X];exact V s C,?_⟩;rw[D s C,e]) (λ f Z=>U _ (I.pi.rep f (by omega)).1)
    have Y:∀s t,s<n->t<n->sY tk nx K r s t->sY tk nx K (r+1) s t:=λ s t C J hE=>by
     refine(F s t C J).1 (aL _ _ (by rw[<-X];exact V s C) (by rw[<-X];exact V t J) ?_);rw[D s C,D t J];exact(hp s t C J).2 hE
    exact⟨r,⟨_,I⟩,by omega,by omega,λ s t C J=>⟨λ h=>((F s t C J).1 h).1,λ h=>(F s t C J).2 (Y s t C J h)⟩,Y⟩
   ·rw[aA X];have aT:o<=P.2.length:=by
     by_cases c0:o=0
     ·omega
     ·have:=Dh (aO (by omega)).1 (λ s t h=>zW (tk:=tk) (nx:=nx) (K:=K) h) (by rw[hP];omega);rw[hP]at this;exact this
    refine ih P.1 P.2.length (r+1) F (by omega) (by omega) (by omega) (λ h=>by omega) (λ _=>⟨?_,V⟩);have:=R0 (n:=n) (q:=iS (iV bA) tk nx K) (by rw[hP];omega);rw[hP]at this;exact this
theorem Ix{tk:Nat->Nat}{nx:Nat->Nat->Int}(hn:0<n)(o:∀s g,s<n->g<K->nx s g= -1\/(0<=nx s g/\nx s g<(n:Int))):
  (∀x,tS n tk nx K 102 (ME n 0) 0=some x->∃r',kF n tk nx K x.1 x.2 r')/\(tS n tk nx K 102 (ME n 0) 0=none->DF n tk nx K):=
 Qh hn o 102 (ME n 0) 0 0 (λ s t C D=>by simp[sY,LD,C,D]) lR (by omega) (by omega) (λ _=>rfl) (λ h=>by omega)
end
section
section
variable {n K r:Nat}{tk:Nat->Nat}{nx:Nat->Nat->Int}{aK aN:List Nat}
def KG(tk:Nat->Nat)(aN:List Nat):Nat->Nat:=λ p=>tk (aN.getD p 0)
def Hc(nx:Nat->Nat->Int)(aK aN:List Nat):Nat->Nat->Int:=λ p g=>pG (iV aK) (nx (aN.getD p 0) g)
theorem kF.more(h:kF n tk nx K aK aN r)(J:oT n K nx):∀k s t,s<n->t<n->sY tk nx K r s t->sY tk nx K k s t:=by
 intro k
 induction k with
 | zero=>intro s t _ _ _;trivial
 | succ j ih=>
  intro s t C D I;have o:=h.stb s t C D I;refine⟨ih s t C D I,o.2.1,λ g hg=>⟨(o.2.2 g hg).1,λ e=>?_⟩⟩;have Q:=J.rng s g C hg;have F:nx t g≠ -1:=λ F=>e ((o.2.2 g hg).1.2 F)
  have U:=J.rng t g D hg;exact ih _ _ (by omega) (by omega) ((o.2.2 g hg).2 e)
theorem kF.bisim(h:kF n tk nx K aK aN r)(I:oT n K nx){s t:Nat}(C:s<n)(D:t<n)(J:aK.getD s 0=aK.getD t 0):
  tk s=tk t/\∀g,g<K->(nx s g= -1↔nx t g= -1)/\(nx s g≠ -1->aK.getD (nx s g).toNat 0=aK.getD (nx t g).toNat 0):=by
 have o:=h.stb s t C D ((h.cls s t C D).1 J);refine⟨o.2.1,λ g hg=>⟨(o.2.2 g hg).1,λ e=>?_⟩⟩;have Q:=I.rng s g C hg;have F:nx t g≠ -1:=λ F=>e ((o.2.2 g hg).1.2 F)
 have U:=I.rng t g D hg;exact(h.cls _ _ (by omega) (by omega)).2 ((o.2.2 g hg).2 e)
theorem kF.obs(h:kF n tk nx K aK aN r)(o:oT n K nx):∀(z:List Nat)(s t:Nat),s<n->t<n->lF K z->aK.getD s 0=aK.getD t 0->jN tk nx s z=jN tk nx t z
 | [],s,t,hs,ht,_,he=>(h.bisim o hs ht he).1
 | b::z,s,t,hs,ht,hl,he=>by
  have D:=hl b MN;obtain⟨F,I⟩:=(h.bisim o hs ht he).2 b D;by_cases e:nx s b= -1
  ·rw[lS e,lS (F.1 e)]
  ·have C:nx t b≠ -1:=λ C=>e (F.2 C)
   have Q:=o.rng s b hs D;have U:=o.rng t b ht D;rw[iT e,iT C];exact kF.obs h o z _ _ (by omega) (by omega) (λ c J=>hl c (MM _ J)) (I e)
theorem Eg(Y:oT n K nx)(Z:Bj n K tk nx):∀k s t,s<n->t<n->¬sY tk nx K k s t->∃z,lF K z/\jN tk nx s z≠jN tk nx t z:=by
 intro k
 induction k with
 | zero=>intro s t _ _ h;exact absurd trivial h
 | succ j ih=>
  intro s t J Q h;by_cases U:sY tk nx K j s t
  ·by_cases V:tk s=tk t
   ·have h3:∃g,g<K/\¬((nx s g= -1↔nx t g= -1)/\(nx s g≠ -1->sY tk nx K j (nx s g).toNat (nx t g).toNat)):=by
     apply MR;intro hc;exact h ⟨U,V,λ g hg=>MR λ I=>hc ⟨g,hg,I⟩⟩
    obtain⟨g,hg,X⟩:=h3;have r1:=Y.rng s g J hg;have r2:=Y.rng t g Q hg;by_cases C:nx s g= -1<;>by_cases D:nx t g= -1
    ·exact absurd ⟨by simp[C,D],λ e=>absurd C e⟩ X
    ·obtain⟨z,F,o⟩:=Z t g Q hg D;exact⟨g::z,pK hg F,by rw[lS C,iT D];exact λ e=>o e.symm⟩
    ·obtain⟨z,F,o⟩:=Z s g J hg C;exact⟨g::z,pK hg F,by rw[iT C,lS D];exact o⟩
    ·have h5:¬sY tk nx K j (nx s g).toNat (nx t g).toNat:=λ hE=>X ⟨by simp[C,D],λ _=>hE⟩
     obtain⟨z,F,o⟩:=ih _ _ (by omega) (by omega) h5;exact⟨g::z,pK hg F,by rw[iT C,iT D];exact o⟩
   ·exact⟨[],wM K,V⟩
  ·exact ih s t J Q U
theorem kF.first_lt(h:kF n tk nx K aK aN r){p:Nat}(o:p<aN.length):aN.getD p 0<n/\aK.getD (aN.getD p 0) 0=p:=by
 obtain⟨q,C⟩:=h.pj;exact C.pi.rep p o
theorem kF.fin_lt(h:kF n tk nx K aK aN r){s:Nat}(C:s<n):aK.getD s 0<aN.length:=by
 obtain⟨q,o⟩:=h.pj;exact(o.pi.cl s C).1
theorem kF.first_le(h:kF n tk nx K aK aN r){s:Nat}(C:s<n):aN.getD (aK.getD s 0) 0<=s:=by
 obtain⟨q,o⟩:=h.pj;exact o.le s C
theorem kF.mono(h:kF n tk nx K aK aN r){p q:Nat}(o:p<q)(D:q<aN.length):aN.getD p 0<aN.getD q 0:=by
 obtain⟨F,C⟩:=h.pj;exact C.mono p q o D
theorem kF.mono_le(h:kF n tk nx K aK aN r){p q:Nat}(o:p<=q)(C:q<aN.length):aN.getD p 0<=aN.getD q 0:=by
 by_cases e:p=q
 ·rw[e];exact lR
 ·exact MV (h.mono (by omega) C)
theorem kF.zero(h:kF n tk nx K aK aN r)(hn:0<n):0<aN.length/\aN.getD 0 0=0:=by
 obtain⟨q,o⟩:=h.pj;exact o.zero hn
theorem sP(h:nx (aN.getD p 0) g= -1):Hc nx aK aN p g= -1:=by unfold Hc pG;rw[aB h]
theorem sQ(h:nx (aN.getD p 0) g≠ -1):Hc nx aK aN p g=((aK.getD (nx (aN.getD p 0) g).toNat 0:Nat):Int):=by unfold Hc pG iV;rw[aA h]
theorem kF.qobs(h:kF n tk nx K aK aN r)(D:oT n K nx):∀(z:List Nat)(p:Nat),p<aN.length->lF K z->jN (KG tk aN) (Hc nx aK aN) p z=jN tk nx (aN.getD p 0) z
 | [],p,_,_=>rfl
 | b::z,p,hp,hl=>by
  have J:=hl b MN;have U:=(h.first_lt hp).1;by_cases e:nx (aN.getD p 0) b= -1
  ·rw[lS e,lS (sP e)]
  ·have V:=D.rng _ b U J;have C:(nx (aN.getD p 0) b).toNat<n:=by omega
   have I:=sQ (aK:=aK) e;have F:Hc nx aK aN p b≠ -1:=by rw[I];omega
   have o:lF K z:=λ c Q=>hl c (MM _ Q)
   rw[iT e,iT F,I];simp only[ML];rw[kF.qobs h D z _ (h.fin_lt C) o];exact h.obs D z _ _ (h.first_lt (h.fin_lt C)).1 C o (h.first_lt (h.fin_lt C)).2
theorem kF.occ(h:kF n tk nx K aK aN r)(ha:oT n K nx)(ho:Fo n K nx){q s g:Nat}(hq:q<aN.length)(bC:0<q)(hs:s<n)(hg:g<K)(he:nx s g=((aN.getD q 0:Nat):Int)):
  ∃p o,o<K/\p<aN.length/\(aN.getD p 0<s\/(aN.getD p 0=s/\o<=g))/\Hc nx aK aN p o=(q:Int):=by
 have aO:0<aN.getD q 0:=by
  have:=h.mono bC hq;omega
 obtain⟨J,o,⟨D,U⟩,aT,V⟩:=Tm (λ x y=>y<K/\nx x y=((aN.getD q 0:Nat):Int)) s g ⟨hg,he⟩;have Q:J<n:=by omega
 have bM:=h.first_le Q;have X:=h.fin_lt Q;have F:=h.first_lt X;have aW:nx J o≠ -1:=by rw[U];omega
 have hb:=(h.bisim ha F.1 Q F.2).2 o D;have I:nx (aN.getD (aK.getD J 0) 0) o≠ -1:=λ e=>aW (hb.1.1 e)
 have C:=hb.2 I;rw[U,ML,(h.first_lt hq).2]at C;have aL:aN.getD (aK.getD J 0) 0=J:=by
  apply MR;intro bN;have r1:=ha.rng _ o F.1 D;have hx:(nx (aN.getD (aK.getD J 0) 0) o).toNat<n:=by omega
  have aR:=h.first_le hx;rw[C]at aR;obtain⟨a,b,Z,bK,Y⟩:=ho.d1 (aN.getD (aK.getD J 0) 0) o (aN.getD q 0) F.1 D aO (by omega);exact V a b (by omega) ⟨Z,Y⟩
 refine⟨aK.getD J 0,o,D,X,by rw[aL];exact aT,?_⟩;rw[sQ I,C]
theorem kF.canon(h:kF n tk nx K aK aN r)(D:oT n K nx)(ho:Fo n K nx)(hl:Bj n K tk nx):uE aN.length K (KG tk aN) (Hc nx aK aN):=by
 have U:=h.zero D.pos;have bM:oT aN.length K (Hc nx aK aN):=⟨U.1,λ p g C hg=>by
  have Y:=(h.first_lt C).1;by_cases e:nx (aN.getD p 0) g= -1
  ·exact .inl (sP e)
  ·right;have r1:=D.rng _ g Y hg;have:=h.fin_lt (s:=(nx (aN.getD p 0) g).toNat) (by omega);rw[sQ e];omega⟩
 have Z:∀p q,p<aN.length->q<aN.length->aN.getD p 0<aN.getD q 0->p<q:=λ p q C _ o=>by
  apply MR;intro hc;have:=h.mono_le (p:=q) (q:=p) (by omega) C;omega
 refine⟨bM,⟨λ p b q C hb Q aW=>?_,λ q Q hq=>?_⟩,λ p b C hb aO=>?_,λ p q C hq aO=>?_⟩
 ·have Y:=(h.first_lt C).1;have e:nx (aN.getD p 0) b≠ -1:=λ e=>by rw[sP e]at aW;omega
  have r1:=D.rng _ b Y hb;have hx:(nx (aN.getD p 0) b).toNat<n:=by omega
  rw[sQ e]at aW;have bN:=h.fin_lt hx;have bK:q<aN.length:=by omega
  have h1:=h.mono_le (p:=q) (q:=aK.getD (nx (aN.getD p 0) b).toNat 0) (by omega) bN;have h2:=h.first_le hx;have h3:=h.mono Q bK;obtain⟨s',g',aL,bC,X⟩:=ho.d1 (aN.getD p 0) b (aN.getD q 0) Y hb (by omega) (by omega);obtain⟨p',V,F,J,I,aR⟩:=h.occ D ho bK Q (by omega) aL X;refine⟨p',V,F,?_,aR⟩;rcases I with o|⟨cF,cN⟩
  ·exact .inl (Z p' p J C (by omega))
  ·rcases bC with o|⟨bS,bT⟩
   ·exact .inl (Z p' p J C (by omega))
   ·by_cases e3:p'=p
    ·exact .inr ⟨e3,by omega⟩
    ·exfalso;rcases PE e3 with o|o
     ·have:=h.mono o C;omega
     ·have:=h.mono o J;omega
 ·have h3:=h.mono Q hq;have bO:=(h.first_lt hq).1;obtain⟨s',g',cP,aL,X⟩:=ho.d2 (aN.getD q 0) (by omega) bO;obtain⟨p',V,F,J,I,aR⟩:=h.occ D ho hq Q (by omega) aL X;exact⟨p',V,Z p' q J hq (by omega),F,aR⟩
 ·have Y:=(h.first_lt C).1;have e:nx (aN.getD p 0) b≠ -1:=λ e=>aO (sP e)
  obtain⟨z,U,aT⟩:=hl _ b Y hb e;have r1:=D.rng _ b Y hb;have hx:(nx (aN.getD p 0) b).toNat<n:=by omega
  refine⟨z,U,?_⟩;rw[sQ e,ML,h.qobs D z _ (h.fin_lt hx) U,h.obs D z _ _ (h.first_lt (h.fin_lt hx)).1 hx U (h.first_lt (h.fin_lt hx)).2];exact aT
 ·have fp:=h.first_lt C;have fq:=h.first_lt hq;have hE:¬sY tk nx K r (aN.getD p 0) (aN.getD q 0):=λ hE=>by
   have:=(h.cls _ _ fp.1 fq.1).2 hE;rw[fp.2,fq.2]at this;exact aO this
  obtain⟨z,U,aT⟩:=Eg D hl r _ _ fp.1 fq.1 hE;exact⟨z,U,by rw[h.qobs D z p C U,h.qobs D z q hq U];exact aT⟩
theorem kF.qrounds(h:kF n tk nx K aK aN r)(V:oT n K nx):∀k p q,p<aN.length->q<aN.length->(sY (KG tk aN) (Hc nx aK aN) K k p q↔sY tk nx K k (aN.getD p 0) (aN.getD q 0)):=by
 intro k
 induction k with
 | zero=>intro p q _ _;exact Iff.rfl
 | succ j ih=>
  intro p q Y Z;have fp:=(h.first_lt Y).1;have fq:=(h.first_lt Z).1;have C:∀x,x<n->sY tk nx K j (aN.getD (aK.getD x 0) 0) x:=λ x hx=>by
   have X:=h.first_lt (h.fin_lt hx);exact h.more V j _ _ X.1 hx ((h.cls _ _ X.1 hx).1 X.2)
  have hg:∀g,g<K->(((Hc nx aK aN p g= -1↔Hc nx aK aN q g= -1)/\(Hc nx aK aN p g≠ -1->sY (KG tk aN) (Hc nx aK aN) K j (Hc nx aK aN p g).toNat (Hc nx aK aN q g).toNat))↔
    ((nx (aN.getD p 0) g= -1↔nx (aN.getD q 0) g= -1)/\(nx (aN.getD p 0) g≠ -1->sY tk nx K j (nx (aN.getD p 0) g).toNat (nx (aN.getD q 0) g).toNat))):=λ g o=>by
   have r1:=V.rng _ g fp o;have r2:=V.rng _ g fq o;by_cases D:nx (aN.getD p 0) g= -1<;>by_cases I:nx (aN.getD q 0) g= -1
   ·exact⟨λ _=>⟨⟨λ _=>I,λ _=>D⟩,λ h=>absurd D h⟩,λ _=>⟨⟨λ _=>sP I,λ _=>sP D⟩,λ h=>absurd (sP D) h⟩⟩
   ·have:=sQ (aK:=aK) I;simp only[sP (aK:=aK) D,D,I];constructor
    ·intro F;have:=F.1.1 trivial;omega
    ·intro F;exact absurd (F.1.1 trivial) id
   ·have:=sQ (aK:=aK) D;simp only[sP (aK:=aK) I,D,I];constructor
    ·intro F;have:=F.1.2 trivial;omega
    ·intro F;exact absurd (F.1.2 trivial) id
   ·have q1:=sQ (aK:=aK) D;have q2:=sQ (aK:=aK) I;have x1:(nx (aN.getD p 0) g).toNat<n:=by omega
    have x2:(nx (aN.getD q 0) g).toNat<n:=by omega
    have hi:=ih _ _ (h.fin_lt x1) (h.fin_lt x2);have n1:Hc nx aK aN p g≠ -1:=by rw[q1];omega
    have n2:Hc nx aK aN q g≠ -1:=by rw[q2];omega
    rw[q1,q2,ML,ML];rw[q1]at n1;rw[q2]at n2;constructor
    ·intro F;exact⟨⟨λ e=>absurd e D,λ e=>absurd e I⟩,λ _=>((C _ x1).symm.trans (hi.1 (F.2 n1))).trans (C _ x2)⟩
    ·intro F;exact⟨⟨λ e=>absurd e n1,λ e=>absurd e n2⟩,λ _=>hi.2 (((C _ x1).trans (F.2 D)).trans (C _ x2).symm)⟩
  constructor
  ·rintro⟨J,Q,U⟩;exact⟨(ih p q Y Z).1 J,Q,λ g o=>(hg g o).1 (U g o)⟩
  ·rintro⟨J,Q,U⟩;exact⟨(ih p q Y Z).2 J,Q,λ g o=>(hg g o).2 (U g o)⟩
theorem kF.qapart(h:kF n tk nx K aK aN r)(Q:oT n K nx){p q:Nat}(F:p<aN.length)(I:q<aN.length)(o:p≠q):¬sY (KG tk aN) (Hc nx aK aN) K r p q:=λ J=>by
 have C:=h.first_lt F;have D:=h.first_lt I;have:=(h.cls _ _ C.1 D.1).2 ((h.qrounds Q r p q F I).1 J);rw[C.2,D.2]at this;exact o this
end
end
def Uq(S:List Int)(x v:Int):Prop:=(v= -1/\(x<=0\/1024<=x))\/∃q:Nat,v=(q:Int)/\q<S.length/\S.getD q 0=x/\0<x/\x<1024
theorem Uq.more{v:Int}(h:Uq S x v)(J:S.length<=S'.length)(I:∀i,i<S.length->S'.getD i 0=S.getD i 0):Uq S' x v:=by
 rcases h with h|⟨q,o,C,D,F⟩
 ·exact .inl h
 ·exact .inr ⟨q,o,by omega,(I q C).trans D,F⟩
theorem GZ(S:List Int)(x:Int):Uq (zM S x).2 x (zM S x).1:=by
 unfold zM;split
 ·rename_i h;exact .inl ⟨rfl,h⟩
 ·rename_i h;split
  ·rename_i o;refine .inr ⟨jT S x,rfl,Ci o,?_,by omega,by omega⟩;rw[LD,T8 o];rfl
  ·refine .inr ⟨S.length,rfl,by simp,?_,by omega,by omega⟩;simp
theorem sL{α:Type}{l m:List α}{d:α}{i:Nat}(h:i<l.length):(l++m).getD i d=l.getD i d:=by
 rw[LD,LD,LR h]
theorem sB{α:Type}{l:List α}{x d:α}:(l++[x]).getD l.length d=x:=by
 rw[LD,LU lR];simp
theorem Y6{aG:Nat->Int}(h:S'.getD p 0=S.getD p 0):kY aG aP S' p=kY aG aP S p:=by unfold kY;rw[h]
def As(K s j p g:Nat):Prop:=g<K/\(p<s\/(p=s/\g<j))
structure SI(aG:Nat->Int)(aP:Int)(G S:List Int)(s j:Nat)(val:Nat->Nat->Int):Prop where
 ok:qE S
 row:∀p g,As G.length s j p g->p<S.length/\Uq S (nQ (kY aG aP S p) (G.getD g 0)) (val p g)
 occ:∀q,0<q->q<S.length->∃p g,As G.length s j p g/\p<q/\val p g=(q:Int)
 d1:∀p g,As G.length s j p g->∀q:Nat,0<q->(q:Int)<=val p g->∃p' g',As G.length s j p' g'/\(p'<p\/(p'=p/\g'<=g))/\val p' g'=(q:Int)
theorem SI.step{aG:Nat->Int}{aT o:Nat->Nat->Int}(h:SI aG aP G S s j aT)(hj:j<G.length)(hs:s<S.length)
  (hv:∀p g,As G.length s j p g->o p g=aT p g) (hx:o s j=(zM S (nQ (kY aG aP S s) (G.getD j 0))).1):
  SI aG aP G (zM S (nQ (kY aG aP S s) (G.getD j 0))).2 s (j+1) o:=by
 obtain⟨h1,h2,h3,h4⟩:=Jt h.ok (nQ (kY aG aP S s) (G.getD j 0));have aR:=GZ S (nQ (kY aG aP S s) (G.getD j 0));have D:∀p,p<S.length->kY aG aP (zM S (nQ (kY aG aP S s) (G.getD j 0))).2 p=kY aG aP S p:=λ p hp=>Y6 (h3 p hp)
 have F:∀p g,As G.length s (j+1) p g->As G.length s j p g\/(p=s/\g=j):=λ p g C=>by unfold As at*;omega
 have I:∀p g,As G.length s j p g->As G.length s (j+1) p g:=λ p g C=>by unfold As at*;omega
 have J:As G.length s (j+1) s j:=⟨hj,.inr ⟨rfl,by omega⟩⟩
 have aO:∀p g,As G.length s j p g->(p<s\/(p=s/\g<=j)):=λ p g C=>by unfold As at C;omega
 have X:∀q,0<q->q<S.length->∃p g,As G.length s (j+1) p g/\p<q/\o p g=(q:Int)/\(p<s\/(p=s/\g<=j)):=λ q U Q=>by
  obtain⟨p,g,a,b,c⟩:=h.occ q U Q;exact⟨p,g,I p g a,b,by rw[hv p g a];exact c,aO p g a⟩
 have V:∀q,0<q->q<(zM S (nQ (kY aG aP S s) (G.getD j 0))).2.length->S.length<=q->q=S.length/\o s j=(q:Int):=λ q U Q aW=>by
  rw[hx];unfold zM at Q⊢;split at Q
  ·simp only at Q;omega
  ·split at Q
   ·simp only at Q;omega
   ·rename_i e1 e2;simp at Q;rw[aA e1,aA e2];exact⟨by omega,by simp only;omega⟩
 refine⟨h1,λ p g C=>?_,λ q U Q=>?_,λ p g C q U Y=>?_⟩
 ·rcases F p g C with hp|⟨rfl,rfl⟩
  ·obtain⟨a,b⟩:=h.row p g hp;rw[hv p g hp,D p a];exact⟨by omega,b.more h2 h3⟩
  ·rw[D p hs,hx];exact⟨by omega,aR⟩
 ·by_cases Z:q<S.length
  ·obtain⟨p,g,a,b,c,_⟩:=X q U Z;exact⟨p,g,a,b,c⟩
  ·obtain⟨e1,e2⟩:=V q U Q (by omega);exact⟨s,j,J,by omega,e2⟩
 ·rcases F p g C with hp|⟨rfl,rfl⟩
  ·rw[hv p g hp]at Y;obtain⟨p',g',a,b,c⟩:=h.d1 p g hp q U Y;exact⟨p',g',I p' g' a,b,by rw[hv p' g' a];exact c⟩
  ·rw[hx]at Y;have aL:q<(zM S (nQ (kY aG aP S p) (G.getD g 0))).2.length:=by rcases h4 with e|e<;>omega
   by_cases Z:q<S.length
   ·obtain⟨p',g',a,_,c,d⟩:=X q U Z;exact⟨p',g',a,d,c⟩
   ·obtain⟨e1,e2⟩:=V q U aL (by omega);exact⟨p,g,J,.inr ⟨rfl,lR⟩,e2⟩
def Y2(R:List (List Int))(aS:List Int)(s p g:Nat):Int:=if p<s then(R.getD p []).getD g 0 else aS.getD g 0
theorem GB{aG:Nat->Int}{R:List (List Int)}:∀(d j:Nat)(aS S:List Int),j+d=G.length->aS.length=j->s<S.length->ahead=kY aG aP S s->SI aG aP G S s j (Y2 R aS s)->
  SI aG aP G (wR ahead (G.drop j) aS S).2 s G.length (Y2 R (wR ahead (G.drop j) aS S).1 s)/\S.length<=(wR ahead (G.drop j) aS S).2.length:=by
 intro d
 induction d with
 | zero=>
  intro j aS S U _ _ _ h;have e:j=G.length:=by omega
  subst e;rw[ON,wR];exact⟨h,lR⟩
 | succ k ih=>
  intro j aS S U o J I h;have C:j<G.length:=by omega
  have hg:G[j]?=some (G.getD j 0):=by rw[LD,LF C];rfl
  rw[Hg hg];obtain⟨V,X,Q,Y⟩:=Jt h.ok (nQ ahead (G.getD j 0));have F:SI aG aP G (zM S (nQ ahead (G.getD j 0))).2 s (j+1) (Y2 R (aS++[(zM S (nQ ahead (G.getD j 0))).1]) s):=by
   rw[I];refine h.step C J (λ p g D=>?_) ?_
   ·unfold Y2;by_cases e:p<s
    ·rw[aB e,aB e]
    ·rw[aA e,aA e,sL (by unfold As at D;omega)]
   ·unfold Y2;rw[aA (by omega),<-o,sB]
  have:=ih (j+1) (aS++[(zM S (nQ ahead (G.getD j 0))).1]) (zM S (nQ ahead (G.getD j 0))).2 (by omega) (by simp[o]) (by omega) (by rw[Y6 (Q s J)];exact I) F;exact⟨this.1,by omega⟩
theorem Sj{aG:Nat->Int}:∀f s S R,R.length=s->s<=S.length->s+f=1025->(∀r∈R,r.length=G.length)->SI aG aP G S s 0 (Y2 R [] s)->
  SI aG aP G (oA aG aP G f s S R).1 (oA aG aP G f s S R).1.length 0 (Y2 (oA aG aP G f s S R).2 [] (oA aG aP G f s S R).1.length):=by
 intro f
 induction f with
 | zero=>
  intro s S R Y h2 h3 Z h;have:=yR h.ok;omega
 | succ d ih=>
  intro s S R Y h2 h3 Z h;rw[oA];by_cases F:s<S.length
  ·rw[aB F];obtain⟨Q,k2⟩:=GB (R:=R) (s:=s) (ahead:=kY aG aP S s) G.length 0 [] S (by omega) rfl F rfl h;rw[PQ]at Q k2;have J:=(Ud (ahead:=kY aG aP S s) G [] S h.ok (λ y hy=>absurd hy (LY))).2.2.2.1;refine ih (s+1) _ _ (by simp[Y]) (by omega) (by omega) (λ r hr=>?_) ?_
   ·rcases LO.1 hr with q|q
    ·exact Z r q
    ·rw[LI]at q;rw[q,J];simp
   ·have D:∀p g,As G.length s G.length p g->Y2 (R++[(wR (kY aG aP S s) G [] S).1]) [] (s+1) p g=Y2 R (wR (kY aG aP S s) G [] S).1 s p g:=λ p g C=>by
     unfold Y2;have hp:p<s+1:=by unfold As at C;omega
     rw[aB hp];by_cases e:p<s
     ·rw[aB e,sL (by omega)]
     ·rw[aA e];have e2:p=R.length:=by omega
      rw[e2,sB]
    have o:∀p g,As G.length (s+1) 0 p g↔As G.length s G.length p g:=λ p g=>by unfold As;omega
    refine⟨Q.ok,λ p g C=>?_,λ q V hq=>?_,λ p g C q V I=>?_⟩
    ·rw[D p g ((o p g).1 C)];exact Q.row p g ((o p g).1 C)
    ·obtain⟨p,g,a,b,c⟩:=Q.occ q V hq;exact⟨p,g,(o p g).2 a,b,by rw[D p g a];exact c⟩
    ·rw[D p g ((o p g).1 C)]at I;obtain⟨X,U,a,b,c⟩:=Q.d1 p g ((o p g).1 C) q V I;exact⟨X,U,(o X U).2 a,b,by rw[D X U a];exact c⟩
  ·rw[aA F];have e:s=S.length:=by omega
   subst e;exact h
def wY(aG:Nat->Int)(aP:Int)(G:List Int):Nat:=(jF aG aP G).1.length
def rU(aG:Nat->Int)(aP:Int)(G:List Int)(s:Nat):Int:=(jF aG aP G).1.getD s 0
def wZ(aG:Nat->Int)(aP:Int)(G:List Int)(s g:Nat):Int:=((jF aG aP G).2.getD s []).getD g 0
theorem Ec(aG:Nat->Int)(aP:Int)(G:List Int):SI aG aP G (jF aG aP G).1 (wY aG aP G) 0 (Y2 (jF aG aP G).2 [] (wY aG aP G)):=by
 refine Sj 1025 0 [0] [] rfl (by simp) rfl (λ r D=>absurd D LY) ⟨⟨rfl,by simp,λ x F=>by simp at F;omega⟩,λ p g o=>?_,λ q I C=>?_,λ p g o=>?_⟩
 ·unfold As at o;omega
 ·simp at C;omega
 ·unfold As at o;omega
theorem Bd{aG:Nat->Int}(o:p<wY aG aP G):Y2 (jF aG aP G).2 [] (wY aG aP G) p g=wZ aG aP G p g:=by
 unfold Y2 wZ;rw[aB o]
theorem FY(aG:Nat->Int)(aP:Int)(G:List Int){p g:Nat}(o:p<wY aG aP G)(hg:g<G.length):
  Uq (jF aG aP G).1 (nQ (if p=0 then aP else Bt aG (rU aG aP G p)) (G.getD g 0)) (wZ aG aP G p g):=by
 have h:=(Ec aG aP G).row p g ⟨hg,.inl o⟩;rw[Bd o]at h;exact h.2
theorem Dm(aG:Nat->Int)(aP:Int)(G:List Int):oT (wY aG aP G) G.length (wZ aG aP G):=
 ⟨by
  have:=(tY aG aP G).1.zero;have:=(LH.1 this).1;exact this,λ p g o hg=>BF aG aP G p g o hg⟩
theorem V9(aG:Nat->Int)(aP:Int)(G:List Int):Fo (wY aG aP G) G.length (wZ aG aP G):=by
 have h:=Ec aG aP G;refine⟨λ p b q I U F C=>?_,λ q F V=>?_⟩
 ·rw[<-Bd I]at C;obtain⟨J,Q,a,D,c⟩:=h.d1 p b ⟨U,.inl I⟩ q F C;have o:J<wY aG aP G:=by unfold As at a;omega
  exact⟨J,Q,a.1,D,by rw[<-Bd o];exact c⟩
 ·obtain⟨p,g,a,D,c⟩:=h.occ q F V;have o:p<wY aG aP G:=by unfold As at a;omega
  exact⟨p,g,D,a.1,by rw[<-Bd o];exact c⟩
theorem F4(a:Nat):BitVec.ofInt 64 (a:Int)=BitVec.ofNat 64 a:=by
 apply BitVec.eq_of_toNat_eq;simp[BitVec.toNat_ofNat]
theorem Kn(C:a<2 ^ 62)(o:b<2 ^ 62):nQ (a:Int) (b:Int)=((a &&& b:Nat):Int):=by
 have h:(a &&& b)<2 ^ 62:=PC a o;show IntKind.i64.wrap (((BitVec.ofInt 64 (a:Int)) &&& (BitVec.ofInt 64 (b:Int))).toNat:Int)=_;rw[F4,F4,BitVec.toNat_and,BitVec.toNat_ofNat,BitVec.toNat_ofNat,OE (by omega),OE (by omega)];exact IntWalk.i64_in _ (by omega)
theorem Tz(o:a<2 ^ 62)(C:b<2 ^ 62):Ad (a:Int) (b:Int)=((a ||| b:Nat):Int):=by
 have h:(a ||| b)<2 ^ 62:=PH o C;show IntKind.i64.wrap (((BitVec.ofInt 64 (a:Int)) ||| (BitVec.ofInt 64 (b:Int))).toNat:Int)=_;rw[F4,F4,BitVec.toNat_or,BitVec.toNat_ofNat,BitVec.toNat_ofNat,OE (by omega),OE (by omega)];exact IntWalk.i64_in _ (by omega)
def jA(x:Int):Prop:=0<=x/\x<1024
def nO(x:Int)(p:Nat):Bool:=x.toNat.testBit p
theorem oK(h:jA x):∃a:Nat,x=(a:Int)/\a<2 ^ 10:=⟨x.toNat,by have:=h.1;omega,by have:=h.1;have:=h.2;omega⟩
theorem tR:jA 0:=⟨by omega,by omega⟩
theorem uK(h:jA x)(k:jA y):jA (Ad x y):=by
 obtain⟨a,rfl,o⟩:=oK h;obtain⟨b,rfl,C⟩:=oK k;rw[Tz (by omega) (by omega)];have:=PH o C;exact⟨by omega,by omega⟩
theorem Gj(h:jA x)(k:jA y):jA (nQ x y):=by
 obtain⟨a,rfl,C⟩:=oK h;obtain⟨b,rfl,o⟩:=oK k;rw[Kn (by omega) (by omega)];have:=PC a o;exact⟨by omega,by omega⟩
theorem vA(h:jA x)(k:jA y)(p:Nat):nO (Ad x y) p=(nO x p||nO y p):=by
 obtain⟨a,rfl,o⟩:=oK h;obtain⟨b,rfl,C⟩:=oK k;rw[Tz (by omega) (by omega)];unfold nO;simp
theorem It(h:jA x)(k:jA y)(p:Nat):nO (nQ x y) p=(nO x p&&nO y p):=by
 obtain⟨a,rfl,o⟩:=oK h;obtain⟨b,rfl,C⟩:=oK k;rw[Kn (by omega) (by omega)];unfold nO;simp
theorem uJ(p:Nat):nO 0 p=false:=by unfold nO;simp
theorem tQ(h:k<10):jA (sO k):=by
 unfold sO;have:=Nat.pow_lt_pow_right (a:=2) (by omega) h;exact⟨Int.natCast_nonneg _,Int.ofNat_lt.2 this⟩
theorem E9(k p:Nat):nO (sO k) p=decide (k=p):=by
 unfold nO sO;rw[ML,Nat.testBit_two_pow]
theorem Tk(h:jA x){p:Nat}(C:10<=p):nO x p=false:=by
 obtain⟨a,rfl,o⟩:=oK h;unfold nO;rw[ML];exact Nat.testBit_lt_two_pow (LP o (Nat.pow_le_pow_right (by omega) C))
theorem GK(h:jA x)(k:jA y)(o:∀p,nO x p=nO y p):x=y:=by
 obtain⟨a,rfl,C⟩:=oK h;obtain⟨b,rfl,D⟩:=oK k;have:a=b:=Nat.eq_of_testBit_eq (λ i=>by have:=o i;unfold nO at this;simpa using this);rw[this]
theorem Jp(h:jA x):0<x↔∃p,nO x p=true:=by
 constructor
 ·intro F;apply MR;intro C;have:x=0:=GK h tR (λ p=>by
   rw[uJ]
   cases e:nO x p with
   | false=>rfl
   | true=>exact absurd ⟨p,e⟩ C)
  omega
 ·rintro⟨p,o⟩;have:=h.1;have D:x≠0:=λ e=>by rw[e,uJ]at o;cases o
  omega
theorem Ok(h:jA x)(k:jA y):nQ x y≠0↔∃p,nO x p=true/\nO y p=true:=by
 have C:=Gj h k;have D:=Jp C;constructor
 ·intro J;obtain⟨p,o⟩:=D.1 (by have:=C.1;omega);rw[It h k,NM]at o;exact⟨p,o⟩
 ·rintro⟨p,F,I⟩ e;have:nO (nQ x y) p=true:=by rw[It h k,F,I];rfl
  rw[e,uJ]at this;cases this
theorem Ic(h:jA x){k:Nat}(F:k<10):nQ x (sO k)=0↔nO x k=false:=by
 have:=Ok h (tQ F);constructor
 ·intro e
  cases hx:nO x k with
  | false=>rfl
  | true=>exact absurd e (this.2 ⟨k,hx,by rw[E9];simp⟩)
 ·intro e;apply MR;intro D;obtain⟨p,o,C⟩:=this.1 D;rw[E9,aE]at C;subst C;rw[e]at o;cases o
theorem Ks{aG:Nat->Int}(hn:∀p,p<10->jA (aG p)){pl:Int}:∀k,k<=10->jA (I8 aG pl k):=by
 intro k
 induction k with
 | zero=>intro _;exact tR
 | succ j ih=>
  intro h;rw[I8];split
  ·exact ih (by omega)
  ·exact uK (ih (by omega)) (hn j (by omega))
theorem DV{aG:Nat->Int}(hn:∀p,p<10->jA (aG p)){pl:Int}(I:jA pl)(q:Nat):∀k,k<=10->(nO (I8 aG pl k) q=true↔∃p,p<k/\nO pl p=true/\nO (aG p) q=true):=by
 intro k
 induction k with
 | zero=>
  intro _;rw[I8,uJ];constructor
  ·intro h;cases h
  ·rintro⟨p,h,_⟩;omega
 | succ j ih=>
  intro h;have hi:=ih (by omega);rw[I8];by_cases e:nQ pl (sO j)=0
  ·rw[aB e,hi];have F:=(Ic I (by omega)).1 e;constructor
   ·rintro⟨p,D,o⟩;exact⟨p,by omega,o⟩
   ·rintro⟨p,D,o,C⟩;refine⟨p,?_,o,C⟩;have:p≠j:=λ e=>by rw[e,F]at o;cases o
    omega
  ·rw[aA e,vA (Ks hn j (by omega)) (hn j (by omega)),NJ,hi];have F:nO pl j=true:=by
    cases hx:nO pl j with
    | true=>rfl
    | false=>exact absurd ((Ic I (by omega)).2 hx) e
   constructor
   ·rintro(⟨p,D,o⟩|o)
    ·exact⟨p,by omega,o⟩
    ·exact⟨j,by omega,F,o⟩
   ·rintro⟨p,D,o,C⟩;by_cases J:p=j
    ·subst J;exact .inr C
    ·exact .inl ⟨p,by omega,o,C⟩
theorem f7{aG:Nat->Int}(hn:∀p,p<10->jA (aG p))(pl:Int):jA (Bt aG pl):=Ks hn 10 lR
theorem DW{aG:Nat->Int}(hn:∀p,p<10->jA (aG p)){pl:Int}(o:jA pl)(q:Nat):nO (Bt aG pl) q=true↔∃p,p<10/\nO pl p=true/\nO (aG p) q=true:=DV hn o q 10 lR
theorem X9{pl:Int}(V:jA pl):∀(l:List Int)(k:Nat),(∀x∈l,jA x)->
  (L8 l pl k=0/\∀x∈l,¬ ∃p,nO pl p=true/\nO x p=true)\/
  ∃r,L8 l pl k=k+r+1/\r<l.length/\(∃p,nO pl p=true/\nO (l.getD r 0) p=true)/\∀r',r'<r->¬ ∃p,nO pl p=true/\nO (l.getD r' 0) p=true:=by
 intro l
 induction l with
 | nil=>intro k _;exact .inl ⟨rfl,λ x C=>absurd C LY⟩
 | cons a l ih=>
  intro k U;rw[L8];have Q:=U a MN;by_cases e:nQ pl a=0
  ·rw[aB e];have o:¬ ∃p,nO pl p=true/\nO a p=true:=λ h=>(Ok V Q).2 h e
   rcases ih (k+1) (λ x C=>U x (MM _ C))with⟨I,J⟩|⟨r,I,J,X,Y⟩
   ·refine .inl ⟨I,λ x C=>?_⟩;rcases NR.1 C with D|D
    ·rw[D];exact o
    ·exact J x D
   ·refine .inr ⟨r+1,by omega,by simp;omega,by simpa using X,λ r' F=>?_⟩
    cases r' with
    | zero=>simpa using o
    | succ j=>have:=Y j (by omega);simpa using this
  ·rw[aA e];exact .inr ⟨0,by omega,by simp,by simpa using(Ok V Q).1 e,λ r' F=>by omega⟩
inductive Rx where
 | pl (f:Nat->Bool)
 | cat (a b:Rx)
 | alt (a b:Rx)
 | opt (a:Rx)
 | plus (a:Rx)
 | star (a:Rx)
inductive uF (L:List Nat->Prop):List Nat->Prop where
 | one {w:List Nat}:L w->uF L w
 | more {u v:List Nat}:L u->uF L v->uF L (u++v)
def W:Rx->List Nat->Prop
 | .pl f,w=>∃b,w=[b]/\b<256/\f b=true
 | .cat a b,w=>∃u v,w=u++v/\W a u/\W b v
 | .alt a b,w=>W a w\/W b w
 | .opt a,w=>w=[]\/W a w
 | .plus a,w=>uF (W a) w
 | .star a,w=>w=[]\/uF (W a) w
def Rx.np:Rx->Nat
 | .pl _=>1
 | .cat a b=>a.np+b.np
 | .alt a b=>a.np+b.np
 | .opt a=>a.np
 | .plus a=>a.np
 | .star a=>a.np
def Rx.nul:Rx->Bool
 | .pl _=>false
 | .cat a b=>a.nul&&b.nul
 | .alt a b=>a.nul||b.nul
 | .opt _=>true
 | .plus a=>a.nul
 | .star _=>true
def Rx.fst:Rx->Nat->Nat->Prop
 | .pl _,k,p=>p=k
 | .cat a b,k,p=>a.fst k p\/(a.nul=true/\b.fst (k+a.np) p)
 | .alt a b,k,p=>a.fst k p\/b.fst (k+a.np) p
 | .opt a,k,p=>a.fst k p
 | .plus a,k,p=>a.fst k p
 | .star a,k,p=>a.fst k p
def Rx.lst:Rx->Nat->Nat->Prop
 | .pl _,k,p=>p=k
 | .cat a b,k,p=>(a.lst k p/\b.nul=true)\/b.lst (k+a.np) p
 | .alt a b,k,p=>a.lst k p\/b.lst (k+a.np) p
 | .opt a,k,p=>a.lst k p
 | .plus a,k,p=>a.lst k p
 | .star a,k,p=>a.lst k p
def Rx.fol:Rx->Nat->Nat->Nat->Prop
 | .pl _,_,_,_=>False
 | .cat a b,k,p,q=>a.fol k p q\/b.fol (k+a.np) p q\/(a.lst k p/\b.fst (k+a.np) q)
 | .alt a b,k,p,q=>a.fol k p q\/b.fol (k+a.np) p q
 | .opt a,k,p,q=>a.fol k p q
 | .plus a,k,p,q=>a.fol k p q\/(a.lst k p/\a.fst k q)
 | .star a,k,p,q=>a.fol k p q\/(a.lst k p/\a.fst k q)
def Rx.rest:Rx->Nat->Nat->List Nat->Prop
 | .pl _,k,p,v=>p=k/\v=[]
 | .cat a b,k,p,v=>(∃v1 v2,v=v1++v2/\a.rest k p v1/\W b v2)\/b.rest (k+a.np) p v
 | .alt a b,k,p,v=>a.rest k p v\/b.rest (k+a.np) p v
 | .opt a,k,p,v=>a.rest k p v
 | .plus a,k,p,v=>∃v1 v2,v=v1++v2/\a.rest k p v1/\(v2=[]\/uF (W a) v2)
 | .star a,k,p,v=>∃v1 v2,v=v1++v2/\a.rest k p v1/\(v2=[]\/uF (W a) v2)
def Rx.says(A:Nat->Nat->Bool):Rx->Nat->Prop
 | .pl f,k=>∀b,b<256->A k b=f b
 | .cat a b,k=>a.says A k/\b.says A (k+a.np)
 | .alt a b,k=>a.says A k/\b.says A (k+a.np)
 | .opt a,k=>a.says A k
 | .plus a,k=>a.says A k
 | .star a,k=>a.says A k
theorem Rx.np_pos:∀r:Rx,0<r.np
 | .pl _=>PY
 | .cat a b=>by have:=a.np_pos;show 0<a.np+b.np;omega
 | .alt a b=>by have:=a.np_pos;show 0<a.np+b.np;omega
 | .opt a=>a.np_pos
 | .plus a=>a.np_pos
 | .star a=>a.np_pos
theorem Rx.fst_in:∀(r:Rx)(k p:Nat),r.fst k p->k<=p/\p<k+r.np
 | .pl _,k,p,h=>by have h:p=k:=h;show k<=p/\p<k+1;omega
 | .cat a b,k,p,h=>by
  show k<=p/\p<k+(a.np+b.np);rcases h with h|⟨_,h⟩
  ·have:=a.fst_in k p h;omega
  ·have:=b.fst_in _ p h;omega
 | .alt a b,k,p,h=>by
  show k<=p/\p<k+(a.np+b.np);rcases h with h|h
  ·have:=a.fst_in k p h;omega
  ·have:=b.fst_in _ p h;omega
 | .opt a,k,p,h=>a.fst_in k p h
 | .plus a,k,p,h=>a.fst_in k p h
 | .star a,k,p,h=>a.fst_in k p h
theorem Rx.lst_in:∀(r:Rx)(k p:Nat),r.lst k p->k<=p/\p<k+r.np
 | .pl _,k,p,h=>by have h:p=k:=h;show k<=p/\p<k+1;omega
 | .cat a b,k,p,h=>by
  show k<=p/\p<k+(a.np+b.np);rcases h with⟨h,_⟩|h
  ·have:=a.lst_in k p h;omega
  ·have:=b.lst_in _ p h;omega
 | .alt a b,k,p,h=>by
  show k<=p/\p<k+(a.np+b.np);rcases h with h|h
  ·have:=a.lst_in k p h;omega
  ·have:=b.lst_in _ p h;omega
 | .opt a,k,p,h=>a.lst_in k p h
 | .plus a,k,p,h=>a.lst_in k p h
 | .star a,k,p,h=>a.lst_in k p h
theorem Rx.fol_in:∀(r:Rx)(k p q:Nat),r.fol k p q->(k<=p/\p<k+r.np)/\(k<=q/\q<k+r.np)
 | .pl _,k,p,q,h=>False.elim h
 | .cat a b,k,p,q,h=>by
  show(k<=p/\p<k+(a.np+b.np))/\(k<=q/\q<k+(a.np+b.np));rcases h with h|h|⟨h,o⟩
  ·have:=a.fol_in k p q h;omega
  ·have:=b.fol_in _ p q h;omega
  ·have:=a.lst_in k p h;have:=b.fst_in _ q o;omega
 | .alt a b,k,p,q,h=>by
  show(k<=p/\p<k+(a.np+b.np))/\(k<=q/\q<k+(a.np+b.np));rcases h with h|h
  ·have:=a.fol_in k p q h;omega
  ·have:=b.fol_in _ p q h;omega
 | .opt a,k,p,q,h=>a.fol_in k p q h
 | .plus a,k,p,q,h=>by
  rcases h with h|⟨h,o⟩
  ·exact a.fol_in k p q h
  ·exact⟨a.lst_in k p h,a.fst_in k q o⟩
 | .star a,k,p,q,h=>by
  rcases h with h|⟨h,o⟩
  ·exact a.fol_in k p q h
  ·exact⟨a.lst_in k p h,a.fst_in k q o⟩
theorem Rx.rest_in:∀(r:Rx)(k p:Nat)(v:List Nat),r.rest k p v->k<=p/\p<k+r.np
 | .pl _,k,p,v,h=>by have h:p=k:=h.1;show k<=p/\p<k+1;omega
 | .cat a b,k,p,v,h=>by
  show k<=p/\p<k+(a.np+b.np);rcases h with⟨v1,_,_,h,_⟩|h
  ·have:=a.rest_in k p v1 h;omega
  ·have:=b.rest_in _ p v h;omega
 | .alt a b,k,p,v,h=>by
  show k<=p/\p<k+(a.np+b.np);rcases h with h|h
  ·have:=a.rest_in k p v h;omega
  ·have:=b.rest_in _ p v h;omega
 | .opt a,k,p,v,h=>a.rest_in k p v h
 | .plus a,k,p,v,h=>by obtain⟨v1,_,_,h,_⟩:=h;exact a.rest_in k p v1 h
 | .star a,k,p,v,h=>by obtain⟨v1,_,_,h,_⟩:=h;exact a.rest_in k p v1 h
theorem BB{L:List Nat->Prop}:∀{w:List Nat},uF L w->w=[]->L []:=by
 intro w h
 induction h with
 | one h=>intro e;rw[e]at h;exact h
 | more hu _ ih=>intro e;rw[NE]at e;rw[e.1]at hu;exact hu
theorem V8{L:List Nat->Prop}:∀{w:List Nat},uF L w->∀b v,w=b::v->∃v1 v2,v=v1++v2/\L (b::v1)/\(v2=[]\/uF L v2):=by
 intro w h
 induction h with
 | one h=>intro b v e;rw[e]at h;exact⟨v,[],(MT v).symm,h,.inl rfl⟩
 | @more u x hu hx ih=>
  intro b v e
  cases u with
  | nil=>exact ih b v e
  | cons c u'=>
   rw[NF]at e;injection e with o C;subst o;exact⟨u',x,C.symm,hu,.inr hx⟩
theorem Jf{L:List Nat->Prop}(h:L u)(k:v=[]\/uF L v):uF L (u++v):=by
 rcases k with rfl|k
 ·rw[MT];exact .one h
 ·exact .more h k
theorem Rx.nul_iff:∀r:Rx,r.nul=true↔W r []
 | .pl f=>by
  constructor
  ·intro h;cases h
  ·rintro⟨b,h,_⟩;cases h
 | .cat a b=>by
  show(a.nul&&b.nul)=true↔_;rw[NM,a.nul_iff,b.nul_iff];constructor
  ·rintro⟨o,C⟩;exact⟨[],[],rfl,o,C⟩
  ·rintro⟨u,v,e,o,C⟩;have:=NE.1 e.symm;rw[this.1]at o;rw[this.2]at C;exact⟨o,C⟩
 | .alt a b=>by
  show(a.nul||b.nul)=true↔(W a []\/W b []);rw[NJ,a.nul_iff,b.nul_iff]
 | .opt a=>⟨λ _=> .inl rfl,λ _=>rfl⟩
 | .plus a=>by
  show a.nul=true↔uF (W a) [];rw[a.nul_iff];exact⟨λ h=> .one h,λ h=>BB h rfl⟩
 | .star a=>⟨λ _=> .inl rfl,λ _=>rfl⟩
theorem Rx.begins{A:Nat->Nat->Bool}:∀(r:Rx)(k:Nat),r.says A k->∀b v,(W r (b::v)↔∃p,r.fst k p/\b<256/\A p b=true/\r.rest k p v)
 | .pl f,k,hA,b,v=>by
  constructor
  ·rintro⟨c,e,I,F⟩;injection e with U V;subst U;exact⟨k,rfl,I,by rw[hA b I];exact F,rfl,V⟩
  ·rintro⟨p,e,I,F,_,X⟩;have e:p=k:=e;subst e;exact⟨b,by rw[X],I,by rw[<-hA b I];exact F⟩
 | .cat x y,k,hA,b,v=>by
  have J:=x.begins k hA.1 b;have Q:=y.begins (k+x.np) hA.2 b;constructor
  ·rintro⟨u,w,e,I,F⟩
   cases u with
   | nil=>
    rw[OR]at e;rw[<-e]at F;obtain⟨p,a1,C,D,o⟩:=(Q v).1 F;exact⟨p,.inr ⟨x.nul_iff.2 I,a1⟩,C,D,.inr o⟩
   | cons c u'=>
    rw[NF]at e;injection e with U V;subst U;obtain⟨p,a1,C,D,o⟩:=(J u').1 I;exact⟨p,.inl a1,C,D,.inl ⟨u',w,V,o,F⟩⟩
  ·rintro⟨p,a1,C,D,o⟩;rcases o with⟨v1,v2,e,I,F⟩|h
   ·rcases a1 with a1|⟨_,a1⟩
    ·exact⟨b::v1,v2,by rw[e];rfl,(J v1).2 ⟨p,a1,C,D,I⟩,F⟩
    ·exfalso;have:=y.fst_in _ p a1;have:=x.rest_in k p v1 I;omega
   ·rcases a1 with a1|⟨Y,a1⟩
    ·exfalso;have:=x.fst_in _ p a1;have:=y.rest_in _ p v h;omega
    ·exact⟨[],b::v,rfl,x.nul_iff.1 Y,(Q v).2 ⟨p,a1,C,D,h⟩⟩
 | .alt x y,k,hA,b,v=>by
  have J:=x.begins k hA.1 b v;have Q:=y.begins (k+x.np) hA.2 b v;constructor
  ·rintro(h|h)
   ·obtain⟨p,a1,C,D,o⟩:=J.1 h;exact⟨p,.inl a1,C,D,.inl o⟩
   ·obtain⟨p,a1,C,D,o⟩:=Q.1 h;exact⟨p,.inr a1,C,D,.inr o⟩
  ·rintro⟨p,a1,C,D,o⟩;rcases a1 with a1|a1<;>rcases o with o|o
   ·exact .inl (J.2 ⟨p,a1,C,D,o⟩)
   ·exfalso;have:=x.fst_in _ p a1;have:=y.rest_in _ p v o;omega
   ·exfalso;have:=y.fst_in _ p a1;have:=x.rest_in _ p v o;omega
   ·exact .inr (Q.2 ⟨p,a1,C,D,o⟩)
 | .opt x,k,hA,b,v=>by
  have J:=x.begins k hA b v;constructor
  ·rintro(h|h)
   ·cases h
   ·exact J.1 h
  ·intro h;exact .inr (J.2 h)
 | .plus x,k,hA,b,v=>by
  have J:=x.begins k hA b;constructor
  ·intro h;obtain⟨v1,v2,e,I,F⟩:=V8 h b v rfl;obtain⟨p,a1,C,D,o⟩:=(J v1).1 I;exact⟨p,a1,C,D,v1,v2,e,o,F⟩
  ·rintro⟨p,a1,C,D,v1,v2,e,o,F⟩;have:=Jf (L:=W x) ((J v1).2 ⟨p,a1,C,D,o⟩) F;rw[e];exact this
 | .star x,k,hA,b,v=>by
  have J:=x.begins k hA b;constructor
  ·rintro(h|h)
   ·cases h
   ·obtain⟨v1,v2,e,I,F⟩:=V8 h b v rfl;obtain⟨p,a1,C,D,o⟩:=(J v1).1 I;exact⟨p,a1,C,D,v1,v2,e,o,F⟩
  ·rintro⟨p,a1,C,D,v1,v2,e,o,F⟩;have:=Jf (L:=W x) ((J v1).2 ⟨p,a1,C,D,o⟩) F;rw[e];exact .inr this
theorem Rx.ends:∀(r:Rx)(k p:Nat),r.rest k p []↔r.lst k p
 | .pl _,k,p=>⟨λ h=>h.1,λ h=>⟨h,rfl⟩⟩
 | .cat a b,k,p=>by
  constructor
  ·rintro(⟨v1,v2,e,o,C⟩|h)
   ·have D:=NE.1 e.symm;rw[D.1]at o;rw[D.2]at C;exact .inl ⟨(a.ends k p).1 o,b.nul_iff.2 C⟩
   ·exact .inr ((b.ends _ p).1 h)
  ·rintro(⟨o,C⟩|h)
   ·exact .inl ⟨[],[],rfl,(a.ends k p).2 o,b.nul_iff.1 C⟩
   ·exact .inr ((b.ends _ p).2 h)
 | .alt a b,k,p=>by
  constructor
  ·rintro(h|h)
   ·exact .inl ((a.ends k p).1 h)
   ·exact .inr ((b.ends _ p).1 h)
  ·rintro(h|h)
   ·exact .inl ((a.ends k p).2 h)
   ·exact .inr ((b.ends _ p).2 h)
 | .opt a,k,p=>a.ends k p
 | .plus a,k,p=>by
  constructor
  ·rintro⟨v1,v2,e,o,_⟩;rw[(NE.1 e.symm).1]at o;exact(a.ends k p).1 o
  ·intro h;exact⟨[],[],rfl,(a.ends k p).2 h,.inl rfl⟩
 | .star a,k,p=>by
  constructor
  ·rintro⟨v1,v2,e,o,_⟩;rw[(NE.1 e.symm).1]at o;exact(a.ends k p).1 o
  ·intro h;exact⟨[],[],rfl,(a.ends k p).2 h,.inl rfl⟩
theorem Gf{A:Nat->Nat->Bool}(x:Rx)(k:Nat)(U:x.says A k)(V:∀p b v,x.rest k p (b::v)↔∃q,x.fol k p q/\b<256/\A q b=true/\x.rest k q v)(p b:Nat)(v:List Nat):
  (∃v1 v2,b::v=v1++v2/\x.rest k p v1/\(v2=[]\/uF (W x) v2))↔∃q,(x.fol k p q\/(x.lst k p/\x.fst k q))/\b<256/\A q b=true/\∃v1 v2,v=v1++v2/\x.rest k q v1/\(v2=[]\/uF (W x) v2):=by
 constructor
 ·rintro⟨v1,v2,e,Q,o⟩
  cases v1 with
  | nil=>
   rw[OR]at e;rcases o with o|o
   ·rw[o]at e;cases e
   ·obtain⟨w1,w2,I,Y,Z⟩:=V8 o b v e.symm;obtain⟨q,a1,C,D,F⟩:=(x.begins k U b w1).1 Y;exact⟨q,.inr ⟨(x.ends k p).1 Q,a1⟩,C,D,w1,w2,I,F,Z⟩
  | cons c v1'=>
   rw[NF]at e;injection e with X I;subst X;obtain⟨q,a1,C,D,F⟩:=(V p b v1').1 Q;exact⟨q,.inl a1,C,D,v1',v2,I,F,o⟩
 ·rintro⟨q,J,C,D,v1,v2,e,F,o⟩;rcases J with J|⟨hl,hf⟩
  ·exact⟨b::v1,v2,by rw[e];rfl,(V p b v1).2 ⟨q,J,C,D,F⟩,o⟩
  ·refine⟨[],b::v,rfl,(x.ends k p).2 hl,.inr ?_⟩;have:=Jf (L:=W x) ((x.begins k U b v1).2 ⟨q,hf,C,D,F⟩) o;rw[e];exact this
theorem Rx.goes{A:Nat->Nat->Bool}:∀(r:Rx)(k:Nat),r.says A k->∀p b v,(r.rest k p (b::v)↔∃q,r.fol k p q/\b<256/\A q b=true/\r.rest k q v)
 | .pl f,k,_,p,b,v=>by
  constructor
  ·rintro⟨_,h⟩;cases h
  ·rintro⟨q,h,_⟩;exact False.elim h
 | .cat x y,k,hA,p,b,v=>by
  have Q:=x.goes k hA.1 p b;have U:=y.goes (k+x.np) hA.2 p b v;constructor
  ·rintro(⟨v1,v2,e,I,J⟩|h)
   ·cases v1 with
    | nil=>
     rw[OR]at e;rw[<-e]at J;obtain⟨q,a1,D,F,C⟩:=(y.begins _ hA.2 b v).1 J;exact⟨q,.inr (.inr ⟨(x.ends k p).1 I,a1⟩),D,F,.inr C⟩
    | cons c v1'=>
     rw[NF]at e;injection e with V X;subst V;obtain⟨q,a1,D,F,C⟩:=(Q v1').1 I;exact⟨q,.inl a1,D,F,.inl ⟨v1',v2,X,C,J⟩⟩
   ·obtain⟨q,a1,D,F,C⟩:=U.1 h;exact⟨q,.inr (.inl a1),D,F,.inr C⟩
  ·rintro⟨q,o,D,F,C⟩;rcases C with⟨v1,v2,e,I,J⟩|h
   ·have Z:=x.rest_in k q v1 I;rcases o with o|o|⟨_,o⟩
    ·exact .inl ⟨b::v1,v2,by rw[e];rfl,(Q v1).2 ⟨q,o,D,F,I⟩,J⟩
    ·exfalso;have:=(y.fol_in _ p q o).2;omega
    ·exfalso;have:=y.fst_in _ q o;omega
   ·have aL:=y.rest_in _ q v h;rcases o with o|o|⟨Y,o⟩
    ·exfalso;have:=(x.fol_in _ p q o).2;omega
    ·exact .inr (U.2 ⟨q,o,D,F,h⟩)
    ·exact .inl ⟨[],b::v,rfl,(x.ends k p).2 Y,(y.begins _ hA.2 b v).2 ⟨q,o,D,F,h⟩⟩
 | .alt x y,k,hA,p,b,v=>by
  have Q:=x.goes k hA.1 p b v;have U:=y.goes (k+x.np) hA.2 p b v;constructor
  ·rintro(h|h)
   ·obtain⟨q,a1,D,F,C⟩:=Q.1 h;exact⟨q,.inl a1,D,F,.inl C⟩
   ·obtain⟨q,a1,D,F,C⟩:=U.1 h;exact⟨q,.inr a1,D,F,.inr C⟩
  ·rintro⟨q,o,D,F,C⟩;rcases o with o|o<;>rcases C with C|C
   ·exact .inl (Q.2 ⟨q,o,D,F,C⟩)
   ·exfalso;have:=(x.fol_in _ p q o).2;have:=y.rest_in _ q v C;omega
   ·exfalso;have:=(y.fol_in _ p q o).2;have:=x.rest_in _ q v C;omega
   ·exact .inr (U.2 ⟨q,o,D,F,C⟩)
 | .opt x,k,hA,p,b,v=>x.goes k hA p b v
 | .plus x,k,hA,p,b,v=>Gf x k hA (x.goes k hA) p b v
 | .star x,k,hA,p,b,v=>Gf x k hA (x.goes k hA) p b v
theorem Rx.word{A:Nat->Nat->Bool}:∀(r:Rx)(k:Nat),r.says A k->(∀p,k<=p->p<k+r.np->∃b,b<256/\A p b=true)->∃w,W r w
 | .pl f,k,hA,h=>by
  obtain⟨b,o,D⟩:=h k lR (by show k<k+1;omega);exact⟨[b],b,rfl,o,by rw[<-hA b o];exact D⟩
 | .cat x y,k,hA,h=>by
  obtain⟨u,C⟩:=x.word k hA.1 (λ p o D=>h p o (by show p<k+(x.np+y.np);omega));obtain⟨v,F⟩:=y.word (k+x.np) hA.2 (λ p o D=>h p (by omega) (by show p<k+(x.np+y.np);omega));exact⟨u++v,u,v,rfl,C,F⟩
 | .alt x y,k,hA,h=>by
  obtain⟨u,C⟩:=x.word k hA.1 (λ p o D=>h p o (by show p<k+(x.np+y.np);omega));exact⟨u,.inl C⟩
 | .opt x,_,_,_=>⟨[],.inl rfl⟩
 | .plus x,k,hA,h=>by
  obtain⟨u,C⟩:=x.word k hA h;exact⟨u,.one C⟩
 | .star x,_,_,_=>⟨[],.inl rfl⟩
theorem Rx.alive{A:Nat->Nat->Bool}:∀(r:Rx)(k:Nat),r.says A k->(∀p,k<=p->p<k+r.np->∃b,b<256/\A p b=true)->∀p,k<=p->p<k+r.np->∃v,r.rest k p v
 | .pl f,k,_,_,p,C,o=>by
  have o:p<k+1:=o;exact⟨[],by show p=k;omega,rfl⟩
 | .cat x y,k,hA,h,p,C,o=>by
  have o:p<k+(x.np+y.np):=o;by_cases e:p<k+x.np
  ·obtain⟨v1,F⟩:=x.alive k hA.1 (λ p C o=>h p C (by show p<k+(x.np+y.np);omega)) p C e;obtain⟨v2,I⟩:=y.word (k+x.np) hA.2 (λ p C o=>h p (by omega) (by show p<k+(x.np+y.np);omega));exact⟨v1++v2,.inl ⟨v1,v2,rfl,F,I⟩⟩
  ·obtain⟨v,D⟩:=y.alive (k+x.np) hA.2 (λ p C o=>h p (by omega) (by show p<k+(x.np+y.np);omega)) p (by omega) (by omega);exact⟨v,.inr D⟩
 | .alt x y,k,hA,h,p,C,o=>by
  have o:p<k+(x.np+y.np):=o;by_cases e:p<k+x.np
  ·obtain⟨v,D⟩:=x.alive k hA.1 (λ p C o=>h p C (by show p<k+(x.np+y.np);omega)) p C e;exact⟨v,.inl D⟩
  ·obtain⟨v,D⟩:=y.alive (k+x.np) hA.2 (λ p C o=>h p (by omega) (by show p<k+(x.np+y.np);omega)) p (by omega) (by omega);exact⟨v,.inr D⟩
 | .opt x,k,hA,h,p,C,o=>x.alive k hA h p C o
 | .plus x,k,hA,h,p,C,o=>by
  obtain⟨v,D⟩:=x.alive k hA h p C o;exact⟨v,v,[],(MT v).symm,D,.inl rfl⟩
 | .star x,k,hA,h,p,C,o=>by
  obtain⟨v,D⟩:=x.alive k hA h p C o;exact⟨v,v,[],(MT v).symm,D,.inl rfl⟩
theorem Rx.rest_lets{A:Nat->Nat->Bool}(r:Rx)(k:Nat)(o:r.says A k):∀(v:List Nat)(p:Nat),r.rest k p v->∀b∈v,b<256
 | [],_,_,b,hb=>absurd hb LY
 | c::v,p,h,b,hb=>by
  obtain⟨q,_,C,_,D⟩:=(r.goes k o p c v).1 h;rcases NR.1 hb with e|e
  ·rw[e];exact C
  ·exact Rx.rest_lets r k o v q D b e
def Rx.sz:Rx->Nat
 | .pl _=>1
 | .cat a b=>a.sz+b.sz+1
 | .alt a b=>a.sz+b.sz+1
 | .opt a=>a.sz+1
 | .plus a=>a.sz+1
 | .star a=>a.sz+1
theorem Rx.sz_pos:∀r:Rx,0<r.sz
 | .pl _=>PY
 | .cat _ _=>OJ _
 | .alt _ _=>OJ _
 | .opt _=>OJ _
 | .plus _=>OJ _
 | .star _=>OJ _
def Rx.flat:Rx->Nat->Nat->List (Int×Int×Int)
 | .pl _,_,pb=>[(0,(pb:Int),0)]
 | .cat a b,nb,pb=>a.flat nb pb++(b.flat (nb+a.sz) (pb+a.np)++[(1,((nb+a.sz-1:Nat):Int),((nb+a.sz+b.sz-1:Nat):Int))])
 | .alt a b,nb,pb=>a.flat nb pb++(b.flat (nb+a.sz) (pb+a.np)++[(2,((nb+a.sz-1:Nat):Int),((nb+a.sz+b.sz-1:Nat):Int))])
 | .opt a,nb,pb=>a.flat nb pb++[(3,((nb+a.sz-1:Nat):Int),0)]
 | .plus a,nb,pb=>a.flat nb pb++[(4,((nb+a.sz-1:Nat):Int),0)]
 | .star a,nb,pb=>a.flat nb pb++[(5,((nb+a.sz-1:Nat):Int),0)]
theorem Rx.flat_len:∀(r:Rx)(nb pb:Nat),(r.flat nb pb).length=r.sz
 | .pl _,_,_=>rfl
 | .cat a b,nb,pb=>by simp[Rx.flat,Rx.sz,a.flat_len,b.flat_len];omega
 | .alt a b,nb,pb=>by simp[Rx.flat,Rx.sz,a.flat_len,b.flat_len];omega
 | .opt a,nb,pb=>by simp[Rx.flat,Rx.sz,a.flat_len]
 | .plus a,nb,pb=>by simp[Rx.flat,Rx.sz,a.flat_len]
 | .star a,nb,pb=>by simp[Rx.flat,Rx.sz,a.flat_len]
structure wG(x:qM)(r:Rx)(pb:Nat):Prop where
 s1:jA x.1
 s2:jA x.2.1
 f:∀p,nO x.1 p=true↔r.fst pb p
 l:∀p,nO x.2.1 p=true↔r.lst pb p
 n:x.2.2=r.nul
structure JB(aG next1:Nat->Int)(r:Rx)(pb:Nat):Prop where
 s:∀p,jA (next1 p)
 f:∀p q,nO (next1 p) q=true↔(nO (aG p) q=true\/r.fol pb p q)
theorem U8{aG:Nat->Int}(hn:∀p,jA (aG p))(o:jA ds)(p:Nat):jA (rR aG fr ds p):=by
 unfold rR xL;split
 ·exact uK (hn p) o
 ·exact hn p
theorem Da{aG:Nat->Int}(hn:∀p,jA (aG p))(D:jA fr)(F:jA ds)(p q:Nat):nO (rR aG fr ds p) q=true↔(nO (aG p) q=true\/(nO fr p=true/\nO ds q=true)):=by
 unfold rR xL;by_cases o:p<10
 ·have C:=Ic D o;by_cases e:nQ fr (sO p)≠0
  ·rw[aB ⟨o,e⟩,vA (hn p) F,NJ];have:nO fr p=true:=by
    cases h:nO fr p with
    | true=>rfl
    | false=>exact absurd (C.2 h) e
   simp[this]
  ·rw[aA (λ h=>e h.2)];have:nO fr p=false:=C.1 (Classical.not_not.1 e);simp[this]
 ·rw[aA (λ h=>o h.1)];have:=Tk D (p:=p) (by omega);simp[this]
theorem uL:∀(r:Rx)(nb pb:Nat)(l:List (Int×Int×Int)) (ps:Nat->qM) (aG:Nat->Int),pb+r.np<=10->(∀p,jA (aG p))->
  ∃o Q,jJ (r.flat nb pb++l) nb ps aG=jJ l (nb+r.sz) o Q/\(∀i,i<nb->o i=ps i)/\wG (o (nb+r.sz-1)) r pb/\JB aG Q r pb
 | .pl f,nb,pb,l,ps,aG,J,hn=>by
  have J:pb+1<=10:=J;refine⟨_,_,rfl,λ i hi=>aA (by omega),?_,?_⟩
  ·show wG (if nb+1-1=nb then(oU ps (0,(pb:Int),0) aG).1 else ps (nb+1-1)) (.pl f) pb;rw[aB (by omega)];have e:(oU ps (0,(pb:Int),0) aG).1=(sO pb,sO pb,false):=by
    unfold oU oR;simp
   rw[e];exact⟨tQ (by omega),tQ (by omega),λ p=>by simp only[E9,aE];exact eq_comm,λ p=>by simp only[E9,aE];exact eq_comm,rfl⟩
  ·have e:(oU ps (0,(pb:Int),0) aG).2=aG:=by unfold oU oR;simp
   rw[e];exact⟨hn,λ p q=>⟨λ h=> .inl h,λ h=>h.elim id False.elim⟩⟩
 | .cat a b,nb,pb,l,ps,aG,J,hn=>by
  have J:pb+(a.np+b.np)<=10:=J;have ha:=a.sz_pos;have hb:=b.sz_pos;obtain⟨o,n1,U,X,D,I⟩:=uL a nb pb (b.flat (nb+a.sz) (pb+a.np)++([(1,((nb+a.sz-1:Nat):Int),((nb+a.sz+b.sz-1:Nat):Int))]++l)) ps aG (by omega) hn;obtain⟨C,n2,e2,Z,F,Y⟩:=uL b (nb+a.sz) (pb+a.np) ([(1,((nb+a.sz-1:Nat):Int),((nb+a.sz+b.sz-1:Nat):Int))]++l) o n1 (by omega) I.s;rw[<-Z (nb+a.sz-1) (by omega)]at D;have V:oU C (1,((nb+a.sz-1:Nat):Int),((nb+a.sz+b.sz-1:Nat):Int)) n2=(zA (C (nb+a.sz-1)) (C (nb+a.sz+b.sz-1)),rR n2 (C (nb+a.sz-1)).2.1 (C (nb+a.sz+b.sz-1)).1):=by
   unfold oU oR;simp
  refine⟨λ i=>if i=nb+a.sz+b.sz then zA (C (nb+a.sz-1)) (C (nb+a.sz+b.sz-1))else C i,rR n2 (C (nb+a.sz-1)).2.1 (C (nb+a.sz+b.sz-1)).1,?_,λ i hi=>?_,?_,?_⟩
  ·show jJ ((a.flat nb pb++(b.flat (nb+a.sz) (pb+a.np)++[_]))++l) nb ps aG=_;rw[LQ,LQ,U,e2,NI,jJ,V];show _=jJ l (nb+(a.sz+b.sz+1)) _ _;rw[show nb+(a.sz+b.sz+1)=nb+a.sz+b.sz+1 by omega]
  ·simp only;rw[aA (by omega),Z i (by omega),X i hi]
  ·show wG (if nb+(a.sz+b.sz+1)-1=nb+a.sz+b.sz then _ else _) (.cat a b) pb;rw[aB (by omega)];generalize C (nb+a.sz-1)=x at*;generalize C (nb+a.sz+b.sz-1)=y at*;unfold zA;refine⟨?_,?_,λ p=>?_,λ p=>?_,?_⟩
   ·simp only;split
    ·exact uK D.s1 F.s1
    ·exact D.s1
   ·simp only;split
    ·exact uK F.s2 D.s2
    ·exact F.s2
   ·show _↔(a.fst pb p\/(a.nul=true/\b.fst (pb+a.np) p));simp only;rw[<-D.n,<-D.f,<-F.f];split
    ·rename_i h;rw[vA D.s1 F.s1,NJ];simp[h]
    ·rename_i h;simp[h]
   ·show _↔((a.lst pb p/\b.nul=true)\/b.lst (pb+a.np) p);simp only;rw[<-F.n,<-D.l,<-F.l];split
    ·rename_i h;rw[vA F.s2 D.s2,NJ];simp[h,or_comm]
    ·rename_i h;simp[h]
   ·show(x.2.2&&y.2.2)=(a.nul&&b.nul);rw[D.n,F.n]
  ·refine⟨U8 Y.s F.s1,λ p q=>?_⟩;rw[Da Y.s D.s2 F.s1,Y.f,I.f,D.l,F.f];show _↔(_\/(a.fol pb p q\/b.fol (pb+a.np) p q\/(a.lst pb p/\b.fst (pb+a.np) q)));simp only[or_assoc]
 | .alt a b,nb,pb,l,ps,aG,J,hn=>by
  have J:pb+(a.np+b.np)<=10:=J;have ha:=a.sz_pos;have hb:=b.sz_pos;obtain⟨o,n1,U,X,D,I⟩:=uL a nb pb (b.flat (nb+a.sz) (pb+a.np)++([(2,((nb+a.sz-1:Nat):Int),((nb+a.sz+b.sz-1:Nat):Int))]++l)) ps aG (by omega) hn;obtain⟨C,n2,e2,Z,F,Y⟩:=uL b (nb+a.sz) (pb+a.np) ([(2,((nb+a.sz-1:Nat):Int),((nb+a.sz+b.sz-1:Nat):Int))]++l) o n1 (by omega) I.s;rw[<-Z (nb+a.sz-1) (by omega)]at D;have V:oU C (2,((nb+a.sz-1:Nat):Int),((nb+a.sz+b.sz-1:Nat):Int)) n2=((Ad (C (nb+a.sz-1)).1 (C (nb+a.sz+b.sz-1)).1,Ad (C (nb+a.sz-1)).2.1 (C (nb+a.sz+b.sz-1)).2.1,(C (nb+a.sz-1)).2.2||(C (nb+a.sz+b.sz-1)).2.2),n2):=by
   unfold oU oR;simp
  refine⟨λ i=>if i=nb+a.sz+b.sz then(Ad (C (nb+a.sz-1)).1 (C (nb+a.sz+b.sz-1)).1,Ad (C (nb+a.sz-1)).2.1 (C (nb+a.sz+b.sz-1)).2.1,(C (nb+a.sz-1)).2.2||(C (nb+a.sz+b.sz-1)).2.2)else C i,n2,?_,λ i hi=>?_,?_,?_⟩
  ·show jJ ((a.flat nb pb++(b.flat (nb+a.sz) (pb+a.np)++[_]))++l) nb ps aG=_;rw[LQ,LQ,U,e2,NI,jJ,V];show _=jJ l (nb+(a.sz+b.sz+1)) _ _;rw[show nb+(a.sz+b.sz+1)=nb+a.sz+b.sz+1 by omega]
  ·simp only;rw[aA (by omega),Z i (by omega),X i hi]
  ·show wG (if nb+(a.sz+b.sz+1)-1=nb+a.sz+b.sz then _ else _) (.alt a b) pb;rw[aB (by omega)];generalize C (nb+a.sz-1)=x at*;generalize C (nb+a.sz+b.sz-1)=y at*;refine⟨uK D.s1 F.s1,uK D.s2 F.s2,λ p=>?_,λ p=>?_,?_⟩
   ·show _↔(a.fst pb p\/b.fst (pb+a.np) p);simp only;rw[<-D.f,<-F.f,vA D.s1 F.s1,NJ]
   ·show _↔(a.lst pb p\/b.lst (pb+a.np) p);simp only;rw[<-D.l,<-F.l,vA D.s2 F.s2,NJ]
   ·show(x.2.2||y.2.2)=(a.nul||b.nul);rw[D.n,F.n]
  ·refine⟨Y.s,λ p q=>?_⟩;rw[Y.f,I.f];show _↔(_\/(a.fol pb p q\/b.fol (pb+a.np) p q));simp only[or_assoc]
 | .opt a,nb,pb,l,ps,aG,J,hn=>by
  have ha:=a.sz_pos;obtain⟨o,n1,U,X,D,I⟩:=uL a nb pb ([(3,((nb+a.sz-1:Nat):Int),0)]++l) ps aG J hn;have V:oU o (3,((nb+a.sz-1:Nat):Int),0) n1=(((o (nb+a.sz-1)).1,(o (nb+a.sz-1)).2.1,true),n1):=by
   unfold oU oR;simp
  refine⟨λ i=>if i=nb+a.sz then((o (nb+a.sz-1)).1,(o (nb+a.sz-1)).2.1,true)else o i,n1,?_,λ i hi=>?_,?_,⟨I.s,I.f⟩⟩
  ·show jJ ((a.flat nb pb++[_])++l) nb ps aG=jJ l (nb+(a.sz+1)) _ _;rw[LQ,U,NI,jJ,V]
   rfl
  ·simp only;rw[aA (by omega),X i hi]
  ·show wG (if nb+(a.sz+1)-1=nb+a.sz then _ else _) (.opt a) pb;rw[aB (by omega)];exact⟨D.s1,D.s2,D.f,D.l,rfl⟩
 | .plus a,nb,pb,l,ps,aG,J,hn=>by
  have ha:=a.sz_pos;obtain⟨o,n1,U,X,D,I⟩:=uL a nb pb ([(4,((nb+a.sz-1:Nat):Int),0)]++l) ps aG J hn;have V:oU o (4,((nb+a.sz-1:Nat):Int),0) n1=(o (nb+a.sz-1),rR n1 (o (nb+a.sz-1)).2.1 (o (nb+a.sz-1)).1):=by
   unfold oU oR;simp
  refine⟨λ i=>if i=nb+a.sz then o (nb+a.sz-1)else o i,rR n1 (o (nb+a.sz-1)).2.1 (o (nb+a.sz-1)).1,?_,λ i hi=>?_,?_,?_⟩
  ·show jJ ((a.flat nb pb++[_])++l) nb ps aG=jJ l (nb+(a.sz+1)) _ _;rw[LQ,U,NI,jJ,V]
   rfl
  ·simp only;rw[aA (by omega),X i hi]
  ·show wG (if nb+(a.sz+1)-1=nb+a.sz then _ else _) (.plus a) pb;rw[aB (by omega)];exact⟨D.s1,D.s2,D.f,D.l,D.n⟩
  ·refine⟨U8 I.s D.s1,λ p q=>?_⟩;rw[Da I.s D.s2 D.s1,I.f,D.l,D.f];show _↔(_\/(a.fol pb p q\/(a.lst pb p/\a.fst pb q)));simp only[or_assoc]
 | .star a,nb,pb,l,ps,aG,J,hn=>by
  have ha:=a.sz_pos;obtain⟨o,n1,U,X,D,I⟩:=uL a nb pb ([(5,((nb+a.sz-1:Nat):Int),0)]++l) ps aG J hn;have V:oU o (5,((nb+a.sz-1:Nat):Int),0) n1=(((o (nb+a.sz-1)).1,(o (nb+a.sz-1)).2.1,true),rR n1 (o (nb+a.sz-1)).2.1 (o (nb+a.sz-1)).1):=by
   unfold oU oR;simp
  refine⟨λ i=>if i=nb+a.sz then((o (nb+a.sz-1)).1,(o (nb+a.sz-1)).2.1,true)else o i,rR n1 (o (nb+a.sz-1)).2.1 (o (nb+a.sz-1)).1,?_,λ i hi=>?_,?_,?_⟩
  ·show jJ ((a.flat nb pb++[_])++l) nb ps aG=jJ l (nb+(a.sz+1)) _ _;rw[LQ,U,NI,jJ,V]
   rfl
  ·simp only;rw[aA (by omega),X i hi]
  ·show wG (if nb+(a.sz+1)-1=nb+a.sz then _ else _) (.star a) pb;rw[aB (by omega)];exact⟨D.s1,D.s2,D.f,D.l,rfl⟩
  ·refine⟨U8 I.s D.s1,λ p q=>?_⟩;rw[Da I.s D.s2 D.s1,I.f,D.l,D.f];show _↔(_\/(a.fol pb p q\/(a.lst pb p/\a.fst pb q)));simp only[or_assoc]
def Rx.fns:Rx->List (Nat->Bool)
 | .pl f=>[f]
 | .cat a b=>a.fns++b.fns
 | .alt a b=>a.fns++b.fns
 | .opt a=>a.fns
 | .plus a=>a.fns
 | .star a=>a.fns
theorem Rx.fns_len:∀r:Rx,r.fns.length=r.np
 | .pl _=>rfl
 | .cat a b=>by show(a.fns++b.fns).length=a.np+b.np;rw[LK,a.fns_len,b.fns_len]
 | .alt a b=>by show(a.fns++b.fns).length=a.np+b.np;rw[LK,a.fns_len,b.fns_len]
 | .opt a=>a.fns_len
 | .plus a=>a.fns_len
 | .star a=>a.fns_len
def kU(t:tB)(b:Int)(a:Nat):Bool:=decide (gF t a=b)
def J3(t:tB)(a:Nat):Option (Int×Nat):=
 if kU t 110 a=true then some (10,a+1)
 else if kU t 115 a=true then some (32,a+1)
 else if nT (gF t a)=true/\Ff (gF t a)=false then some (gF t a,a+1)
 else none
def jK(t sp:tB)(a:Nat):Option (Int×Nat):=
 if kU t 92 a=true then J3 t (a+1)
 else if kV (gF t a) sp=true then some (gF t a,a+1)
 else none
def jQ(t:tB)(f:Nat->Bool)(a:Nat):Option ((Nat->Bool)×Nat):=
 match jK t kJ a with
 | none=>none
 | some (x,a1)=>if kU t 45 a1=false then some (jI f x x,a1)else
  match jK t kJ (a1+1)with
  | none=>none
  | some (y,a2)=>if y<x then none else some (jI f x y,a2)
def lL(t:tB):Nat->(Nat->Bool)->Nat->Option ((Nat->Bool)×Nat)
 | 0,_,_=>none
 | n+1,f,a=>if kU t 93 a=true then some (f,a+1)else
  match jQ t f a with
  | none=>none
  | some (g,a1)=>lL t n g a1
def qD(t:tB)(a:Nat):Option ((Nat->Bool)×Nat):=
 match jQ t gK a with
 | none=>none
 | some (f,a1)=>lL t (t.size+1) f a1
def L4(t:tB)(a:Nat):Option ((Nat->Bool)×Nat):=
 if kU t 94 a=true then
  match qD t (a+1)with
  | none=>none
  | some (f,a1)=>some ((λ i=> !(f i)),a1)
 else qD t a
def jC(t:tB)(a:Nat):Option ((Nat->Bool)×Nat):=
 if kU t 91 a=true then L4 t (a+1)
 else if kU t 46 a=true then some ((λ i=> !(gK i)),a+1)
 else match jK t kK a with
  | none=>none
  | some (x,a1)=>some (jI gK x x,a1)
def lY(t:tB)(a:Nat):Bool:=
 decide (gF t a=40\/gF t a=91\/gF t a=46\/gF t a=92)||kV (gF t a) kK
def lZ(t:tB)(ex:Nat->Option (Rx×Nat))(a:Nat):Option (Rx×Nat):=
 if kU t 40 a=true then
  match ex (a+1)with
  | none=>none
  | some (r,a1)=>if kU t 41 a1=true then some (r,a1+1)else none
 else match jC t a with
  | none=>none
  | some (f,a1)=>some (.pl f,a1)
def P8(k:Int)(r:Rx):Rx:=if k=3 then .opt r else if k=4 then .plus r else .star r
def iZ(t:tB)(ex:Nat->Option (Rx×Nat))(a:Nat):Option (Rx×Nat):=
 match lZ t ex a with
 | none=>none
 | some (r,a1)=>if mD (gF t a1)=0 then some (r,a1)else some (P8 (mD (gF t a1)) r,a1+1)
def lX(t:tB)(ex:Nat->Option (Rx×Nat)):Nat->Rx->Nat->Option (Rx×Nat)
 | 0,_,_=>none
 | n+1,r,a=>if lY t a=false then some (r,a)else
  match iZ t ex a with
  | none=>none
  | some (r2,a2)=>lX t ex n (.cat r r2) a2
def vJ(t:tB)(ex:Nat->Option (Rx×Nat))(a:Nat):Option (Rx×Nat):=
 match iZ t ex a with
 | none=>none
 | some (r,a1)=>lX t ex (t.size+1) r a1
def kN(t:tB)(ex:Nat->Option (Rx×Nat)):Nat->Rx->Nat->Option (Rx×Nat)
 | 0,_,_=>none
 | n+1,r,a=>if kU t 124 a=false then some (r,a)else
  match vJ t ex (a+1)with
  | none=>none
  | some (r2,a2)=>kN t ex n (.alt r r2) a2
def kO(t:tB):Nat->Nat->Option (Rx×Nat)
 | 0,_=>none
 | f+1,a=>match vJ t (kO t f) a with
  | none=>none
  | some (r,a1)=>kN t (kO t f) (t.size+1) r a1
def vK(st:gS)(a:Nat):gS:= {st with at_:=a}
def lW(st:gS)(r:Rx)(a:Nat):gS:=⟨a,st.aX,st.aV++r.flat st.aV.length st.aW.length,st.aW++r.fns⟩
def Zv(p:Int×Bool×gS)(st:gS):Option (Int×Nat)->Prop
 | none=>p.2.1=false
 | some (x,a)=>p=(x,true,vK st a)
def Ob(p:(Nat->Bool)×Bool×gS)(st:gS):Option ((Nat->Bool)×Nat)->Prop
 | none=>p.2.1=false
 | some (x,a)=>p=(x,true,vK st a)
def Oc(p:Int×Bool×gS)(st:gS):Option (Rx×Nat)->Prop
 | none=>p.2.1=false
 | some (r,a)=>p=(((st.aV.length+r.sz-1:Nat):Int),true,lW st r a)
theorem qA(t:tB)(b:Int)(st:gS):gG t b st=kU t b st.at_:=by
 rw[Bool.eq_iff_iff];exact Iff.rfl
theorem Sz(st:gS):iO st=vK st (st.at_+1):=rfl
theorem EK(t:tB)(st:gS):Zv (uH t st) st (J3 t st.at_):=by
 unfold uH J3;simp only[qA,Sz];split
 ·rfl
 ·split
  ·rfl
  ·split
   ·rfl
   ·rfl
theorem L7(t sp:tB)(st:gS):Zv (gC t sp st) st (jK t sp st.at_):=by
 unfold gC jK;simp only[qA,Sz];split
 ·have:=EK t (vK st (st.at_+1));show Zv _ _ (J3 t (vK st (st.at_+1)).at_)
  cases h:J3 t (vK st (st.at_+1)).at_ with
  | none=>rw[h]at this;exact this
  | some x=>rw[h]at this;exact this
 ·split
  ·rfl
  ·rfl
theorem Cy(t:tB)(f:Nat->Bool)(st:gS):Ob (gY t f st) st (jQ t f st.at_):=by
 have o:=L7 t kJ st;unfold jQ
 cases e1:jK t kJ st.at_ with
 | none=>
  rw[e1]at o;obtain⟨b,F,X,I⟩:∃b F s,gC t kJ st=(b,F,s):=⟨_,_,_,rfl⟩
  have U:F=false:=by have:(gC t kJ st).2.1=false:=o;rw[I]at this;exact this
  subst U;show(gY t f st).2.1=false;rw[uN I]
 | some y=>
  obtain⟨x,a1⟩:=y;rw[e1]at o;have o:gC t kJ st=(x,true,vK st a1):=o;simp only;by_cases J:kU t 45 a1=false
  ·rw[aB J];exact uO o J
  ·rw[aA J];have D:gG t 45 (vK st a1)=true:=by
    have:kU t 45 a1=true:=by simpa using J
    exact this
   have C:=L7 t kJ (iO (vK st a1));rw[show(iO (vK st a1)).at_=a1+1 from rfl]at C
   cases e3:jK t kJ (a1+1)with
   | none=>
    rw[e3]at C;obtain⟨b,F,X,I⟩:∃b F s,gC t kJ (iO (vK st a1))=(b,F,s):=⟨_,_,_,rfl⟩
    have U:F=false:=by have:(gC t kJ (iO (vK st a1))).2.1=false:=C;rw[I]at this;exact this
    show(gY t f st).2.1=false;rw[pZ o D I (.inl U)]
   | some z=>
    obtain⟨y,V⟩:=z;rw[e3]at C;have C:gC t kJ (iO (vK st a1))=(y,true,vK st V):=C;simp only;by_cases Q:y<x
    ·rw[aB Q];show(gY t f st).2.1=false;rw[pZ o D C (.inr Q)]
    ·rw[aA Q];exact uP o D C Q
theorem Nk(t:tB):∀(n:Nat)(f:Nat->Bool)(st:gS),Ob (mZ t n f true st) st (lL t n f st.at_):=by
 intro n
 induction n with
 | zero=>intro f st;rfl
 | succ k ih=>
  intro f st;rw[lL];by_cases h:kU t 93 st.at_=true
  ·rw[aB h,R8 h];rfl
  ·rw[aA h,R9 (by simpa[qA]using h)];have o:=Cy t f st
   cases e:jQ t f st.at_ with
   | none=>
    rw[e]at o;have o:(gY t f st).2.1=false:=o;show(mZ t k (gY t f st).1 (gY t f st).2.1 (gY t f st).2.2).2.1=false;rw[o,yA]
   | some y=>
    obtain⟨g,a1⟩:=y;rw[e]at o;have o:gY t f st=(g,true,vK st a1):=o;rw[o];have:=ih g (vK st a1);rw[show(vK st a1).at_=a1 from rfl]at this;simp only
    cases e2:lL t k g a1 with
    | none=>rw[e2]at this;exact this
    | some z=>rw[e2]at this;exact this
theorem Nm(t:tB)(st:gS):Ob (rW t st) st (qD t st.at_):=by
 unfold rW qD;have o:=Cy t gK st
 cases e:jQ t gK st.at_ with
 | none=>
  rw[e]at o;have o:(gY t gK st).2.1=false:=o;show(mZ t (t.size+1) _ (gY t gK st).2.1 _).2.1=false;rw[o,yA]
 | some y=>
  obtain⟨g,a1⟩:=y;rw[e]at o;have o:gY t gK st=(g,true,vK st a1):=o;rw[o];have:=Nk t (t.size+1) g (vK st a1);rw[show(vK st a1).at_=a1 from rfl]at this;simp only
  cases e2:lL t (t.size+1) g a1 with
  | none=>rw[e2]at this;exact this
  | some z=>rw[e2]at this;exact this
theorem GN(t:tB)(st:gS):Ob (rH t st) st (L4 t st.at_):=by
 unfold rH L4;simp only[qA];by_cases h:kU t 94 st.at_=true
 ·have o:=Nm t (iO st);rw[aB h,aB h];rw[show(iO st).at_=st.at_+1 from rfl]at o
  cases e:qD t (st.at_+1)with
  | none=>
   rw[e]at o;have o:(rW t (iO st)).2.1=false:=o;rw[aA (by rw[o];decide)]
   rfl
  | some y=>
   obtain⟨g,a1⟩:=y;rw[e]at o;have o:rW t (iO st)=(g,true,vK st a1):=o;rw[o]
   rfl
 ·have o:=Nm t st;rw[aA h,aA h]
  cases e:qD t st.at_ with
  | none=>
   rw[e]at o;have o:(rW t st).2.1=false:=o;rw[aA (by rw[o];decide)]
   rfl
  | some y=>
   obtain⟨g,a1⟩:=y;rw[e]at o;have o:rW t st=(g,true,vK st a1):=o;rw[o]
   rfl
theorem Kl(t:tB)(st:gS):Ob (hO t st) st (jC t st.at_):=by
 unfold hO jC;simp only[qA];by_cases h:kU t 91 st.at_=true
 ·rw[aB h,aB h];have:=GN t (iO st);rw[show(iO st).at_=st.at_+1 from rfl]at this
  cases e:L4 t (st.at_+1)with
  | none=>rw[e]at this;exact this
  | some y=>rw[e]at this;exact this
 ·rw[aA h,aA h];by_cases C:kU t 46 st.at_=true
  ·rw[aB C,aB C];rfl
  ·rw[aA C,aA C];have o:=L7 t kK st
   cases e:jK t kK st.at_ with
   | none=>
    rw[e]at o;have o:(gC t kK st).2.1=false:=o;rw[aA (by rw[o];decide)]
    rfl
   | some y=>
    obtain⟨x,a1⟩:=y;rw[e]at o;have o:gC t kK st=(x,true,vK st a1):=o;rw[o]
    rfl
theorem Xf(t:tB)(st:gS):Oc (rA t st) st (match jC t st.at_ with
  | none=>none
  | some (f,a1)=>some (.pl f,a1)):=by
 unfold rA;have o:=Kl t st
 cases e:jC t st.at_ with
 | none=>
  rw[e]at o;have o:(hO t st).2.1=false:=o;rw[aA (by rw[o];decide)]
  rfl
 | some y=>
  obtain⟨f,a1⟩:=y;rw[e]at o;have o:hO t st=(f,true,vK st a1):=o;rw[o]
  rfl
def Ut(ex:gS->Int×Bool×gS)(o:Nat->Option (Rx×Nat)):Prop:=∀st,Oc (ex st) st (o st.at_)
theorem d9{t:tB}{ex:gS->Int×Bool×gS}{C:Nat->Option (Rx×Nat)}(h:Ut ex C)(st:gS):Oc (jR t ex st) st (lZ t C st.at_):=by
 unfold jR lZ;simp only[qA];by_cases D:kU t 40 st.at_=true
 ·rw[aB D,aB D];have o:=h (iO st);rw[show(iO st).at_=st.at_+1 from rfl]at o
  cases e:C (st.at_+1)with
  | none=>
   rw[e]at o;have o:(ex (iO st)).2.1=false:=o;rw[aA (by rw[o];simp)]
   rfl
  | some y=>
   obtain⟨r,a1⟩:=y;rw[e]at o;have o:ex (iO st)=(((st.aV.length+r.sz-1:Nat):Int),true,lW (iO st) r a1):=o;rw[o];by_cases F:kU t 41 a1=true
   ·rw[aB ⟨rfl,F⟩];simp only[aB F]
    rfl
   ·rw[aA (λ I=>F I.2)];simp only[aA F]
    rfl
 ·rw[aA D,aA D];exact Xf t st
theorem Ct{p:Int}(h:mD p≠0)(r:Rx)(nb pb:Nat):(P8 (mD p) r).flat nb pb=r.flat nb pb++[(mD p,((nb+r.sz-1:Nat):Int),0)]/\(P8 (mD p) r).sz=r.sz+1/\(P8 (mD p) r).fns=r.fns/\(P8 (mD p) r).np=r.np:=by
 unfold mD at*;unfold P8;split at h
 ·rename_i e;rw[aB e];exact⟨rfl,rfl,rfl,rfl⟩
 ·rename_i e;rw[aA e];split at h
  ·rename_i e;rw[aB e];exact⟨rfl,rfl,rfl,rfl⟩
  ·rename_i e;rw[aA e];split at h
   ·rename_i e;rw[aB e];exact⟨rfl,rfl,rfl,rfl⟩
   ·exact absurd rfl h
theorem Gy{t:tB}{ex:gS->Int×Bool×gS}{C:Nat->Option (Rx×Nat)}(h:Ut ex C)(st:gS):Oc (jE t ex st) st (iZ t C st.at_):=by
 unfold jE iZ;have o:=d9 (t:=t) h st
 cases e:lZ t C st.at_ with
 | none=>
  rw[e]at o;have o:(jR t ex st).2.1=false:=o;rw[aA (by rw[o];decide)]
  rfl
 | some y=>
  obtain⟨r,a1⟩:=y;rw[e]at o;have o:jR t ex st=(((st.aV.length+r.sz-1:Nat):Int),true,lW st r a1):=o;rw[o];rw[aB rfl];simp only;rw[show(lW st r a1).at_=a1 from rfl];by_cases D:mD (gF t a1)=0
  ·rw[aB D,aB D];rfl
  ·rw[aA D,aA D];obtain⟨F,I,J,Q⟩:=Ct D r st.aV.length st.aW.length;show(_,true,rK (mD (gF t a1),_,0) (iO (lW st r a1)))=(_,true,lW st (P8 (mD (gF t a1)) r) (a1+1));unfold lW rK iO;rw[F,I,J];have:=r.sz_pos;simp[Rx.flat_len]
theorem BE(st:gS)(r o:Rx)(a1 C:Nat):rK (1,((st.aV.length+r.sz-1:Nat):Int),(((lW st r a1).aV.length+o.sz-1:Nat):Int)) (lW (lW st r a1) o C)=lW st (.cat r o) C:=by
 unfold lW rK;simp only[gS.mk.injEq,true_and];refine⟨?_,?_⟩
 ·show _=st.aV++(r.flat _ _++(o.flat _ _++[_]));simp only[LK,r.flat_len,r.fns_len,LQ]
 ·show _=st.aW++(r.fns++o.fns);rw[LQ]
theorem BD(st:gS)(r o:Rx)(a1 C:Nat):rK (2,((st.aV.length+r.sz-1:Nat):Int),(((lW st r a1).aV.length+o.sz-1:Nat):Int)) (lW (lW st r a1) o C)=lW st (.alt r o) C:=by
 unfold lW rK;simp only[gS.mk.injEq,true_and];refine⟨?_,?_⟩
 ·show _=st.aV++(r.flat _ _++(o.flat _ _++[_]));simp only[LK,r.flat_len,r.fns_len,LQ]
 ·show _=st.aW++(r.fns++o.fns);rw[LQ]
theorem R4(st:gS)(r:Rx)(a:Nat):(lW st r a).aV.length=st.aV.length+r.sz:=by
 unfold lW;simp[r.flat_len]
theorem Y7(t:tB)(ex:gS->Int×Bool×gS)(n:Nat)(x:Int)(st:gS):(nM t ex n x false st).2.1=false:=by cases n<;>rfl
theorem N9(t:tB)(ex:gS->Int×Bool×gS)(n:Nat)(x:Int)(st:gS):(kE t ex n x false st).2.1=false:=by cases n<;>rfl
theorem Km{t:tB}{ex:gS->Int×Bool×gS}{C:Nat->Option (Rx×Nat)}(h:Ut ex C)(st:gS):∀(n:Nat)(r:Rx)(a:Nat),
  Oc (nM t ex n ((st.aV.length+r.sz-1:Nat):Int) true (lW st r a)) st (lX t C n r a):=by
 intro n
 induction n with
 | zero=>intro r a;rfl
 | succ k ih=>
  intro r a;rw[nM,lX,aA (by decide)];rw[show mS t (lW st r a)=lY t a from rfl];by_cases I:lY t a=false
  ·rw[aB I,aB I];rfl
  ·rw[aA I,aA I];have o:=Gy (t:=t) h (lW st r a);rw[show(lW st r a).at_=a from rfl]at o
   cases e:iZ t C a with
   | none=>
    rw[e]at o;have o:(jE t ex (lW st r a)).2.1=false:=o;rw[o];exact Y7 _ _ _ _ _
   | some y=>
    obtain⟨D,J⟩:=y;rw[e]at o;have o:jE t ex (lW st r a)=((((lW st r a).aV.length+D.sz-1:Nat):Int),true,lW (lW st r a) D J):=o;rw[o];simp only;rw[BE];have F:(lW (lW st r a) D J).aV.length=st.aV.length+(Rx.cat r D).sz-1:=by
     rw[R4,R4];show _=st.aV.length+(r.sz+D.sz+1)-1;omega
    rw[F];exact ih (.cat r D) J
theorem Tb{t:tB}{ex:gS->Int×Bool×gS}{C:Nat->Option (Rx×Nat)}(h:Ut ex C)(st:gS):Oc (mI t ex st) st (vJ t C st.at_):=by
 unfold mI vJ;have o:=Gy (t:=t) h st
 cases e:iZ t C st.at_ with
 | none=>
  rw[e]at o;have o:(jE t ex st).2.1=false:=o;rw[o];exact Y7 _ _ _ _ _
 | some y=>
  obtain⟨r,a1⟩:=y;rw[e]at o;have o:jE t ex st=(((st.aV.length+r.sz-1:Nat):Int),true,lW st r a1):=o;rw[o];exact Km h st _ r a1
theorem Ip{t:tB}{ex:gS->Int×Bool×gS}{D:Nat->Option (Rx×Nat)}(h:Ut ex D)(st:gS):∀(n:Nat)(r:Rx)(a:Nat),
  Oc (kE t ex n ((st.aV.length+r.sz-1:Nat):Int) true (lW st r a)) st (kN t D n r a):=by
 intro n
 induction n with
 | zero=>intro r a;rfl
 | succ k ih=>
  intro r a;rw[kE,kN,aA (by decide)];rw[show gG t 124 (lW st r a)=kU t 124 a from rfl];by_cases J:kU t 124 a=false
  ·rw[aB J,aB J];rfl
  ·rw[aA J,aA J];have o:=Tb (t:=t) h (iO (lW st r a));rw[show(iO (lW st r a)).at_=a+1 from rfl]at o;have Q:∀C F,lW (iO (lW st r a)) C F=lW (lW st r a) C F:=λ _ _=>rfl
   cases e:vJ t D (a+1)with
   | none=>
    rw[e]at o;have o:(mI t ex (iO (lW st r a))).2.1=false:=o;rw[o];exact N9 _ _ _ _ _
   | some y=>
    obtain⟨C,F⟩:=y;rw[e]at o;have o:mI t ex (iO (lW st r a))=((((lW st r a).aV.length+C.sz-1:Nat):Int),true,lW (lW st r a) C F):=o;rw[o];simp only;rw[BD];have I:(lW (lW st r a) C F).aV.length=st.aV.length+(Rx.alt r C).sz-1:=by
     rw[R4,R4];show _=st.aV.length+(r.sz+C.sz+1)-1;omega
    rw[I];exact ih (.alt r C) F
theorem o7(t:tB):∀f,Ut (lG t f) (kO t f):=by
 intro f
 induction f with
 | zero=>intro st;rfl
 | succ k ih=>
  intro st;rw[lG,kO];have o:=Tb (t:=t) ih st
  cases e:vJ t (kO t k) st.at_ with
  | none=>
   rw[e]at o;have o:(mI t (lG t k) st).2.1=false:=o;rw[o];exact N9 _ _ _ _ _
  | some y=>
   obtain⟨r,a1⟩:=y;rw[e]at o;have o:mI t (lG t k) st=(((st.aV.length+r.sz-1:Nat):Int),true,lW st r a1):=o;rw[o];exact Ip ih st _ r a1
structure CM(w:tW)(top cg n K:Nat)(yb:Nat->Nat)(zb:Nat->Nat->Nat)(ns:Nat->Nat)(tk:Nat->Nat->Nat)(nx:Nat->Nat->Nat->Int):Prop where
 cc:∀c,c<n->w.cell? ⟨cg,c,none⟩=some (.slice (some ⟨yb c,0,none⟩) (ns c) (ns c))
 tc:∀c s,c<n->s<ns c->w.cell? ⟨yb c,s*2,none⟩=some (.int .i64 (tk c s))
 nc:∀c s,c<n->s<ns c->w.cell? ⟨yb c,s*2+1,none⟩=some (.slice (some ⟨zb c s,0,none⟩) K K)
 lc:∀c s k,c<n->s<ns c->k<K->w.cell? ⟨zb c s,k,none⟩=some (.int .i64 (nx c s k))
 b0:cg<top
 b1:∀c,c<n->yb c<top
 b2:∀c s,c<n->s<ns c->zb c s<top
theorem CM.below{w w':tW}{yb:Nat->Nat}{zb:Nat->Nat->Nat}{ns:Nat->Nat}{tk:Nat->Nat->Nat}{nx:Nat->Nat->Nat->Int}(h:CM w top cg n K yb zb ns tk nx)(D:Below B w w')(F:top<=B):CM w' top cg n K yb zb ns tk nx:=
 ⟨λ c o=>(D.cell (p:=⟨cg,c,none⟩) (LP h.b0 F)).trans (h.cc c o),λ c s o C=>(D.cell (p:=⟨yb c,s*2,none⟩) (LP (h.b1 c o) F)).trans (h.tc c s o C),λ c s o C=>(D.cell (p:=⟨yb c,s*2+1,none⟩) (LP (h.b1 c o) F)).trans (h.nc c s o C),
  λ c s k o C I=>(D.cell (p:=⟨zb c s,k,none⟩) (LP (h.b2 c s o C) F)).trans (h.lc c s k o C I),h.b0,h.b1,h.b2⟩
def mJ(ns:Nat->Nat)(nx:Nat->Nat->Nat->Int)(n g h:Nat):Bool:=decide (∀c,c<n->∀s,s<ns c->nx c s g=nx c s h)
theorem GD{ns:Nat->Nat}{nx:Nat->Nat->Nat->Int}{n g h c s:Nat}(C:c<n)(D:s<ns c)(o:nx c s g≠nx c s h):mJ ns nx n g h=false:=by
 unfold mJ;rw[aF];intro q;exact o (q c C s D)
theorem Dy{ns:Nat->Nat}{nx:Nat->Nat->Nat->Int}(o:∀c,c<n->∀s,s<ns c->nx c s g=nx c s h):mJ ns nx n g h=true:=by
 unfold mJ;rw[aE];exact o
def H7(x:Int):Nat:=if x= -1 then 255 else x.toNat%256
def uV(q:Nat->Nat->Bool):Nat->Nat->List Nat->List Nat->List Nat×List Nat
 | 0,_,aK,aN=>(aK,aN)
 | d+1,s,aK,aN=>
  if gW q aN s aN.length=aN.length then uV q d (s+1) (aK++[aN.length]) (aN++[s])
  else uV q d (s+1) (aK++[gW q aN s aN.length]) aN
def mU(n:Nat)(q:Nat->Nat->Bool):List Nat×List Nat:=uV q n 0 [] []
theorem CM.raise{w:tW}{o:Nat}{yb:Nat->Nat}{zb:Nat->Nat->Nat}{ns:Nat->Nat}{tk:Nat->Nat->Nat}{nx:Nat->Nat->Nat->Int}(h:CM w top cg n K yb zb ns tk nx)(D:top<=o):CM w o cg n K yb zb ns tk nx:=
 ⟨h.cc,h.tc,h.nc,h.lc,LP h.b0 D,λ c C=>LP (h.b1 c C) D,λ c s C F=>LP (h.b2 c s C F) D⟩
theorem pV{B':Nat}{a b:tW}(h:Below B a b)(o:B'<=B):Below B' a b:=⟨h.os,h.tape,h.output,h.size,λ k C=>h.block k (LP C o)⟩
theorem Ao{P:Program}(w:tW){ops:Array Oper}{rest:List Oper}{o:Oper}{a:Act}{Q:Exit->Act->tW->Prop}(X:o.guard=none)(s x:Operand)(t:TypeId)
  (ho:o.op=.call {callee:= .builtin .append,args:= #[s,x],argTypes:= #[t,t]})
  (aH:Nat) (e:TypeId) (z:tV) (size C:Nat) (ht:P.underlying t=some (.slice e)) (D:(P.info? e).map (λ i=>(i.zero,i.size,i.bytes))=some (some z,size,C))
  (Z:z.cells.size=size) (Y:0<size) (V:C<=1000)
  (v:tV) (n:Nat) (xs:List tV) (cs:List tV) (J:TypeId) (hs:a.eval s=v) (I:w.ownsRow aH e size v n xs)
  (B:Nat) (hB:w.heap.size=B) (hx:a.eval x=.slice (some ⟨B,0,none⟩) 2 2) (hl:cs.length=2*size) (h1:∀u∈cs,u.oneCell'=true)
  (hn:n<=1000000000) (U:aH<=w.heap.size)
  (h:∀g aJ w',w'.ownsRow aH e size (.slice (some ⟨g,0,none⟩) (n+2) aJ) (n+2) (xs++cs)->(w.alloc (.cells cs.toArray J)).grownBy w' v.ownBlock->(v.ownBlock=some g\/g=w.heap.size+1)->g<w'.heap.size->
   wpList P ops Q rest (a.put o.dst (.slice (some ⟨g,0,none⟩) (n+2) aJ)) w'):wpList P ops Q (o::rest) a (w.alloc (.cells cs.toArray J)):=by
 subst hB;obtain⟨i,hi,hz,F,hb⟩:=QT D;refine wpList_append_lies _ X s x t ho aH e i z size C ht hi hz F hb Z Y v n xs hs (I.alloc _) ⟨w.heap.size,0,none⟩ 2 2 cs hx (by omega) ?_ h1 (by omega) (by unfold QX;omega) ?_ (by simp;omega) (w.heap.size+1) (by simp) h
 ·have:=World.news_of_block (w:=w.alloc (.cells cs.toArray J)) (B:=w.heap.size) (cs:=cs.toArray) (t:=J) (fr:=(0,0)) (heap_alloc_new w _);simpa using this
 ·have:=Nat.mul_le_mul (show n+2<=1000000002 by omega) V;omega
def oE(l:List UInt8):List tV:=l.map (λ b=> .int .u8 (b.toNat:Int))
theorem M8(h:n<256):(((LG n).toNat:Nat):Int)=(n:Int):=by
 rw[UInt8.toNat_ofNat'];omega
theorem Ow(l:List UInt8){n:Nat}(h:n<256):oE l++[.int .u8 (n:Int)]=oE (l++[LG n]):=by
 unfold oE;rw[NQ,OM,PF,M8 h]
theorem Ku(l:List UInt8){n m:Nat}(h:n<256)(o:m<256):oE l++[.int .u8 (n:Int),.int .u8 (m:Int)]=oE (l++[LG n,LG m]):=by
 unfold oE;rw[NQ,OM,OM,PF,M8 h,M8 o]
def oS:Nat->(Nat->List UInt8)->List UInt8
 | 0,_=>[]
 | k+1,f=>oS k f++f k
theorem nW(k:Nat)(f:Nat->List UInt8):oS (k+1) f=oS k f++f k:=rfl
theorem J0(q:Nat->Nat->Bool):∀(d s:Nat)(aK aN:List Nat),aK.length=s->aN.length<=s->(∀x∈aN,x<s)->(∀x∈aK,x<aN.length)->(0<s->0<aN.length)->
  (uV q d s aK aN).1.length=s+d/\(uV q d s aK aN).2.length<=s+d/\(∀x∈(uV q d s aK aN).2,x<s+d)/\(∀x∈(uV q d s aK aN).1,x<(uV q d s aK aN).2.length)/\(0<s+d->0<(uV q d s aK aN).2.length)
 | 0,s,aK,aN,h1,h2,h3,h4,h5=>⟨h1,h2,h3,h4,h5⟩
 | d+1,s,aK,aN,h1,h2,h3,h4,h5=>by
  rw[uV];have e:s+(d+1)=(s+1)+d:=by omega
  rw[e];by_cases C:gW q aN s aN.length=aN.length
  ·rw[aB C];refine J0 q d (s+1) _ _ (by simp[h1]) (by simp;omega) (λ x o=>?_) (λ x o=>?_) (λ _=>by simp)
   ·rcases LO.1 o with h|h
    ·have:=h3 x h;omega
    ·rw[LI]at h;omega
   ·rw[LK];rcases LO.1 o with h|h
    ·have:=h4 x h;simp;omega
    ·rw[LI]at h;simp;omega
  ·rw[aA C];have D:=tN q aN s aN.length;refine J0 q d (s+1) _ _ (by simp[h1]) (by omega) (λ x o=>by have:=h3 x o;omega) (λ x o=>?_) (λ _=>by omega);rcases LO.1 o with h|h
   ·exact h4 x h
   ·rw[LI]at h;omega
theorem J1(q:Nat->Nat->Bool)(K:Nat):(mU K q).1.length=K/\(mU K q).2.length<=K/\(∀x∈(mU K q).2,x<K)/\(∀x∈(mU K q).1,x<(mU K q).2.length)/\(0<K->0<(mU K q).2.length):=by
 have:=J0 q K 0 [] [] rfl lR (λ x o=>absurd o LY) (λ x o=>absurd o LY) (λ h=>absurd h (PT _));simpa[mU]using this
def tG(aX:List ((Nat->Bool)×Int×Int))(k:Nat):Nat:=(aX.map (λ x=>x.2.1.toNat)).getD k 0
def S8(tk:Nat->Nat->Nat)(nx:Nat->Nat->Nat->Int)(fi:List Nat)(c s:Nat):List UInt8:= [LG (tk c s)]++oS fi.length (λ i=>[LG (H7 (nx c s (fi.getD i 0)))])
def sZ(aX:List ((Nat->Bool)×Int×Int)):List UInt8:= [LG 83,LG 84,LG 1,LG aX.length]
def Jx(aX:List ((Nat->Bool)×Int×Int))(n K:Nat)(bG ns:Nat->Nat)(tk:Nat->Nat->Nat)(nx:Nat->Nat->Nat->Int):List UInt8:=
 sZ aX++oS aX.length (λ k=>[LG (tG aX k)])
 ++[LG n,LG ((mU K (mJ ns nx n)).2.length-1)]++oS 256 (λ b=>[LG ((mU K (mJ ns nx n)).1.getD (bG b) 0)])
 ++oS n (λ c=>[LG (ns c)]++oS (ns c) (S8 tk nx (mU K (mJ ns nx n)).2 c))
def S7(ls:List (List (Nat×List Int)))(c:Nat):Nat:=(ls.getD c []).length
def Yv(ls:List (List (Nat×List Int)))(c s:Nat):Nat:=((ls.getD c []).getD s (0,[])).1
def V0(ls:List (List (Nat×List Int)))(c s k:Nat):Int:=((ls.getD c []).getD s (0,[])).2.getD k 0
theorem Z5{α:Type}{f:α->List tV}(o:∀x,(f x).length=m):∀(l:List α)(k i:Nat)(x:α),l[k]?=some x->i<m->(l.flatMap f)[k*m+i]?=(f x)[i]?
 | [],k,i,x,h,_=>by simp at h
 | a::l,0,i,x,h,hi=>by
  simp at h;subst h;rw[OL,PW,LS,LR (by rw[o];exact hi)]
 | a::l,k+1,i,x,h,hi=>by
  rw[NN]at h;rw[OL,LU (by rw[o,PV];omega),o];rw[show(k+1)*m+i-m=k*m+i by rw[PV];omega];exact Z5 o l k i x h hi
theorem K9{α:Type}{f:α->List tV}(o:∀x,(f x).length=m){w:tW}{g:Nat}{l:List α}(h:w.rangeAt g 0 (l.flatMap f)){k:Nat}{x:α}(D:l[k]?=some x):w.rangeAt g (k*m) (f x):=λ i v C=>by
 have hi:i<m:=by rw[<-o x];exact(LH.1 C).1
 have:=h (k*m+i) v (by rw[Z5 o l k i x D hi];exact C)
 rwa [LS]at this
theorem vV{w:tW}{xs:List tV}(h:w.ownsRow aH e size (.slice (some ⟨g,0,none⟩) n aJ) n xs):w.rangeAt g 0 xs:=λ i v o=>by
 have:=h.cells rfl i v o;rw[wI]at this;rw[LS];exact this
structure Zl(st:gS):Prop where
 nn:st.aV.length<=1000
 n0:0<st.aV.length
 ok:Jc st.aV
 r0:0<st.aX.length
 r1:st.aX.length<=255
 ro:∀x∈st.aX,0<=x.2.2/\x.2.2<st.aV.length
 be:∀x∈st.aX,0<=x.2.1/\x.2.1<=255
 p0:0<st.aW.length
 p1:st.aW.length<=10
 g0:0<(qF st.aW).2.length
 g1:(qF st.aW).2.length<=256
 gl:∀x∈(qF st.aW).1,x<(qF st.aW).2.length
structure Aw(K:Nat)(ls:List (List (Nat×List Int))):Prop where
 l1:ls.length<=255
 s1:∀l∈ls,l.length<=255
 t1:∀l∈ls,∀z∈l,z.1<=255
 k1:∀l∈ls,∀z∈l,z.2.length=K
 x1:∀l∈ls,∀z∈l,∀y∈z.2,y= -1\/(0<=y/\y<=255)
theorem Aw.at{ls:List (List (Nat×List Int))}(h:Aw K ls):(∀c,c<ls.length->S7 ls c<=255)/\(∀c s,c<ls.length->s<S7 ls c->Yv ls c s<=255)/\(∀c s k,c<ls.length->s<S7 ls c->k<K->V0 ls c s k= -1\/(0<=V0 ls c s k/\V0 ls c s k<=255)):=by
 have o:∀c,c<ls.length->ls.getD c []∈ls:=λ c o=>by rw[LD,LF o];exact MA o
 have D:∀(l:List (Nat×List Int)) s,s<l.length->l.getD s (0,[])∈l:=λ l s D=>by rw[LD,LF D];exact MA D
 refine⟨λ c C=>h.s1 _ (o c C),λ c s C F=>h.t1 _ (o c C) _ (D _ s F),λ c s k C F Q=>h.x1 _ (o c C) _ (D _ s F) _ ?_⟩;have I:=h.k1 _ (o c C) _ (D _ s F);have J:∀r:List Int,r.length=K->r.getD k 0∈r:=λ r e=>by rw[LD,LF (by omega)];exact MA _
 exact J _ I
theorem J4:∀(l:List Int)(x:Int),jT l x<=l.length
 | [],_=>lR
 | a::r,x=>by
  unfold jT;split
  ·exact zL
  ·have:=J4 r x;simp;omega
theorem J6(al:Nat->Int):∀(d b:Nat)(bG:List Nat)(P:List Int),P.length<=b->(0<b->0<P.length)->(∀x∈bG,x<P.length)->
  (U1 al d b bG P).2.length<=b+d/\(0<b+d->0<(U1 al d b bG P).2.length)/\∀x∈(U1 al d b bG P).1,x<(U1 al d b bG P).2.length
 | 0,b,bG,P,h1,h2,h3=>⟨h1,h2,h3⟩
 | d+1,b,bG,P,h1,h2,h3=>by
  rw[U1,show b+(d+1)=(b+1)+d by omega];have D:=J4 P (al b);by_cases C:jT P (al b)=P.length
  ·rw[aB C];refine J6 al d (b+1) _ _ (by simp;omega) (λ _=>by simp) (λ x o=>?_);rw[LK];rcases LO.1 o with h|h
   ·have:=h3 x h;simp;omega
   ·rw[LI]at h;simp;omega
  ·rw[aA C];refine J6 al d (b+1) _ _ (by omega) (λ _=>by omega) (λ x o=>?_);rcases LO.1 o with h|h
   ·exact h3 x h
   ·rw[LI]at h;omega
theorem Cm(aW:List (Nat->Bool)):0<(qF aW).2.length/\(qF aW).2.length<=256/\∀x∈(qF aW).1,x<(qF aW).2.length:=by
 obtain⟨o,C,D⟩:=J6 (G3 aW) 256 0 [] [] lR (λ h=>absurd h (PT _)) (λ x F=>absurd F LY);exact⟨C (by omega),by rw[LS]at o;exact o,D⟩
abbrev gX:=(Nat->Bool)×Int×Rx
def lA(t:tB)(a:Nat):Option (Int×Nat):=if 65<=gF t a/\gF t a<69 then some (gF t a-65,a+1)else none
def pR(t:tB)(a:Nat):Option (Int×Nat):=
 if kU t 46 a=true then some (0,a+1)
 else if kU t 45 a=true then some (1,a+1)
 else match lA t a with
  | none=>none
  | some (x,a1)=>some (x+2,a1)
def jY(t:tB):Nat->(Nat->Bool)->Int->Nat->Option ((Nat->Bool)×Nat)
 | 0,_,_,_=>none
 | n+1,f,aZ,a=>match lA t a with
  | none=>some (f,a)
  | some (x,a1)=>if x<=aZ then none else jY t n (sX f x) x a1
def rN(t:tB)(a:Nat):Option ((Nat->Bool)×Nat):=match lA t a with
 | none=>none
 | some (x,a1)=>jY t 5 (sX gK x) x a1
def oW(t:tB)(a:Nat):Option (gX×Nat):=match rN t a with
 | none=>none
 | some (f,a1)=>if kU t 32 a1=false then none else match kO t (t.size+1) (a1+1)with
  | none=>none
  | some (r,a2)=>if kU t 32 a2=false then none else match pR t (a2+1)with
   | none=>none
   | some (b,a3)=>some ((f,b,r),a3)
def kG(t:tB):Nat->List gX->Nat->Option (List gX×Nat)
 | 0,_,_=>none
 | n+1,l,a=>if kU t 10 a=false then some (l,a)else match oW t (a+1)with
  | none=>none
  | some (x,a1)=>kG t n (l++[x]) a1
def L3(t:tB):Option (List gX×Nat):=match oW t 0 with
 | none=>none
 | some (x,a)=>kG t (t.size+1) [x] a
def vE(t:tB):Option (List gX):=match L3 t with
 | none=>none
 | some (l,a)=>if a=t.size/\l.length<=8 then some l else none
def kS(st:gS)(x:gX)(a:Nat):gS:=⟨a,st.aX++[(x.1,x.2.1,((st.aV.length+x.2.2.sz-1:Nat):Int))],st.aV++x.2.2.flat st.aV.length st.aW.length,st.aW++x.2.2.fns⟩
def fW:gS->List gX->gS
 | st,[]=>st
 | st,x::l=>fW (kS st x st.at_) l
theorem K1(t:tB)(st:gS):Zv (gE t st) st (lA t st.at_):=by
 unfold gE lA;split
 ·rfl
 ·rfl
theorem Ou(t:tB)(st:gS):Zv (jP t st) st (pR t st.at_):=by
 unfold jP pR;simp only[qA];by_cases h:kU t 46 st.at_=true
 ·rw[aB h,aB h];rfl
 ·rw[aA h,aA h];by_cases C:kU t 45 st.at_=true
  ·rw[aB C,aB C];rfl
  ·rw[aA C,aA C];have o:=K1 t st
   cases e:lA t st.at_ with
   | none=>
    rw[e]at o;have o:(gE t st).2.1=false:=o;rw[aA (by rw[o];decide)];rfl
   | some y=>
    obtain⟨x,a1⟩:=y;rw[e]at o;have o:gE t st=(x,true,vK st a1):=o;rw[o];rfl
theorem Fa(t:tB):∀(n:Nat)(f:Nat->Bool)(aZ:Int)(st:gS),Ob (nD t n f aZ st) st (jY t n f aZ st.at_):=by
 intro n
 induction n with
 | zero=>intro f aZ st;rfl
 | succ k ih=>
  intro f aZ st;rw[nD,jY];have C:=K1 t st
  cases e:lA t st.at_ with
  | none=>
   rw[e]at C;have o:(gE t st).2.1=false:=C;rw[aB o];have D:(gE t st).2.2=st:=by
    unfold gE at o⊢;split at o
    ·cases o
    ·rename_i h;rw[aA h]
   rw[D];rfl
  | some y=>
   obtain⟨x,a1⟩:=y;rw[e]at C;have C:gE t st=(x,true,vK st a1):=C;rw[C,aA (by simp)];simp only;by_cases h:x<=aZ
   ·rw[aB h,aB h];rfl
   ·rw[aA h,aA h];have:=ih (sX f x) x (vK st a1);rw[show(vK st a1).at_=a1 from rfl]at this
    cases e2:jY t k (sX f x) x a1 with
    | none=>rw[e2]at this;exact this
    | some z=>rw[e2]at this;exact this
theorem Vl(t:tB)(st:gS):Ob (iU t st) st (rN t st.at_):=by
 unfold iU rN;have o:=K1 t st
 cases e:lA t st.at_ with
 | none=>
  rw[e]at o;have o:(gE t st).2.1=false:=o;rw[aB o];rfl
 | some y=>
  obtain⟨x,a1⟩:=y;rw[e]at o;have o:gE t st=(x,true,vK st a1):=o;rw[o,aA (by simp)];simp only;have:=Fa t 5 (sX gK x) x (vK st a1);rw[show(vK st a1).at_=a1 from rfl]at this
  cases e2:jY t 5 (sX gK x) x a1 with
  | none=>rw[e2]at this;exact this
  | some z=>rw[e2]at this;exact this
def KY(p:Bool×gS)(st:gS):Option (gX×Nat)->Prop
 | none=>p.1=false
 | some (x,a)=>p=(true,kS st x a)
theorem Nc(t:tB)(st:gS):KY (nI t st) st (oW t st.at_):=by
 unfold nI oW;have F:=Vl t st
 cases e:rN t st.at_ with
 | none=>
  rw[e]at F;have F:(iU t st).2.1=false:=F;rw[aB F];rfl
 | some y=>
  obtain⟨f,a1⟩:=y;rw[e]at F;have F:iU t st=(f,true,vK st a1):=F;rw[F,aA (by simp)];simp only[qA];rw[show(vK st a1).at_=a1 from rfl];by_cases I:kU t 32 a1=false
  ·rw[aB I,aB I];rfl
  ·rw[aA I,aA I];unfold F8;have D:=o7 t (t.size+1) (iO (vK st a1));rw[show(iO (vK st a1)).at_=a1+1 from rfl]at D
   cases e2:kO t (t.size+1) (a1+1)with
   | none=>
    rw[e2]at D;have D:(lG t (t.size+1) (iO (vK st a1))).2.1=false:=D;rw[aB D];rfl
   | some z=>
    obtain⟨r,o⟩:=z;rw[e2]at D;have D:lG t (t.size+1) (iO (vK st a1))=(((st.aV.length+r.sz-1:Nat):Int),true,lW st r o):=D;rw[D,aA (by simp)];simp only[qA];rw[show(lW st r o).at_=o from rfl];by_cases J:kU t 32 o=false
    ·rw[aB J,aB J];rfl
    ·rw[aA J,aA J];unfold F7;have C:=Ou t (iO (lW st r o));rw[show(iO (lW st r o)).at_=o+1 from rfl]at C
     cases e3:pR t (o+1)with
     | none=>
      rw[e3]at C;have C:(jP t (iO (lW st r o))).2.1=false:=C;rw[aB C];rfl
     | some u=>
      obtain⟨b,Q⟩:=u;rw[e3]at C;have C:jP t (iO (lW st r o))=(b,true,vK (iO (lW st r o)) Q):=C;rw[C,aA (by simp)]
      rfl
theorem I2:∀(l:List gX)(st:gS)(x:gX)(a:Nat),vK (kS (fW st l) x a) 0=vK (fW st (l++[x])) 0
 | [],_,_,_=>rfl
 | y::l,st,x,a=>I2 l (kS st y st.at_) x a
def KM(p:Bool×gS):Option (List gX×Nat)->Prop
 | none=>p.1=false
 | some (l,a)=>p.1=true/\p.2.at_=a/\vK p.2 0=vK (fW jX l) 0
theorem Rc(st st':gS)(x:gX)(a:Nat)(h:vK st 0=vK st' 0):kS st x a=kS st' x a:=by
 unfold vK at h;injection h with _ o C D;unfold kS;rw[o,C,D]
theorem Fl(t:tB):∀(n:Nat)(l:List gX)(st:gS),vK st 0=vK (fW jX l) 0->KM (lT t n true st) (kG t n l st.at_):=by
 intro n
 induction n with
 | zero=>intro l st _;rfl
 | succ k ih=>
  intro l st h;rw[kG];by_cases C:kU t 10 st.at_=false
  ·rw[aB C,D1 (by rw[qA];exact C)];exact⟨rfl,rfl,h⟩
  ·rw[aA C,D2 (by rw[qA];simpa using C)];have o:=Nc t (iO st);rw[show(iO st).at_=st.at_+1 from rfl]at o
   cases e:oW t (st.at_+1)with
   | none=>
    rw[e]at o;have o:(nI t (iO st)).1=false:=o;rw[o,vD];rfl
   | some y=>
    obtain⟨x,a1⟩:=y;rw[e]at o;have o:nI t (iO st)=(true,kS (iO st) x a1):=o;rw[o];have D:kS (iO st) x a1=kS (fW jX l) x a1:=Rc _ _ x a1 h;rw[D];have:=ih (l++[x]) (kS (fW jX l) x a1) (I2 l jX x a1);exact this
theorem Xx(t:tB):KM (mY t jX) (L3 t):=by
 unfold mY L3;have o:=Nc t jX;rw[show jX.at_=0 from rfl]at o
 cases e:oW t 0 with
 | none=>
  rw[e]at o;have o:(nI t jX).1=false:=o;rw[o,vD];rfl
 | some y=>
  obtain⟨x,a1⟩:=y;rw[e]at o;have o:nI t jX=(true,kS jX x a1):=o;rw[o];exact Fl t (t.size+1) [x] (kS jX x a1) rfl
theorem qI:∀(l:List gX)(st:gS),(fW st l).aX.length=st.aX.length+l.length
 | [],st=>rfl
 | x::l,st=>by rw[fW,qI l];simp[kS];omega
theorem Df(t:tB):(120<t.size->kB t=1)/\(t.size<=120->vE t=none->kB t=2)/\
  (t.size<=120->∀l,vE t=some l->(10<(fW jX l).aW.length->kB t=3)/\((fW jX l).aW.length<=10->kB t=0/\vK (iB t) 0=vK (fW jX l) 0)):=by
 have C:=Xx t;unfold kB iB vE;refine⟨λ h=>by rw[aB h],λ h o=>?_,λ h l o=>?_⟩
 ·rw[aA (by omega)];have:sS t (mY t jX)=false:=by
   unfold sS
   cases e:L3 t with
   | none=>
    rw[e]at C;have C:(mY t jX).1=false:=C;rw[C];rfl
   | some y=>
    obtain⟨l,a⟩:=y;rw[e]at C o;obtain⟨I,J,D⟩:=C;simp only at o;split at o
    ·cases o
    ·rename_i X;rw[I,J];have Q:(mY t jX).2.aX=(fW jX l).aX:=by have:=congrArg gS.aX D;exact this
     rw[Q,qI];simp only[Bool.true_and,Bool.and_eq_false_iff,aF];have:jX.aX.length=0:=rfl;omega
  rw[aB this]
 ·rw[aA (by omega)]
  cases e:L3 t with
  | none=>rw[e]at o;cases o
  | some y=>
   obtain⟨U,a⟩:=y;rw[e]at C o;obtain⟨I,J,D⟩:=C;simp only at o;split at o
   ·rename_i F;injection o with o;subst o;have Q:(mY t jX).2.aX=(fW jX U).aX:=by have:=congrArg gS.aX D;exact this
    have Y:(mY t jX).2.aW=(fW jX U).aW:=by have:=congrArg gS.aW D;exact this
    have V:sS t (mY t jX)=true:=by
     unfold sS;rw[I,J,Q,qI,F.1];have:jX.aX.length=0:=rfl;simp;omega
    rw[aA (by rw[V];decide),Y];exact⟨λ h=>by rw[aB h],λ h=>⟨by rw[aA (by omega)],D⟩⟩
   ·cases o
def Ka(f:Nat->Bool):Prop:=∃b,b<256/\f b=true
def Bh(f:Nat->Bool):Prop:=∀b,126<b->f b=false
theorem EI{t:tB}(h:J3 t a=some (x,a')):∃b:Nat,x=(b:Int)/\b<=126:=by
 unfold J3 at h;split at h
 ·injection h with h;injection h with o D;exact⟨10,by rw[<-o];rfl,by omega⟩
 ·split at h
  ·injection h with h;injection h with o D;exact⟨32,by rw[<-o];rfl,by omega⟩
  ·split at h
   ·rename_i C;injection h with h;injection h with o D;have C:=C.1;unfold nT at C;rw[aE]at C;exact⟨x.toNat,by omega,by omega⟩
   ·cases h
theorem L5{t sp:tB}(h:jK t sp a=some (x,a')):∃b:Nat,x=(b:Int)/\b<=126:=by
 unfold jK at h;split at h
 ·exact EI h
 ·split at h
  ·rename_i o;injection h with h;injection h with C D;unfold kV nT at o;rw[NM,aE]at o;exact⟨x.toNat,by omega,by omega⟩
  ·cases h
theorem Ei{f:Nat->Bool}{x y:Nat}(h:x<=y)(o:y<=126):Ka (jI f x y):=⟨x,by omega,by unfold jI;simp;omega⟩
theorem Hr{f:Nat->Bool}{x y:Nat}(C:Bh f)(D:y<=126):Bh (jI f x y):=λ b o=>by
 unfold jI;rw[C b o];simp;omega
theorem Cw{t:tB}{f g:Nat->Bool}(F:Bh f)(h:jQ t f a=some (g,a')):Ka g/\Bh g:=by
 unfold jQ at h
 cases e:jK t kJ a with
 | none=>rw[e]at h;cases h
 | some y=>
  obtain⟨x,a1⟩:=y;obtain⟨b,rfl,C⟩:=L5 e;rw[e]at h;simp only at h;split at h
  ·injection h with h;injection h with o I;rw[<-o];exact⟨Ei lR C,Hr F C⟩
  ·cases e2:jK t kJ (a1+1)with
   | none=>rw[e2]at h;cases h
   | some z=>
    obtain⟨y,Q⟩:=z;obtain⟨c,rfl,D⟩:=L5 e2;rw[e2]at h;simp only at h;split at h
    ·cases h
    ·rename_i J;injection h with h;injection h with o I;rw[<-o];exact⟨Ei (by omega) D,Hr F D⟩
theorem Nj{t:tB}:∀(n:Nat)(f g:Nat->Bool)(a a':Nat),Ka f->Bh f->lL t n f a=some (g,a')->Ka g/\Bh g:=by
 intro n
 induction n with
 | zero=>intro f g a a' _ _ h;cases h
 | succ k ih=>
  intro f g a a' F o h;rw[lL]at h;split at h
  ·injection h with h;injection h with I _;rw[<-I];exact⟨F,o⟩
  ·cases e:jQ t f a with
   | none=>rw[e]at h;cases h
   | some y=>
    obtain⟨D,C⟩:=y;rw[e]at h;obtain⟨J,Q⟩:=Cw o e;exact ih D g C a' J Q h
theorem Nl{t:tB}{g:Nat->Bool}(h:qD t a=some (g,a')):Ka g/\Bh g:=by
 unfold qD at h
 cases e:jQ t gK a with
 | none=>rw[e]at h;cases h
 | some y=>
  obtain⟨C,o⟩:=y;rw[e]at h;obtain⟨D,F⟩:=Cw (λ _ _=>rfl) e;exact Nj _ C g o a' D F h
theorem Kg{t:tB}{g:Nat->Bool}(h:jC t a=some (g,a')):Ka g:=by
 unfold jC at h;split at h
 ·unfold L4 at h;split at h
  ·cases e:qD t (a+1+1)with
   | none=>rw[e]at h;cases h
   | some y=>
    obtain⟨C,I⟩:=y;rw[e]at h;obtain⟨_,F⟩:=Nl e;injection h with h;injection h with o _;rw[<-o];exact⟨255,by omega,by show(!(C 255))=true;rw[F 255 (by omega)];rfl⟩
  ·exact(Nl h).1
 ·split at h
  ·injection h with h;injection h with o _;rw[<-o];exact⟨0,by omega,rfl⟩
  ·cases e:jK t kK a with
   | none=>rw[e]at h;cases h
   | some y=>
    obtain⟨x,a1⟩:=y;obtain⟨b,rfl,D⟩:=L5 e;rw[e]at h;injection h with h;injection h with o _;rw[<-o];exact Ei lR D
def Rx.good(r:Rx):Prop:=∀f∈r.fns,Ka f
def M1(ex:Nat->Option (Rx×Nat)):Prop:=∀a r a',ex a=some (r,a')->r.good
theorem s4{r C:Rx}(h:r.good)(k:C.good):(Rx.cat r C).good:=λ f D=>by
 rcases LO.1 D with o|o
 ·exact h f o
 ·exact k f o
theorem r9{r C:Rx}(h:r.good)(k:C.good):(Rx.alt r C).good:=λ f D=>by
 rcases LO.1 D with o|o
 ·exact h f o
 ·exact k f o
theorem Om{t:tB}{ex:Nat->Option (Rx×Nat)}(D:M1 ex):M1 (lZ t ex):=λ a r a' h=>by
 unfold lZ at h;split at h
 ·cases e:ex (a+1)with
  | none=>rw[e]at h;cases h
  | some y=>
   obtain⟨F,C⟩:=y;rw[e]at h;simp only at h;split at h
   ·injection h with h;injection h with o _;rw[<-o];exact D _ _ _ e
   ·cases h
 ·cases e:jC t a with
  | none=>rw[e]at h;cases h
  | some y=>
   obtain⟨f,C⟩:=y;rw[e]at h;injection h with h;injection h with o _;rw[<-o];intro g hg;have hg:g∈ [f]:=hg;rw[LI]at hg;rw[hg];exact Kg e
theorem Af{t:tB}{ex:Nat->Option (Rx×Nat)}(F:M1 ex):M1 (iZ t ex):=λ a r a' h=>by
 unfold iZ at h
 cases e:lZ t ex a with
 | none=>rw[e]at h;cases h
 | some y=>
  obtain⟨I,J⟩:=y;have hg:=Om F _ _ _ e;rw[e]at h;simp only at h;split at h
  ·injection h with h;injection h with o _;rw[<-o];exact hg
  ·rename_i D;injection h with h;injection h with o _;rw[<-o];intro f C;rw[(Ct D I 0 0).2.2.1]at C;exact hg f C
theorem Es{t:tB}{ex:Nat->Option (Rx×Nat)}(D:M1 ex):∀(n:Nat)(r:Rx)(a:Nat)(r':Rx)(a':Nat),r.good->lX t ex n r a=some (r',a')->r'.good:=by
 intro n
 induction n with
 | zero=>intro r a r' a' _ h;cases h
 | succ k ih=>
  intro r a r' a' o h;rw[lX]at h;split at h
  ·injection h with h;injection h with C _;rw[<-C];exact o
  ·cases e:iZ t ex a with
   | none=>rw[e]at h;cases h
   | some y=>
    obtain⟨I,F⟩:=y;rw[e]at h;exact ih _ _ _ _ (s4 o (Af D _ _ _ e)) h
theorem Fu{t:tB}{ex:Nat->Option (Rx×Nat)}(o:M1 ex):M1 (vJ t ex):=λ a r a' h=>by
 unfold vJ at h
 cases e:iZ t ex a with
 | none=>rw[e]at h;cases h
 | some y=>
  obtain⟨D,C⟩:=y;rw[e]at h;exact Es o _ _ _ _ _ (Af o _ _ _ e) h
theorem Cc{t:tB}{ex:Nat->Option (Rx×Nat)}(D:M1 ex):∀(n:Nat)(r:Rx)(a:Nat)(r':Rx)(a':Nat),r.good->kN t ex n r a=some (r',a')->r'.good:=by
 intro n
 induction n with
 | zero=>intro r a r' a' _ h;cases h
 | succ k ih=>
  intro r a r' a' o h;rw[kN]at h;split at h
  ·injection h with h;injection h with C _;rw[<-C];exact o
  ·cases e:vJ t ex (a+1)with
   | none=>rw[e]at h;cases h
   | some y=>
    obtain⟨I,F⟩:=y;rw[e]at h;exact ih _ _ _ _ (r9 o (Fu D _ _ _ e)) h
theorem Pe(t:tB):∀f,M1 (kO t f):=by
 intro f
 induction f with
 | zero=>intro a r a' h;cases h
 | succ k ih=>
  intro a r a' h;rw[kO]at h
  cases e:vJ t (kO t k) a with
  | none=>rw[e]at h;cases h
  | some y=>
   obtain⟨C,o⟩:=y;rw[e]at h;exact Cc ih _ _ _ _ _ (Fu ih _ _ _ e) h
structure tD(x:gX):Prop where
 b0:0<=x.2.1
 b5:x.2.1<=5
 c4:∀c,4<=c->x.1 c=false
 c0:∃c,c<4/\x.1 c=true
 g:x.2.2.good
theorem J9{t:tB}(h:lA t a=some (x,a')):∃c:Nat,x=(c:Int)/\c<4:=by
 unfold lA at h;split at h
 ·injection h with h;injection h with o _;exact⟨x.toNat,by omega,by omega⟩
 ·cases h
theorem Ez{t:tB}:∀(n:Nat)(f:Nat->Bool)(aZ:Int)(a:Nat)(g:Nat->Bool)(a':Nat),(∀c,4<=c->f c=false)->(∃c,c<4/\f c=true)->jY t n f aZ a=some (g,a')->(∀c,4<=c->g c=false)/\∃c,c<4/\g c=true:=by
 intro n
 induction n with
 | zero=>intro f aZ a g a' _ _ h;cases h
 | succ k ih=>
  intro f aZ a g a' o C h;rw[jY]at h
  cases e:lA t a with
  | none=>rw[e]at h;injection h with h;injection h with D _;rw[<-D];exact⟨o,C⟩
  | some y=>
   obtain⟨x,a1⟩:=y;obtain⟨c,rfl,F⟩:=J9 e;rw[e]at h;simp only at h;split at h
   ·cases h
   ·refine ih _ _ _ _ _ (λ d I=>?_) ?_ h
    ·unfold sX;rw[aA (by omega)];exact o d I
    ·exact⟨c,F,by unfold sX;rw[aB rfl]⟩
theorem Na{t:tB}{x:gX}(h:oW t a=some (x,a')):tD x:=by
 unfold oW at h
 cases e:rN t a with
 | none=>rw[e]at h;cases h
 | some y=>
  obtain⟨f,a1⟩:=y;rw[e]at h;simp only at h;have I:(∀c,4<=c->f c=false)/\∃c,c<4/\f c=true:=by
   unfold rN at e
   cases e2:lA t a with
   | none=>rw[e2]at e;cases e
   | some z=>
    obtain⟨u,C⟩:=z;obtain⟨c,rfl,Q⟩:=J9 e2;rw[e2]at e;refine Ez _ _ _ _ _ _ (λ d U=>?_) ?_ e
    ·unfold sX;rw[aA (by omega)];rfl
    ·exact⟨c,Q,by unfold sX;rw[aB rfl]⟩
  split at h
  ·cases h
  ·cases e2:kO t (t.size+1) (a1+1)with
   | none=>rw[e2]at h;cases h
   | some z=>
    obtain⟨r,C⟩:=z;rw[e2]at h;simp only at h;split at h
    ·cases h
    ·cases o:pR t (C+1)with
     | none=>rw[o]at h;cases h
     | some u=>
      obtain⟨b,V⟩:=u;rw[o]at h;injection h with h;injection h with J _;have F:0<=b/\b<=5:=by
       unfold pR at o;split at o
       ·injection o with o;injection o with D _;omega
       ·split at o
        ·injection o with o;injection o with D _;omega
        ·cases e5:lA t (C+1)with
         | none=>rw[e5]at o;cases o
         | some v=>
          obtain⟨c,X⟩:=v;obtain⟨d,rfl,U⟩:=J9 e5;rw[e5]at o;injection o with o;injection o with D _;omega
      rw[<-J];exact⟨F.1,F.2,I.1,I.2,Pe t _ _ _ _ e2⟩
theorem Fk{t:tB}:∀(n:Nat)(l:List gX)(a:Nat)(o:List gX)(a':Nat),(∀x∈l,tD x)->0<l.length->kG t n l a=some (o,a')->(∀x∈o,tD x)/\0<o.length:=by
 intro n
 induction n with
 | zero=>intro l a o a' _ _ h;cases h
 | succ k ih=>
  intro l a o a' C D h;rw[kG]at h;split at h
  ·injection h with h;injection h with F _;rw[<-F];exact⟨C,D⟩
  ·cases e:oW t (a+1)with
   | none=>rw[e]at h;cases h
   | some y=>
    obtain⟨x,a1⟩:=y;rw[e]at h;refine ih _ _ _ _ (λ z I=>?_) (by simp) h;rcases LO.1 I with q|q
    ·exact C z q
    ·rw[LI]at q;rw[q];exact Na e
theorem wL{t:tB}{l:List gX}(h:vE t=some l):(∀x∈l,tD x)/\0<l.length/\l.length<=8:=by
 unfold vE L3 at h
 cases e:oW t 0 with
 | none=>rw[e]at h;cases h
 | some y=>
  obtain⟨x,a1⟩:=y;rw[e]at h;simp only at h
  cases e2:kG t (t.size+1) [x] a1 with
  | none=>rw[e2]at h;cases h
  | some z=>
   obtain⟨D,a'⟩:=z;rw[e2]at h;simp only at h;have:=Fk _ _ _ _ _ (λ z C=>by rw[LI]at C;rw[C];exact Na e) (by simp) e2;split at h
   ·rename_i o;injection h with h;rw[<-h];exact⟨this.1,this.2,o.2⟩
   ·cases h
def xM(k:Nat)(x:Int×Int×Int):Prop:=0<=x.1/\x.1<=5/\(x.1=0->0<=x.2.1/\x.2.1<10)/\(x.1≠0->0<=x.2.1/\x.2.1<k/\0<=x.2.2/\x.2.2<k)
def mL(nb:Nat)(l:List (Int×Int×Int)):Prop:=∀k x,l[k]?=some x->xM (nb+k) x
theorem mL.app{l m:List (Int×Int×Int)}(h:mL nb l)(k:mL (nb+l.length) m):mL nb (l++m):=λ i x o=>by
 by_cases e:i<l.length
 ·rw[LR e]at o;exact h i x o
 ·rw[LU (by omega)]at o;have:=k _ x o;rw[show nb+l.length+(i-l.length)=nb+i by omega]at this;exact this
theorem mL.one{x:Int×Int×Int}(h:xM nb x):mL nb [x]:=λ i y o=>by
 cases i with
 | zero=>simp at o;rw[<-o];exact h
 | succ j=>simp at o
theorem Rx.flat_ok:∀(r:Rx)(nb pb:Nat),pb+r.np<=10->mL nb (r.flat nb pb)
 | .pl f,nb,pb,h=>mL.one (by have h:pb+1<=10:=h;unfold xM;simp only;omega)
 | .cat a b,nb,pb,h=>by
  have h:pb+(a.np+b.np)<=10:=h;have:=a.sz_pos;have:=b.sz_pos;refine(a.flat_ok nb pb (by omega)).app ?_;rw[a.flat_len];refine(b.flat_ok _ _ (by omega)).app ?_;rw[b.flat_len];exact mL.one (by unfold xM;simp only;omega)
 | .alt a b,nb,pb,h=>by
  have h:pb+(a.np+b.np)<=10:=h;have:=a.sz_pos;have:=b.sz_pos;refine(a.flat_ok nb pb (by omega)).app ?_;rw[a.flat_len];refine(b.flat_ok _ _ (by omega)).app ?_;rw[b.flat_len];exact mL.one (by unfold xM;simp only;omega)
 | .opt a,nb,pb,h=>by
  have:=a.sz_pos;refine(a.flat_ok nb pb h).app ?_;rw[a.flat_len];exact mL.one (by unfold xM;simp only;omega)
 | .plus a,nb,pb,h=>by
  have:=a.sz_pos;refine(a.flat_ok nb pb h).app ?_;rw[a.flat_len];exact mL.one (by unfold xM;simp only;omega)
 | .star a,nb,pb,h=>by
  have:=a.sz_pos;refine(a.flat_ok nb pb h).app ?_;rw[a.flat_len];exact mL.one (by unfold xM;simp only;omega)
structure Hu(st:gS):Prop where
 no:mL 0 st.aV
 ro:∀x∈st.aX,0<=x.2.2/\x.2.2<st.aV.length
 be:∀x∈st.aX,0<=x.2.1/\x.2.1<=5
def mW:List gX->Nat
 | []=>0
 | x::l=>x.2.2.np+mW l
theorem rJ:∀(l:List gX)(st:gS),(fW st l).aW.length=st.aW.length+mW l
 | [],st=>rfl
 | x::l,st=>by rw[fW,rJ l];simp[kS,mW,Rx.fns_len];omega
theorem C6:∀(l:List gX)(st:gS),Hu st->(∀x∈l,tD x)->st.aW.length+mW l<=10->Hu (fW st l)
 | [],st,h,_,_=>h
 | x::l,st,h,hl,C=>by
  have D:=hl x MN;have C:st.aW.length+(x.2.2.np+mW l)<=10:=C;have F:=x.2.2.sz_pos;refine C6 l _ ⟨?_,λ y o=>?_,λ y o=>?_⟩ (λ y o=>hl y (MM _ o)) ?_
  ·refine h.no.app ?_;rw[LS];exact x.2.2.flat_ok _ _ (by omega)
  ·show 0<=y.2.2/\y.2.2<((st.aV++x.2.2.flat st.aV.length st.aW.length).length:Nat);rw[LK,Rx.flat_len];rcases LO.1 o with q|q
   ·have:=h.ro y q;omega
   ·rw[LI]at q;rw[q];simp only;omega
  ·rcases LO.1 o with q|q
   ·exact h.be y q
   ·rw[LI]at q;rw[q];exact⟨D.b0,D.b5⟩
  ·show(st.aW++x.2.2.fns).length+mW l<=10;rw[LK,Rx.fns_len];omega
theorem Jj{t:tB}:∀(n:Nat)(o:Bool)(st:gS),st.at_<=t.size->st.aV.length<=3*st.at_->(lT t n o st).2.aV.length<=3*t.size:=by
 intro n
 induction n with
 | zero=>intro o st I J;rw[lT];simp only;omega
 | succ k ih=>
  intro o st I J;rw[lT];split
  ·simp only;omega
  ·split
   ·simp only;omega
   ·rename_i U;have Q:=iW (t:=t) (b:=10) (st:=st) (by omega) (by simpa using U);have hg:=(R5 (t:=t) (st:=iO st) (by rw[iG];omega)).1;obtain⟨D,F,C,g4⟩:=hg;rw[iG]at D C;have e:(iO st).aV=st.aV:=rfl;rw[e]at C;exact ih _ _ F (by omega)
theorem Qo(t:tB):(iB t).aV.length<=3*t.size:=by
 unfold iB mY;have hg:=(R5 (t:=t) (st:=jX) zL).1;obtain⟨F,C,D,g4⟩:=hg;have e:jX.aV.length=0:=rfl;have o:jX.at_=0:=rfl;rw[e,o]at D;exact Jj _ _ _ C (by omega)
theorem CE:Hu jX:=⟨λ k x o=>by simp[jX]at o,λ x o=>absurd o LY,λ x o=>absurd o LY⟩
theorem R3{t:tB}(h:kB t=0):t.size<=120/\∃l,vE t=some l/\mW l<=10/\(iB t).aX=(fW jX l).aX/\(iB t).aV=(fW jX l).aV/\(iB t).aW=(fW jX l).aW:=by
 obtain⟨I,J,Q⟩:=Df t;by_cases U:120<t.size
 ·rw[I U]at h;cases h
 ·refine⟨by omega,?_⟩
  cases e:vE t with
  | none=>rw[J (by omega) e]at h;cases h
  | some l=>
   obtain⟨a,b⟩:=Q (by omega) l e;by_cases o:10<(fW jX l).aW.length
   ·rw[a o]at h;cases h
   ·obtain⟨_,c⟩:=b (by omega);rw[rJ]at o;have V:jX.aW.length=0:=rfl;have C:=congrArg gS.aX c;have D:=congrArg gS.aV c;have F:=congrArg gS.aW c;exact⟨l,rfl,by omega,C,D,F⟩
theorem EP{t:tB}(h:kB t=0):Zl (iB t):=by
 obtain⟨hs,l,hl,hn,F,I,V⟩:=R3 h;obtain⟨k1,Y,k3⟩:=wL hl;have e0:jX.aW.length=0:=rfl;have e4:jX.aX.length=0:=rfl;have C:=C6 l jX CE k1 (by omega);have X:=Qo t;have o:(fW jX l).aX.length=l.length:=by rw[qI];omega
 have D:(fW jX l).aW.length=mW l:=by rw[rJ];omega
 obtain⟨Z,g1,g2⟩:=Cm (iB t).aW;have Q:0<mW l:=by
  cases l with
  | nil=>simp at Y
  | cons x r=>have:=x.2.2.np_pos;show 0<x.2.2.np+mW r;omega
 have J:0<(fW jX l).aV.length:=by
  cases hr:(fW jX l).aX with
  | nil=>rw[hr]at o;simp at o;omega
  | cons x r=>have:=C.ro x (by rw[hr];exact MN);omega
 refine⟨by omega,by rw[I];exact J,?_,by rw[F,o];exact Y,by rw[F,o];omega,?_,?_,by rw[V,D];exact Q,by rw[V,D];exact hn,Z,g1,g2⟩
 ·rw[I];intro k x U;have:=C.no k x U;rw[LS]at this;exact this
 ·rw[F,I];exact C.ro
 ·rw[F];intro x U;have:=C.be x U;omega
end Go.Stn
namespace Go.Proofs.YtgjgjgihceijnaaGreat
open Go.RowKit Go.Stn
variable {wb K aJ n0 pg B aH e g n nb i:Nat}{S bB G:List Int}{R:List (List Int)}{v:Option Nat}{ops:Array Oper}{rest:List Oper}{a:Act}
section
theorem kD.box(w:tW)(vf vl:tV)(aG:Nat->Int)(ty:TypeId)(B:Nat)(C:B=w.heap.size):kD (w.alloc (.cells (mQ vf vl aG) ty)) B vf vl aG:=by
 have o:∀i v,(mQ vf vl aG)[i]?=some v->(w.alloc (.cells (mQ vf vl aG) ty)).cell? ⟨B,i,none⟩=some v:=λ i v h=>(MO _ _ B i C).trans h
 refine⟨o 0 _ rfl,o 1 _ rfl,λ k D=>?_,λ i=>World.frozen?_alloc_at _ _ B i C⟩;have:k=0\/k=1\/k=2\/k=3\/k=4\/k=5\/k=6\/k=7\/k=8\/k=9:=by omega
 rcases this with rfl|rfl|rfl|rfl|rfl|rfl|rfl|rfl|rfl|rfl<;>exact o _ _ rfl
structure WK(w:tW)(wb:Nat)(num:Nat->Int)(S:List Int)(E:List (Nat×tV))(vs vst:tV):Prop where
 c0:w.cell? ⟨wb,0,none⟩=some vs
 nm:∀x,x<1024->w.cell? ⟨wb,1+x,none⟩=some (.int .i64 (num x))
 c2:w.cell? ⟨wb,1025,none⟩=some vst
 fz:∀i,w.frozen? ⟨wb,i,none⟩=false
 rs:w.ownsRow (wb+1) 103 1 vs S.length (pQ S)
 rt:w.ownsRow (wb+1) 121 2 vst E.length (In E)
 ap:∀k,vs.ownBlock=some k->vst.ownBlock=some k->False
 hb:wb<w.heap.size
structure FW(w w':tW)(wb:Nat)(vs vst vs' vst':tV):Prop where
 os:w'.os=w.os
 tape:w'.tape=w.tape
 output:w'.output=w.output
 size:w.heap.size<=w'.heap.size
 block:∀k,k<w.heap.size->k≠wb->vs.ownBlock≠some k->vst.ownBlock≠some k->w'.heap[k]?=w.heap[k]?
 s1:∀k,k<w.heap.size->vs'.ownBlock=some k->vs.ownBlock=some k
 s2:∀k,k<w.heap.size->vst'.ownBlock=some k->vst.ownBlock=some k
theorem FW.trans{a b c:tW}{v1 t1 v2 t2 v3 F:tV}(h:FW a b wb v1 t1 v2 t2)(k:FW b c wb v2 t2 v3 F):FW a c wb v1 t1 v3 F:=
 ⟨k.os.trans h.os,k.tape.trans h.tape,k.output.trans h.output,NO h.size k.size,
  λ i hi o C D=>(k.block i (LP hi h.size) o (λ e=>C (h.s1 i hi e)) (λ e=>D (h.s2 i hi e))).trans (h.block i hi o C D),
  λ i hi e=>h.s1 i hi (k.s1 i (LP hi h.size) e),λ i hi e=>h.s2 i hi (k.s2 i (LP hi h.size) e)⟩
theorem FW.below{a b:tW}{v1 t1 v2 t2:tV}{num:Nat->Int}{E:List (Nat×tV)}(h:FW a b wb v1 t1 v2 t2)(o:WK a wb num S E v1 t1):Below wb a b:=
 ⟨h.os,h.tape,h.output,h.size,λ k C=>h.block k (by have:=o.hb;omega) (by omega) (λ e=>by have:=(o.rs.lt k e).1;omega) (λ e=>by have:=(o.rt.lt k e).1;omega)⟩
theorem FW.of_below{a b:tW}{v t:tV}(h:Bl a b):FW a b wb v t v t:=⟨h.os,h.tape,h.output,h.size,λ k o _ _ _=>h.block k o,λ _ _ e=>e,λ _ _ e=>e⟩
variable {w w':tW}{wb:Nat}{num:Nat->Int}{S:List Int}{E:List (Nat×tV)}{vs vst:tV}
theorem WK.below(h:WK w wb num S E vs vst)(o:Bl w w'):WK w' wb num S E vs vst:=by
 have cl:∀i,w'.cell? ⟨wb,i,none⟩=w.cell? ⟨wb,i,none⟩:=λ i=>o.cell (p:=⟨wb,i,none⟩) h.hb
 exact⟨(cl 0).trans h.c0,λ x C=>(cl _).trans (h.nm x C),(cl _).trans h.c2,λ i=>(o.frozen (p:=⟨wb,i,none⟩) h.hb).trans (h.fz i),wS h.rs o,wS h.rt o,h.ap,LP h.hb o.size⟩
theorem WK.drewN(h:WK w wb num S E vs vst)(q:Nat):WK (w.drewN q) wb num S E vs vst:=⟨h.c0,h.nm,h.c2,h.fz,h.rs,h.rt,h.ap,h.hb⟩
theorem WK.setN(h:WK w wb num S E vs vst)(x:Nat)(F:x<1024)(y:Int):WK (w.setCell ⟨wb,1+x,none⟩ (.int .i64 y)) wb (λ j=>if j=x then y else num j) S E vs vst:=by
 have o:∀j u,j≠1+x->w.cell? ⟨wb,j,none⟩=some u->(w.setCell ⟨wb,1+x,none⟩ (.int .i64 y)).cell? ⟨wb,j,none⟩=some u:=λ j u C D=>by
  rw[MC (h:=by intro e;injection e;omega)];exact D
 refine⟨o 0 _ (by omega) h.c0,λ j C=>?_,o _ _ (by omega) h.c2,λ i=>by rw[MY];exact h.fz i,QO h.rs (MQ _) _,QO h.rt (MQ _) _,h.ap,by have:=h.hb;simp[MI];omega⟩;by_cases e:j=x
 ·subst e;rw[aB rfl];exact NC _ _ _ (h.nm j C)
 ·rw[aA e];exact o _ _ (by omega) (h.nm j C)
theorem FW.set(w:tW)(wb i:Nat)(v:tV)(vs vst:tV):FW w (w.setCell ⟨wb,i,none⟩ v) wb vs vst vs vst:=
 ⟨rfl,rfl,rfl,by simp[MI],λ k _ o _ _=>MH _ _ _ _ o,λ _ _ e=>e,λ _ _ e=>e⟩
theorem WK.moreS{w4:tW}(h:WK w wb num S E vs vst){o:Obj}{x:Int}{g aJ:Nat}
  (U:w4.ownsRow (wb+1) 103 1 (.slice (some ⟨g,0,none⟩) (S.length+1) aJ) (S.length+1) (pQ S++[.int .i64 x]))
  (C:(w.alloc o).grownBy w4 vs.ownBlock) (J:vs.ownBlock=some g\/g=w.heap.size+1):
  WK (w4.setCell ⟨wb,0,none⟩ (.slice (some ⟨g,0,none⟩) (S.length+1) aJ)) wb num (S++[x]) E (.slice (some ⟨g,0,none⟩) (S.length+1) aJ) vst/\
  FW w (w4.setCell ⟨wb,0,none⟩ (.slice (some ⟨g,0,none⟩) (S.length+1) aJ)) wb vs vst (.slice (some ⟨g,0,none⟩) (S.length+1) aJ) vst:=by
 have b0:=h.hb;have Z:=C.size;simp at Z;have D:∀k,k<w.heap.size->vs.ownBlock≠some k->w4.heap[k]?=w.heap[k]? :=λ k F hv=>(C.block k (by simp;omega) (λ e=>hv e.symm)).trans (MD w o k F)
 have V:vs.ownBlock≠some wb:=λ e=>by have:=(h.rs.lt wb e).1;omega
 have cc:∀i,w4.cell? ⟨wb,i,none⟩=w.cell? ⟨wb,i,none⟩:=λ i=>OG (w:=w) (a:=⟨wb,i,none⟩) (D wb b0 V)
 have cf:∀i,w4.frozen? ⟨wb,i,none⟩=w.frozen? ⟨wb,i,none⟩:=λ i=>OD (w:=w) (a:=⟨wb,i,none⟩) (D wb b0 V)
 have oc:∀j u,j≠0->w.cell? ⟨wb,j,none⟩=some u->(w4.setCell ⟨wb,0,none⟩ (.slice (some ⟨g,0,none⟩) (S.length+1) aJ)).cell? ⟨wb,j,none⟩=some u:=λ j u hj hu=>by
  rw[MC (h:=by intro e;injection e;omega),cc];exact hu
 have X:∀k,(MJ (some ⟨g,0,none⟩) (S.length+1) aJ).ownBlock=some k->g=k:=λ k F=>by simpa[MG]using F
 refine⟨⟨NC (u:=vs) _ _ _ ((cc 0).trans h.c0),λ y hy=>oc _ _ (by omega) (h.nm y hy),oc _ _ (by omega) h.c2,λ i=>by rw[MY,cf];exact h.fz i,?_,?_,λ k Y Q=>?_,by simp[MI];omega⟩,
  C.os,C.tape,C.output,by simp[MI];omega,λ k F I h2 _=>(MH _ _ _ _ I).trans (D k F h2),λ k F e=>?_,λ _ _ e=>e⟩
 ·rw[tP,LK];exact QO U (MQ _) _
 ·exact QO (iH h.rt (λ k F=>D k (h.rt.lt k F).2 (λ e=>h.ap k e F))) (MQ _) _
 ·have e:=X k Y;subst e;rcases J with I|I
  ·exact h.ap g I Q
  ·have:=(h.rt.lt g Q).2;omega
 ·have e':=X k e;subst e';rcases J with I|I
  ·exact I
  ·omega
theorem WK.moreE{w4:tW}(h:WK w wb num S E vs vst){o:Obj}{x:Nat}{g aJ:Nat}
  (U:w4.ownsRow (wb+1) 121 2 (.slice (some ⟨g,0,none⟩) (E.length+1) aJ) (E.length+1) (In E++[.int .i64 (x:Int),.slice none 0 0]))
  (C:(w.alloc o).grownBy w4 vst.ownBlock) (J:vst.ownBlock=some g\/g=w.heap.size+1):
  WK (w4.setCell ⟨wb,1025,none⟩ (.slice (some ⟨g,0,none⟩) (E.length+1) aJ)) wb num S (E++[(x,.slice none 0 0)]) vs (.slice (some ⟨g,0,none⟩) (E.length+1) aJ)/\
  FW w (w4.setCell ⟨wb,1025,none⟩ (.slice (some ⟨g,0,none⟩) (E.length+1) aJ)) wb vs vst vs (.slice (some ⟨g,0,none⟩) (E.length+1) aJ):=by
 have b0:=h.hb;have Z:=C.size;simp at Z;have D:∀k,k<w.heap.size->vst.ownBlock≠some k->w4.heap[k]?=w.heap[k]? :=λ k F hv=>(C.block k (by simp;omega) (λ e=>hv e.symm)).trans (MD w o k F)
 have V:vst.ownBlock≠some wb:=λ e=>by have:=(h.rt.lt wb e).1;omega
 have cc:∀i,w4.cell? ⟨wb,i,none⟩=w.cell? ⟨wb,i,none⟩:=λ i=>OG (w:=w) (a:=⟨wb,i,none⟩) (D wb b0 V)
 have cf:∀i,w4.frozen? ⟨wb,i,none⟩=w.frozen? ⟨wb,i,none⟩:=λ i=>OD (w:=w) (a:=⟨wb,i,none⟩) (D wb b0 V)
 have oc:∀j u,j≠1025->w.cell? ⟨wb,j,none⟩=some u->(w4.setCell ⟨wb,1025,none⟩ (.slice (some ⟨g,0,none⟩) (E.length+1) aJ)).cell? ⟨wb,j,none⟩=some u:=λ j u hj hu=>by
  rw[MC (h:=by intro e;injection e;omega),cc];exact hu
 have X:∀k,(MJ (some ⟨g,0,none⟩) (E.length+1) aJ).ownBlock=some k->g=k:=λ k F=>by simpa[MG]using F
 refine⟨⟨oc _ _ (by omega) h.c0,λ y hy=>oc _ _ (by omega) (h.nm y hy),NC (u:=vst) _ _ _ ((cc 1025).trans h.c2),λ i=>by rw[MY,cf];exact h.fz i,?_,?_,λ k Q Y=>?_,by simp[MI];omega⟩,
  C.os,C.tape,C.output,by simp[MI];omega,λ k F I _ h3=>(MH _ _ _ _ I).trans (D k F h3),λ _ _ e=>e,λ k F e=>?_⟩
 ·exact QO (iH h.rs (λ k F=>D k (h.rs.lt k F).2 (λ e=>h.ap k F e))) (MQ _) _
 ·rw[l8,LK];exact QO U (MQ _) _
 ·have e:=X k Y;subst e;rcases J with I|I
  ·exact h.ap g Q I
  ·have:=(h.rs.lt g Q).2;omega
 ·have e':=X k e;subst e';rcases J with I|I
  ·exact I
  ·omega
end
theorem cX:(Tryz.prog.info? 103).map (λ i=>(i.zero,i.size,i.bytes))=some (some (.int .i64 0),1,8):=by kernel_rfl
def IS(w:tW)(wb:Nat)(num:Nat->Int)(S:List Int)(E:List (Nat×tV))(vs vst:tV)(w':tW):Prop:=∃C o,WK w' wb num S E C o/\FW w w' wb vs vst C o
theorem Ng(wb:Nat)(num:Nat->Int)(S:List Int)(E:List (Nat×tV))(vs vst vf vl:tV)(aG:Nat->Int)(bB:List Int)(x:Int)(w:tW)(hS:S.length<=2000)(hE:E.length<=2000)(hl:bB.length<=1000000)
  (h:WK w wb num S E vs vst) (hr:Bk w vl bB) (hv:∀k,vl.ownBlock=some k->k<wb):
  QY LZ 69 #[.pointer (some ⟨wb,0,none⟩),.agg (mQ vf vl aG),.int .i64 x] w λ e w'=>e=.returned (.tuple #[])/\IS w wb num (S++[x]) (E++[(yT bB x,.slice none 0 0)]) vs vst w':=by
 have V:Bl w (w.alloc (.cells (mQ vf vl aG) 108)):=bR.alloc lR _;have aT:=fV (kD.box w vf vl aG 108 w.heap.size rfl);have D:=fV (h.below V);have aO:QP (FW w (w.alloc (.cells (mQ vf vl aG) 108)) wb vs vst vs vst):=FW.of_below V;have aW:=fV (hr.below V (λ k hk=>by have:=hv k hk;have:=h.hb;omega));clear h hr V;go_enter func69,ntmps69;go_wp2_with (first|(refine wpList_boxTo rfl 108 (.tmp 1) rfl _ rfl w.heap.size rfl (mQ vf vl aG) rfl ?_)|fail);generalize w.alloc (.cells (mQ vf vl aG) 108)=W at*;refine(Rb bB vl x w.heap.size vf aG W hl aT.o aW.o).mono ?_;rintro e w1 ⟨rfl,rfl⟩;obtain⟨tk,X⟩:=xE (yT bB x)
 rw[X];replace X:=fV X;obtain⟨va,aU,bN⟩:=gA D.o.rs;subst bN;obtain⟨ta,Z,bO⟩:=gA D.o.rt;subst bO;have c0:=D.o.c0;have f0:=D.o.fz 0;have J:=D.o.hb;have Q:some wb≠(MJ va S.length aU).ownBlock:=λ e=>by have:=(D.o.rs.lt wb e.symm).1;omega
 go_upto_region 3 with(first|(at_builtin;refine gB w1 rfl (.tmp 13) (.tmp 15) 48 rfl (wb+1) 103 (.int .i64 0) 1 8 OB cX rfl (by decide) (by decide) (.slice va S.length aU) S.length (pQ S) [.int .i64 x] _ rfl D.o.rs _ rfl rfl rfl (by simp[LM]) (by omega) (by omega) ?_;intro g4 cap4 w4 U C Y bK;have m3:=((gH C (k:=wb) J Q).1 0).trans c0;have n3:=((gH C (k:=wb) J Q).2 0).trans f0;have HM:=fV (D.o.moreS (x:=x) U C Y);clear c0 f0)|fail)
 have I:=fV HM.o.1;have bM:=fV (aO.o.trans HM.o.2);generalize w4.setCell ⟨wb,0,none⟩ (.slice (some ⟨g4,0,none⟩) (S.length+1) cap4)=w5 at*;clear HM U C Y bK m3 n3 Q D aT aW aO J;have c2:=I.o.c2;have f2:=I.o.fz 1025;have J:=I.o.hb;have Q:some wb≠(MJ ta E.length Z).ownBlock:=λ e=>by have:=(I.o.rt.lt wb e.symm).1;omega
 go_wp2_with (first|(at_builtin;refine gB w5 rfl (.tmp 23) (.tmp 26) 110 rfl (wb+1) 121 (.agg #[.int .i64 0,.slice none 0 0]) 2 32 underlying110 cS rfl (by decide) (by decide) (.slice ta E.length Z) E.length (In E) [.int .i64 (tk:Int),.slice none 0 0] _ rfl I.o.rt _ rfl rfl rfl (by simp[LM]) (by omega) (by omega) ?_;intro g6 bS w6 aL F bC bT;have m6:=((gH F (k:=wb) J Q).1 1025).trans c2;have n6:=((gH F (k:=wb) J Q).2 1025).trans f2;have aR:=fV (I.o.moreE (x:=tk) aL F bC);clear c2 f2)|fail)
 go_end0
 refine⟨rfl,_,_,?_,bM.o.trans aR.o.2⟩;rw[X.o];exact aR.o.1
theorem cE:(Tryz.prog.info? 108).map (·.size)=some 12:=by kernel_rfl
theorem ES{a b:tW}{v1 t1 v2 t2:tV}(h:FW a b wb v1 t1 v2 t2):FW a b.drew wb v1 t1 v2 t2:=⟨h.os,h.tape,h.output,h.size,h.block,h.s1,h.s2⟩
def GU(bB:List Int)(S:List Int)(E:List (Nat×tV))(x:Int):List (Nat×tV):=if x<=0\/1024<=x then E else if x∈S then E else E++[(yT bB x,.slice none 0 0)]
def IK(w:tW)(wb:Nat)(bB:List Int)(S:List Int)(E:List (Nat×tV))(vs vst:tV)(x:Int)(w':tW):Prop:=
 ∃o D C,WK w' wb o (zM S x).2 (GU bB S E x) D C/\Ac o (zM S x).2/\FW w w' wb vs vst D C
theorem GQ(wb:Nat)(num:Nat->Int)(S:List Int)(E:List (Nat×tV))(vs vst vf vl:tV)(aG:Nat->Int)(bB:List Int)(x:Int)(w:tW)(hS:qE S)(V:Ac num S)(hE:E.length<=2000)(hl:bB.length<=1000000)
  (h:WK w wb num S E vs vst) (hr:Bk w vl bB) (hv:∀k,vl.ownBlock=some k->k<wb):
  QY LZ 71 #[.pointer (some ⟨wb,0,none⟩),.agg (mQ vf vl aG),.int .i64 x] w λ e w'=>e=.returned (.int .i64 (zM S x).1)/\IK w wb bB S E vs vst x w':=by
 have U:Bl w (w.alloc (.cells (mQ vf vl aG) 108)):=bR.alloc lR _;have aO:QP ((w.alloc (.cells (mQ vf vl aG) 108)).rangeAt w.heap.size 0 (mQ vf vl aG).toList):=mE w _ _;have D:=fV (h.below U);have I:QP (FW w (w.alloc (.cells (mQ vf vl aG) 108)) wb vs vst vs vst):=FW.of_below U;have aL:=fV (hr.below U (λ k hk=>by have:=hv k hk;have:=h.hb;omega));have eO:=yR hS;have eT:wb<w.heap.size:=h.hb;clear h hr U;by_cases Y:x<=0\/1024<=x
 ·have C:QP (zM S x=(-1,S)/\GU bB S E x=E):=⟨by unfold zM;rw[aB Y],by unfold GU;rw[aB Y]⟩
  rcases(show x<=0\/(0<x/\1024<=x) by omega)with h1|⟨h0,h1⟩
  ·have aW:decide (x<=0)=true:=by simp;omega
   go_enter func71,OQ;go_wp2_with (first|(refine wpList_boxTo rfl 108 (.tmp 1) rfl _ rfl w.heap.size rfl (mQ vf vl aG) rfl ?_)|fail);go_ret;rw[C.o.1];exact⟨rfl,num,vs,vst,by rw[C.o.1,C.o.2];exact D.o,by rw[C.o.1];exact V,I.o⟩
  ·have aW:decide (x<=0)=false:=by simp;omega
   have cP:decide ((1024:Int)<=x)=true:=by simp;omega
   go_enter func71,OQ;go_wp2_with (first|(refine wpList_boxTo rfl 108 (.tmp 1) rfl _ rfl w.heap.size rfl (mQ vf vl aG) rfl ?_)|fail);go_ret;rw[C.o.1];exact⟨rfl,num,vs,vst,by rw[C.o.1,C.o.2];exact D.o,by rw[C.o.1];exact V,I.o⟩
 ·obtain⟨k,rfl⟩:∃k:Nat,x=(k:Int):=⟨x.toNat,by omega⟩
  have F:k<1024:=by omega
  have X:k≠0:=by omega
  have aW:decide ((k:Int)<=0)=false:=by simp;omega
  have cP:decide ((1024:Int)<=(k:Int))=false:=by simp;omega
  have eR:(0:Int)<=(k:Int)/\(k:Int)<1024:=by omega
  have nk:=D.o.nm k F;by_cases Q:(k:Int)∈S
  ·have C:QP (zM S (k:Int)=(((jT S (k:Int):Nat):Int),S)/\GU bB S E (k:Int)=E):=⟨by unfold zM;rw[aA Y,aB Q],by unfold GU;rw[aA Y,aB Q]⟩
   have J:num k=((jT S (k:Int):Nat):Int):=by rw[V k F,aB ⟨Q,X⟩]
   have eS:((num k:Int)==0)=false:=by rw[aC];exact λ e=>(Ml hS V F X).1 e Q
   rw[<-J]at C;have HN:=fV V;generalize num k=nv at*;clear Y Q J hS V;go_enter func71,OQ;go_wp2_with (first|(refine wpList_boxTo rfl 108 (.tmp 1) rfl _ rfl w.heap.size rfl (mQ vf vl aG) rfl ?_)|fail);go_ret;rw[C.o.1];exact⟨rfl,num,vs,vst,by rw[C.o.1,C.o.2];exact D.o,by rw[C.o.1];exact HN.o,I.o⟩
  ·have C:QP (zM S (k:Int)=(((S.length:Nat):Int),S++[(k:Int)])/\GU bB S E (k:Int)=E++[(yT bB (k:Int),.slice none 0 0)]):=⟨by unfold zM;rw[aA Y,aA Q],by unfold GU;rw[aA Y,aA Q]⟩
   have J:num k=0:=(Ml hS V F X).2 Q;have bS:=fV (Qj V X Q);rw[J]at nk;have c0:=D.o.c0;obtain⟨va,aU,eL⟩:=gA D.o.rs;subst eL;have fk:=D.o.fz (1+k);clear Y Q J hS V;go_enter func71,OQ;go_wp2_with (first|(refine wpList_boxTo rfl 108 (.tmp 1) rfl _ rfl w.heap.size rfl (mQ vf vl aG) rfl ?_)|fail);generalize w.alloc (.cells (mQ vf vl aG) 108)=W at*
   go_region
   all_goals
    have aR:=fV ((D.o.setN k F (S.length:Int)).drewN 1);have bM:QP (FW w (W.setCell ⟨wb,1+k,none⟩ (.int .i64 (S.length:Int))).drew wb (.slice va S.length aU) vst (.slice va S.length aU) vst):=I.o.trans (ES (FW.set W wb (1+k) _ _ _));have aT:Below wb W (W.setCell ⟨wb,1+k,none⟩ (.int .i64 (S.length:Int))).drew:=⟨rfl,rfl,rfl,by simp[MI],λ j hj=>MH _ _ _ _ (by simp only;omega)⟩
    have bT:=fV (aL.o.below aT hv);have bO:QP ((W.setCell ⟨wb,1+k,none⟩ (.int .i64 (S.length:Int))).drew.rangeAt w.heap.size 0 (mQ vf vl aG).toList):=fY aO.o (MH _ _ _ _ (by simp only;omega));clear D I aL aO nk fk c0 aT;have cN:QP (WK (W.setCell ⟨wb,1+k,none⟩ (.int .i64 (S.length:Int))).drew wb (λ j=>if j=k then(S.length:Int)else num j) S E (.slice va S.length aU) vst):=aR;clear aR;generalize (W.setCell ⟨wb,1+k,none⟩ (.int .i64 (S.length:Int))).drew=W1 at*;go_wp2_with (first|(refine QQ rfl 108 (.tmp 4) rfl w.heap.size 0 rfl (mQ vf vl aG).toList _ bO.o NG rfl cE ?_)|fail);refine(Ng wb _ S E _ vst vf vl aG bB (k:Int) W1 (by omega) hE hl cN.o bT.o hv).mono ?_;rintro e w2 ⟨rfl,eN,bK,Z,bC⟩;have cF:=fV Z;have bN:=fV (bM.o.trans bC);have eM:=Z.nm k F;rw[aB rfl]at eM;clear Z bC;go_wp2;go_ret;rw[C.o.1];exact⟨rfl,_,eN,bK,by rw[C.o.1,C.o.2];exact cF.o,by rw[C.o.1];exact bS.o,bN.o⟩
section
theorem GY{s:Nat}{zb:Nat->Nat}(o:s<=S.length)(x:Int):GU bB S (Jv bB S s zb K) x=Jv bB (zM S x).2 s zb K:=by
 unfold GU zM;split
 ·rfl
 ·split
  ·rfl
  ·unfold Jv;simp only[LK,List.length_singleton];rw[List.range_succ,NQ,PA];congr 1
   ·refine List.map_congr_left (λ i hi=>?_);have:=List.mem_range.1 hi;rw[LD,LD,LR this]
   ·rw[aA (by omega),LD,LU lR];simp
variable {w w':tW}{wb:Nat}{num:Nat->Int}{S:List Int}{E:List (Nat×tV)}{vs:tV}
theorem WK.setNext{C:Nat}(h:WK w wb num S E vs (.slice (some ⟨C,0,none⟩) E.length aJ)){s t:Nat}{u:tV}(J:E[s]?=some (t,u))(v:tV):
  WK (w.setCell ⟨C,s*2+1,none⟩ v) wb num S (E.set s (t,v)) vs (.slice (some ⟨C,0,none⟩) E.length aJ):=by
 have I:=(h.rt.lt C rfl).1;have o:∀j a,w.cell? ⟨wb,j,none⟩=some a->(w.setCell ⟨C,s*2+1,none⟩ v).cell? ⟨wb,j,none⟩=some a:=λ j a D=>by
  rw[MC (h:=by intro e;injection e;omega)];exact D
 refine⟨o _ _ h.c0,λ x Q=>o _ _ (h.nm x Q),o _ _ h.c2,λ i=>by rw[MY];exact h.fz i,?_,?_,h.ap,by have:=h.hb;simp[MI];omega⟩
 ·refine iH h.rs (λ k F=>MH _ _ _ _ (λ e=>h.ap k F ?_));simp only at e;rw[e];rfl
 ·rw[OH,<-EG E s t u v J];exact Rn h.rt _ _
theorem cY:MF=(MJ none 0 0::(ME 1024 (NS .i64 0)++[MJ none 0 0])).toArray:=by kernel_rfl
theorem fM:(Tryz.prog.info? 169).map (·.size)=some 1026:=by kernel_rfl
theorem cG:Tryz.zeroCells169.size=1026:=by rw[cY,List.size_toArray,List.length_cons,LK,NH];rfl
theorem dP:Tryz.zeroCells169.all (·.oneCell')=true:=by
 rw[cY];refine QS (λ v D=>?_);rcases NR.1 D with rfl|C
 ·rfl
 ·rcases LO.1 C with o|o
  ·rw[(List.mem_replicate.1 o).2];rfl
  ·rw[LI]at o;rw[o];rfl
theorem WK.start(w:tW)(wb:Nat)(Q:wb=w.heap.size):WK ((w.alloc (.cells MF 169)).setCells wb 0 Tryz.zeroCells169.toList) wb (λ _=>0) [] [] (.slice none 0 0) (.slice none 0 0):=by
 subst Q;have U:=iD w MF 169 w.heap.size 1026 cG rfl;have F:=LN (w.alloc (.cells MF 169)) w.heap.size 0 Tryz.zeroCells169.toList (by rw[MS,cG];exact U);have J:=(fX Tryz.zeroCells169.toList 0 (w.alloc (.cells MF 169)) w.heap.size (OZ 0 _) zL).size;simp at J;have D:Tryz.zeroCells169.toList=MJ none 0 0::(ME 1024 (NS .i64 0)++[MJ none 0 0]):=by rw[cY]
 rw[D]at F ⊢;have o:∀k v,(MJ none 0 0::(ME 1024 (NS .i64 0)++[MJ none 0 0]))[k]?=some v->((w.alloc (.cells MF 169)).setCells w.heap.size 0 (MJ none 0 0::(ME 1024 (NS .i64 0)++[MJ none 0 0]))).cell? ⟨w.heap.size,k,none⟩=some v:=λ k v C=>by
  have:=F k v C;rw[LS]at this;exact this
 refine⟨o 0 _ rfl,λ x I=>o _ _ ?_,o 1025 _ ?_,λ i=>?_,NU _ _ _ _,NU _ _ _ _,(λ k C _=>by cases C),?_⟩
 ·rw[Nat.add_comm,NN,LR (by rw[NH];exact I),List.getElem?_replicate,aB I]
 ·rw[NN,LU (by rw[NH];omega),NH];rfl
 ·rw[uX,OO]
 ·rw[D]at J;omega
end
def zU(w:tW)(wb:Nat)(vs vst:tV)(zb:Nat->Nat)(R:List (List Int)):Prop:=
 ∀i,i<R.length->wb<zb i/\zb i<w.heap.size/\vs.ownBlock≠some (zb i)/\vst.ownBlock≠some (zb i)/\w.rangeAt (zb i) 0 (pQ (R.getD i []))
theorem zU.step{w w':tW}{vs vst C o:tV}{zb:Nat->Nat}(h:zU w wb vs vst zb R)(F:FW w w' wb vs vst C o):zU w' wb C o zb R:=λ i hi=>by
 obtain⟨Q,D,I,J,U⟩:=h i hi;exact⟨Q,LP D F.size,λ e=>I (F.s1 _ D e),λ e=>J (F.s2 _ D e),fY U (F.block _ D (by omega) I J)⟩
theorem zU.other{w w':tW}{vs vst:tV}{zb:Nat->Nat}(h:zU w wb vs vst zb R)(hg:w.grownBy w' v)(J:∀k,v=some k->∀i,i<R.length->zb i≠k):zU w' wb vs vst zb R:=λ i hi=>by
 obtain⟨C,o,D,F,I⟩:=h i hi;exact⟨C,LP o hg.size,D,F,fY I (hg.block _ o (λ e=>J _ e.symm i hi rfl))⟩
theorem WK.other{w w':tW}{num:Nat->Int}{E:List (Nat×tV)}{vs vst:tV}(h:WK w wb num S E vs vst)(hg:w.grownBy w' v)(C:∀k,v=some k->k≠wb/\vs.ownBlock≠some k/\vst.ownBlock≠some k):WK w' wb num S E vs vst:=by
 have D:w'.heap[wb]?=w.heap[wb]? :=hg.block wb h.hb (λ e=>(C wb e.symm).1 rfl);have cl:∀i,w'.cell? ⟨wb,i,none⟩=w.cell? ⟨wb,i,none⟩:=λ i=>OG (w:=w) (a:=⟨wb,i,none⟩) D
 exact⟨(cl 0).trans h.c0,λ x F=>(cl _).trans (h.nm x F),(cl _).trans h.c2,λ i=>(OD (w:=w) (a:=⟨wb,i,none⟩) D).trans (h.fz i),
  iH h.rs (λ k o=>hg.block k (h.rs.lt k o).2 (λ e=>(C k e.symm).2.1 o)),iH h.rt (λ k o=>hg.block k (h.rt.lt k o).2 (λ e=>(C k e.symm).2.2 o)),h.ap,LP h.hb hg.size⟩
structure JD(W:tW)(n0:Nat)(vf vl:tV)(aG:Nat->Int)(bB G:List Int)(pg pcap:Nat):Prop where
 nt:kD W n0 vf vl aG
 rg:W.rangeAt n0 0 (mQ vf vl aG).toList
 gc:W.cell? ⟨n0+1,256,none⟩=some (.slice (some ⟨pg,0,none⟩) G.length pcap)
 rl:Bk W vl bB
 gl:∀j a,G[j]?=some a->W.cell? ⟨pg,j,none⟩=some (.int .i64 a)
 hv:∀k,vl.ownBlock=some k->k<n0
 hp:pg<n0
theorem JD.below{W F:tW}{vf vl:tV}{aG:Nat->Int}{C:Nat}(h:JD W n0 vf vl aG bB G pg C)(o:Below B W F)(Q:n0+1+1<=B):JD F n0 vf vl aG bB G pg C:=by
 have J:=h.hp;exact⟨⟨(o.cell (p:=⟨n0,0,none⟩) (show n0<B by omega)).trans h.nt.c0,(o.cell (p:=⟨n0,1,none⟩) (show n0<B by omega)).trans h.nt.c1,λ k D=>(o.cell (p:=⟨n0,2+k,none⟩) (show n0<B by omega)).trans (h.nt.nx k D),λ i=>(o.frozen (p:=⟨n0,i,none⟩) (show n0<B by omega)).trans (h.nt.fz i)⟩,
  fY h.rg (o.block n0 (by omega)),(o.cell (p:=⟨n0+1,256,none⟩) (show n0+1<B by omega)).trans h.gc,h.rl.below o (λ k D=>by have:=h.hv k D;omega),λ j a I=>(o.cell (p:=⟨pg,j,none⟩) (show pg<B by omega)).trans (h.gl j a I),h.hv,J⟩
theorem rV{w:tW}{size:Nat}{xs:List tV}(h:w.ownsRow aH e size (.slice (some ⟨g,0,none⟩) n aJ) n xs)(i:Nat):w.frozen? ⟨g,i,none⟩=false:=by
 rcases h.2 with⟨I,_⟩|⟨J,o,C,F,D,hg,_⟩
 ·cases I
 ·cases F
  unfold World.frozen?;simp only[hg];simp
theorem JR:Ac (λ _=>0) [0]:=λ x _=>by
 by_cases h:(x:Int)∈ [(0:Int)]/\x≠0
 ·have:=h.1;simp at this;omega
 ·rw[aA h]
theorem GO:qE [0]:=⟨rfl,by simp,λ x o=>by simp at o;omega⟩
def Uu(w:tW)(K:Nat)(bB:List Int)(P:List Int×List (List Int))(e:Ending)(w':tW):Prop:=
 ∃(o aJ:Nat)(zb:Nat->Nat),e=.returned (.slice (some ⟨o,0,none⟩) P.1.length aJ)/\Bl w w'/\
  Ur w' w'.heap.size o P.1.length K zb (λ s=>yT bB (P.1.getD s 0)) (λ s k=>(P.2.getD s []).getD k 0)
theorem Nq(vf vl:tV)(aG:Nat->Int)(bB G:List Int)(GA:Array tV)(pg Y:Nat)(aP:Int)(w:tW)(hl:bB.length<=1000000)(hr:Bk w vl bB)(hv:∀k,vl.ownBlock=some k->k<w.heap.size)
  (W0:GA[256]?=some (.slice (some ⟨pg,0,none⟩) G.length Y)) (b6:G.length<=300) (hG:∀j a,G[j]?=some a->w.cell? ⟨pg,j,none⟩=some (.int .i64 a)) (H2:pg<w.heap.size):
  QY LZ 39 #[.agg (mQ vf vl aG),.agg GA,.int .i64 aP] w λ e w'=>Uu w G.length bB (jF aG aP G) e w':=by
 obtain⟨i0,X1,a2,a3,bK⟩:=QT bU;have HI:QP (Tryz.prog.info? 3=some i0/\i0.zero=some (.int .i64 0)/\i0.size=1/\i0.bytes=8):=⟨X1,a2,a3,bK⟩
 clear X1 a2 a3 bK;obtain⟨W2,V⟩:=xE ((w.alloc (.cells (mQ vf vl aG) 108)).alloc (.cells GA 50))
 have bK:W2.heap.size=w.heap.size+1+1:=by rw[<-V];simp
 have hH:Below w.heap.size w W2:=by rw[<-V];exact(bR.alloc lR _).alloc (by simp) _
 have W1:kD W2 w.heap.size vf vl aG:=by
  have h1:=kD.box w vf vl aG 108 w.heap.size rfl;have hb:Below (w.heap.size+1) (w.alloc (.cells (mQ vf vl aG) 108)) W2:=by rw[<-V];exact bR.alloc (by simp) _
  exact⟨(hb.cell (p:=⟨w.heap.size,0,none⟩) (MQ _)).trans h1.c0,(hb.cell (p:=⟨w.heap.size,1,none⟩) (MQ _)).trans h1.c1,λ k U=>(hb.cell (p:=⟨w.heap.size,2+k,none⟩) (MQ _)).trans (h1.nx k U),λ i=>(hb.frozen (p:=⟨w.heap.size,i,none⟩) (MQ _)).trans (h1.fz i)⟩
 have T3:W2.cell? ⟨w.heap.size+1,256,none⟩=some (.slice (some ⟨pg,0,none⟩) G.length Y):=by
  rw[<-V];exact(MO _ _ (w.heap.size+1) 256 (by simp)).trans W0
 have W4:W2.rangeAt w.heap.size 0 (mQ vf vl aG).toList:=by
  have h1:=mE w (mQ vf vl aG) 108;rw[<-V];exact fY h1 (MD _ _ _ (by simp))
 have HW:=fV (WK.start W2 (w.heap.size+1+1) bK.symm);have HT:=fV (iD W2 MF 169 (w.heap.size+1+1) 1026 cG bK);have sR:QP (Below (w.heap.size+1+1) W2 ((W2.alloc (.cells MF 169)).setCells (w.heap.size+1+1) 0 Tryz.zeroCells169.toList)):=fX _ 0 _ _ (bR.alloc (by rw[bK];exact lR) _) lR;have H6:=fV hH;have Z:=fV W1;have tL:=fV T3;have O3:=fV W4;have O8:=fV (hr.below hH hv);have HG:=fV hG;have N0:QP (∀j a,G[j]?=some a->W2.cell? ⟨pg,j,none⟩=some (.int .i64 a)):=λ j a h=>(hH.cell (p:=⟨pg,j,none⟩) H2).trans (hG j a h)
 replace V:=fV V;clear hr W0 hG hH W1 T3 W4;obtain⟨K,hK⟩:=xE (G.length)
 rw[hK]at b6 tL ⊢;replace hK:=fV hK;go_enter func39,ntmps39;go_upto_region 2 with(first
  | (refine wpList_boxTo rfl 108 (.tmp 0) rfl _ rfl w.heap.size rfl (mQ vf vl aG) rfl ?_)
  | (refine wpList_boxTo rfl 50 (.tmp 1) rfl _ rfl (w.heap.size+1) (by simp) GA rfl ?_)
  | (refine QR rfl 169 (.tmp 7) (.tmp 14) rfl (w.heap.size+1+1) 0 MF rfl rfl ?_ ?_ dP ?_;(rw[cG,V.o];exact HT.o);(rw[cG];exact fM);rw[V.o]))
 have eM:QP (JD ((W2.alloc (.cells MF 169)).setCells (w.heap.size+1+1) 0 Tryz.zeroCells169.toList) w.heap.size vf vl aG bB G pg Y):=
  (⟨Z.o,O3.o,by rw[hK.o];exact tL.o,O8.o,N0.o,hv,H2⟩:JD W2 w.heap.size vf vl aG bB G pg Y).below sR.o lR
 have M2:QP (Below w.heap.size w ((W2.alloc (.cells MF 169)).setCells (w.heap.size+1+1) 0 Tryz.zeroCells169.toList)):=H6.o.trans (sR.o.mono (by omega));generalize (W2.alloc (.cells MF 169)).setCells (w.heap.size+1+1) 0 Tryz.zeroCells169.toList=W3 at*;clear HT sR H6 Z tL O3 O8 HG N0 V bK;obtain⟨n0,E6⟩:=xE (w.heap.size)
 have cN:=M2;rw[E6]at eM cN HW hv H2 ⊢;clear M2;have Pl:∀k,vl.ownBlock=some k->k<n0+1+1:=λ k U=>by have:=hv k U;omega
 go_wp2_with (first|(refine QQ rfl 108 (.tmp 3) rfl n0 0 rfl (mQ vf vl aG).toList _ eM.o.rg NG rfl cE ?_)|fail);refine(Ng (n0+1+1) (λ _=>0) [] [] _ _ vf vl aG bB 0 W3 (by simp) (by simp) hl HW.o eM.o.rl Pl).mono ?_;rintro e w4 ⟨rfl,a7,rO,a0,X0⟩;have A3:=X0.below HW.o;have P0:QP (WK w4 (n0+1+1) (λ _=>0) [0] (Jv bB [0] 0 (λ _=>0) K) a7 rO):=a0;have hR:=fV (eM.o.below A3 lR);have L1:=fV (cN.o.trans (A3.mono (by omega)));clear a0 X0 A3 HW eM cN;obtain⟨PP,hD⟩:=xE (jF aG aP G)
 replace hD:=fV hD;go_wp2_with fail
 go_loopg [8] 1025 (λ gk sv wr=>∃(s:Nat)(S:List Int)(R:List (List Int)) (num:Nat->Int) (zb:Nat->Nat) (vs vst:tV),sv=.int .i64 (s:Int)/\s+gk=1025/\R.length=s/\s<=S.length/\qE S/\Ac num S/\PP=oA aG aP G gk s S R/\(∀r∈R,r.length=K)/\
  WK wr (n0+1+1) num S (Jv bB S s zb K) vs vst/\zU wr (n0+1+1) vs vst zb R/\JD wr n0 vf vl aG bB G pg Y/\Below n0 w wr)
 case atStart=>exact⟨0,[0],[],λ _=>0,λ _=>0,a7,rO,rfl,rfl,rfl,by simp,GO,JR,hD.o.symm,λ r hr=>absurd hr (LY),P0.o,λ i hi=>absurd hi (OS _),hR.o,L1.o⟩
 case round=>
  obtain⟨s,S,R,num,zb,vs,vst,rfl,f2,W6,f1,H0,nN,W9,W5,hB,Q,gL,hb⟩:=hrel;have HQ:=fV W9;have I:=fV hB;have aL:=fV Q;have bM:=fV gL;have HB:=fV hb;have O0:=fV H0;have b0:=fV nN;have aO:=fV W6;have O5:=fV W5;have e7:=yR H0;clear W9 hB Q gL hb H0 nN W6 W5 P0 hR L1;obtain⟨d,rfl⟩:∃d,gk=d+1:=⟨gk-1,by omega⟩
  have W7:0<S.length:=(LH.1 O0.o.zero).1;obtain⟨va,aU,d2,_,_⟩:=I.o.rs.form W7;subst d2;obtain⟨tg,a5,d3,_,_⟩:=I.o.rt.form (by rw[uD];exact W7);subst d3;have c0:=I.o.c0;by_cases hJ:s<S.length
  ·have A0:QP (PP=oA aG aP G d (s+1) (wR (kY aG aP S s) G [] S).2 (R++[(wR (kY aG aP S s) G [] S).1])):=by unfold QP;rw[HQ.o,oA,aB hJ]
   have c3:decide ((s:Int)<(S.length:Int))=true:=by simp;omega
   go_upto_if 26 with fail
   go_cut [9] from 17 to 59 (λ av wc=>av=.int .i64 (kY aG aP S s)/\wc=wr)
   case first=>
    by_cases hL:s=0
    ·have c4:decide (0<s)=false:=by simp;omega
     have e2:¬0<s:=by omega
     have HA:QP (kY aG aP S s=aP):=by unfold QP kY;rw[aB hL]
     clear hL;go_wp2;go_meet
     case rel=>exact⟨by rw[HA.o],rfl⟩
    ·have c4:decide (0<s)=true:=by simp;omega
     have e3:0<s:=by omega
     have HA:QP (kY aG aP S s=Bt aG (S.getD s 0)):=by unfold QP kY;rw[aA hL]
     have cs:wr.cell? ⟨va,s,none⟩=some (.int .i64 (S.getD s 0)):=by
      have:=nV I.o.rs s (.int .i64 (S.getD s 0)) (by unfold pQ;rw[MB,LF hJ,LD,LF hJ];rfl);rw[LS]at this;exact this
     have c9:(0:Int)<=(s:Int)/\(s:Int)<(S.length:Int):=by omega
     generalize S.getD s 0=y at*;clear hL;go_wp2_with fail;refine(Mm aG y n0 vf vl wr bM.o.nt).mono ?_;rintro e w5 ⟨rfl,rfl⟩;go_wp2;go_meet
     case rel=>exact⟨by rw[HA.o],rfl⟩
   case rest=>
    obtain⟨rfl,rfl⟩:=hcut;have eO:=bM.o.gc;rw[hK.o]at eO;obtain⟨AH,rT⟩:=xE (kY aG aP S s)
    rw[rT]at A0 ⊢;replace rT:=fV rT;have eR:=HB.o.size;rw[E6]at eR;go_wp2_with (first|(at_make;refine QV wc rfl _ _ 59 rfl wc.heap.size 3 i0 (.int .i64 0) 1 NK HI.o.1 HI.o.2.1 HI.o.2.2.1 .i64 .i64 _ K rfl rfl rfl (by rw[HI.o.2.2.2];omega) (by unfold QX;omega) lR ?_;intro w6 eX bC;have cF:QP (Below wc.heap.size wc w6):=(⟨bC.os,bC.tape,bC.output,bC.size,λ k U=>bC.block k U (by simp)⟩:Below wc.heap.size wc w6);have d4:=I.o.hb;have S5:=(cF.o.cell (p:=⟨n0+1,256,none⟩) (show n0+1<wc.heap.size by omega)).trans eO;clear eO));have hU:=fV (I.o.below cF.o);have eN:=fV (aL.o.other bC (λ k U=>by cases U));have hS:=fV (bM.o.below cF.o (by omega));have hN:=fV (HB.o.trans (cF.o.mono eR));have tO:=fV eX;have hM:∀i,i<R.length->zb i<wc.heap.size:=λ i hi=>(aL.o i hi).2.1
    have d1:va<wc.heap.size:=(I.o.rs.lt va rfl).2;have d0:tg<wc.heap.size:=(I.o.rt.lt tg rfl).2;clear eX bC cF I aL bM HB S5 c0;replace hM:=fV hM;obtain⟨C,hC⟩:=xE (wc.heap.size)
    rw[hC]at tO hM d1 d0 d4 eR ⊢;obtain⟨RP,hE⟩:=xE (wR AH G [] S)
    rw[hE]at A0;replace hE:=fV hE
    go_loopg [10,40] K (λ gj nv iv wj=>∃(j:Nat)(aS S':List Int)(aR:Nat->Int)(bT aW:tV),nv=.slice (some ⟨C,0,none⟩) j K/\iv=.int .i64 (j:Int)/\j+gj=K/\aS.length=j/\S.length<=S'.length/\qE S'/\Ac aR S'/\RP=wR AH (G.drop j) aS S'/\
     wj.ownsRow C 3 1 (.slice (some ⟨C,0,none⟩) j K) j (pQ aS)/\WK wj (n0+1+1) aR S' (Jv bB S' s zb K) bT aW/\bT.ownBlock≠some C/\aW.ownBlock≠some C/\zU wj (n0+1+1) bT aW zb R/\JD wj n0 vf vl aG bB G pg Y/\Below n0 w wj)
    case atStart=>exact⟨0,[],S,num,_,_,rfl,rfl,by omega,rfl,lR,O0.o,b0.o,by rw[PQ];exact hE.o.symm,tO.o,hU.o,(by simp[MG];omega),(by simp[MG];omega),eN.o,hS.o,hN.o⟩
    case round=>
     obtain⟨j,aS,S',aR,bT,aW,rfl,rfl,f0,hW,e6,eS,lH,Go,eT,hB,hY,iN,Q,gL,hb⟩:=hrel;have O7:=fV Go;have tT:=fV eT;have D:=fV hB;have hF:=fV hY;have Z:=fV iN;have bO:=fV Q;have X:=fV gL;have sW:=fV hb;have eL:=fV eS;have cP:=fV lH;have H5:=fV hW;have e1:=yR eS;have A1:C<wr.heap.size:=(eT.lt C rfl).2;clear Go eT hB hY iN Q gL hb eS lH hW tO hU eN hS hN;by_cases c7:j<K
     ·obtain⟨j',rfl⟩:∃j',gk=j'+1:=⟨gk-1,by omega⟩
      have X2:j<G.length:=by rw[hK.o];exact c7
      have B2:G[j]?=some (G[j]):=LF X2;have ca:=X.o.gl j _ B2;have bN:=fV (O7.o.trans (Hg B2));generalize G[j]=a at*;have e4:QP (bits .and .i64 AH a=nQ AH a):=rfl;have hA:=GQ (n0+1+1) aR S' (Jv bB S' s zb K) bT aW vf vl aG bB (nQ AH a) wr eL.o cP.o (by rw[uD];omega) hl D.o X.o.rl Pl;unfold IK at hA;rw[GY (by omega)]at hA;have Ha:=Jt eL.o (nQ AH a);have c5:=dT j K (by omega)
      have e9:=iI j K (by omega)
      generalize zM S' (nQ AH a)=TP at*;obtain⟨y,S2⟩:=TP;simp only at hA Ha bN;clear B2 X2;go_wp2_with (first|(refine QQ rfl 108 (.tmp 3) rfl n0 0 rfl (mQ vf vl aG).toList _ X.o.rg NG rfl cE ?_)|fail);refine hA.mono ?_;rintro e w7 ⟨rfl,a4,a6,rL,qR,nL,J⟩;have B1:=J.below D.o;have b4:=fV qR;have N1:=fV nL;have b1:QP (w7.ownsRow C 3 1 (.slice (some ⟨C,0,none⟩) j K) j (pQ aS)):=fV (iH tT.o (λ k U=>by
       have e:C=k:=by simpa[MG]using U
       subst e;exact J.block C A1 (by omega) hF.o Z.o))
      have hP:QP (a6.ownBlock≠some C):=λ e=>hF.o (J.s1 C A1 e)
      have hQ:QP (rL.ownBlock≠some C):=λ e=>Z.o (J.s2 C A1 e)
      have O9:=fV (bO.o.step J);have O6:=fV (X.o.below B1 lR);have a8:=fV (sW.o.trans (B1.mono (by omega)));have e0:C<w7.heap.size:=by have:=J.size;omega
      clear qR nL J B1 hA tT D hF Z bO X sW cP ca;go_wp2_with (first|(at_builtin;refine lD w7 rfl _ _ 59 rfl C 3 (.int .i64 0) 1 8 NK bU C j K (pQ aS) [.int .i64 y] _ rfl b1.o _ rfl rfl rfl (by simp[LM]) (by omega) ?_;intro w8 H1 hI)|fail);go_roundg j'
      case measure=>omega
      case rel=>
       have c6:=OY w7 (.cells #[.int .i64 y] 3) (some C);have F:=gD c6 hI;refine⟨j+1,aS++[y],S2,a4,a6,rL,rfl,by go_num,by omega,by simp[H5.o],by omega,Ha.1,N1.o,bN.o,by rw[tP];exact H1,b4.o.other F (λ k U=>?_),hP.o,hQ.o,O9.o.other F (λ k U i hi=>?_),O6.o.below (⟨F.os,F.tape,F.output,F.size,λ k U=>F.block k (by omega) (λ e=>by injection e;omega)⟩:Below (n0+1+1) w7 w8) lR,a8.o.trans (⟨F.os,F.tape,F.output,F.size,λ k U=>F.block k (by omega) (λ e=>by injection e;omega)⟩:Below n0 w7 w8)⟩
       ·injection U with U;subst U;exact⟨by omega,hP.o,hQ.o⟩
       ·injection U with U;subst U;have:=hM.o i hi;omega
     ·have e:gk=0:=by omega
      subst e;have b5:j=K:=by omega
      subst b5;have c5:=dF j j (by omega)
      have bN:QP (RP=(aS,S')):=by unfold QP;rw[O7.o,<-hK.o,ON];rfl
      have hV:0<S'.length:=by omega
      obtain⟨aT,d5,Hb,_,_⟩:=D.o.rt.form (by rw[uD];exact hV);subst Hb;have c2:=D.o.c2;rw[uD]at c2;have qL:s<S'.length:=by omega
      have A2:(Jv bB S' s zb j)[s]?=some (yT bB (S'.getD s 0),.slice none 0 0):=by unfold Jv;rw[MB,NW qL,OI,aA (by omega)]
      have e5:wr.cell? ⟨aT,s*2+1,none⟩=some (.slice none 0 0):=by
       have:=D.o.rt.cells rfl (s*2+1) _ (Io _ s _ _ A2).1;simpa[Addr.add]using this
      have d6:wr.frozen? ⟨aT,s*2+1,none⟩=false:=rV D.o.rt _;have hT:=fV (D.o.setNext A2 (.slice (some ⟨C,0,none⟩) j j));rw[<-EH qL,uD]at hT;have f3:=(D.o.rt.lt aT rfl).1;have a9:QP (∀i,i<R.length->aT≠zb i):=λ i hi e=>(bO.o i hi).2.2.2.1 (by simp[MG];exact e)
      have c9:(0:Int)<=(s:Int)/\(s:Int)<(S'.length:Int):=by omega
      have b3:=fV (nV tT.o);clear A2 hV;go_wp2;go_roundg d
      case measure=>omega
      case rel=>
       have W8:Below (n0+1+1) wr (wr.setCell ⟨aT,s*2+1,none⟩ (.slice (some ⟨C,0,none⟩) j j)):=bR.setCell (p:=⟨aT,s*2+1,none⟩) (by show n0+1+1<=aT;omega) _;have c8:C≠aT:=λ e=>Z.o (by rw[e];rfl)
       refine⟨s+1,S',R++[aS],aR,λ i=>if i=s then C else zb i,bT,_,by go_num,by omega,by simp[aO.o],by omega,eL.o,cP.o,?_,λ r hr=>?_,hT.o,λ i hi=>?_,X.o.below W8 lR,sW.o.trans (W8.mono (by omega))⟩
       ·have:=A0.o;rw[bN.o]at this;exact this
       ·rcases LO.1 hr with h1|h1
        ·exact O5.o r h1
        ·rw[LI]at h1;rw[h1];exact H5.o
       ·simp[aO.o]at hi;by_cases e:i=s
        ·subst e;simp only[aB];refine⟨by omega,by simp[MI];omega,hF.o,?_,?_⟩
         ·have:=Z.o;rw[uD]at this;exact this
         ·have h1:(R++[aS]).getD i []=aS:=by rw[LD,LU (by rw[aO.o];exact lR),aO.o];simp
          rw[h1];exact fY b3.o (MH _ _ _ _ c8)
        ·have bS:i<R.length:=by rw[aO.o];omega
         simp only[aA e];obtain⟨q1,q2,q3,q4,q5⟩:=bO.o i bS;have h1:(R++[aS]).getD i []=R.getD i []:=by rw[LD,LD,LR bS]
         refine⟨q1,by simp[MI];omega,q3,?_,?_⟩
         ·rw[uD]at q4;exact q4
         ·rw[h1];exact fY q5 (MH _ _ _ _ (λ e=>a9.o i bS e.symm))
  ·have HE:QP (PP=(S,R)):=by unfold QP;rw[HQ.o,oA,aA hJ]
   have H4:s=S.length:=by omega
   have c3:decide ((s:Int)<(S.length:Int))=false:=by simp;omega
   have c2:=I.o.c2;rw[uD]at c2;go_wp2;go_ret;rw[hD.o,HE.o];refine⟨tg,a5,zb,rfl,by have hh:=HB.o;rw[<-E6]at hh;exact hh,?_⟩;have H3:=I.o.rt;rw[uD]at H3;have T2:∀i,i<S.length->(Jv bB S s zb K)[i]?=some (yT bB (S.getD i 0),.slice (some ⟨zb i,0,none⟩) K K):=λ i hi=>by
    unfold Jv;rw[MB,NW hi,OI,aB (by omega)]
   have X4:∀j v,(In (Jv bB S s zb K))[j]?=some v->wr.cell? ⟨tg,j,none⟩=some v:=λ j v hj=>by
    have:=H3.cells rfl j v hj;by_cases h0:j=0
    ·subst h0;simpa[Addr.add]using this
    ·simpa[Addr.add,h0]using this
   refine⟨λ i hi=>X4 _ _ (Io _ i _ _ (T2 i hi)).2,λ i hi=>X4 _ _ (Io _ i _ _ (T2 i hi)).1,λ i k hi U=>?_,(H3.lt tg rfl).2,λ i hi=>(aL.o i (by rw[aO.o,H4];exact hi)).2.1⟩;have hr:=(aL.o i (by rw[aO.o,H4];exact hi)).2.2.2.2;have hX:(R.getD i []).length=K:=by
    have bS:i<R.length:=by rw[aO.o,H4];exact hi
    rw[LD,LF bS];exact O5.o _ (MA bS)
   have:=hr k (.int .i64 ((R.getD i []).getD k 0)) (by
    unfold pQ;rw[MB,LF (by rw[hX];exact U)]
    conv=>rhs;rw[LD,LF (by rw[hX];exact U)]
    rfl)
   rw[LS]at this;exact this
theorem cB:(Tryz.prog.info? 119).map (·.size)=some 6:=by kernel_rfl
theorem dE:(Tryz.prog.info? 117).map (·.size)=some 4:=by kernel_rfl
theorem dZ(a b c d:Bool)(w:tW):(Instr.index 117 (.agg #[.bool a,.bool b,.bool c,.bool d]) (.int .i64 0)).run LZ w=.ok (.bool a) w:=by kernel_rfl
theorem eA(a b c d:Bool)(w:tW):(Instr.index 117 (.agg #[.bool a,.bool b,.bool c,.bool d]) (.int .i64 1)).run LZ w=.ok (.bool b) w:=by kernel_rfl
theorem eB(a b c d:Bool)(w:tW):(Instr.index 117 (.agg #[.bool a,.bool b,.bool c,.bool d]) (.int .i64 2)).run LZ w=.ok (.bool c) w:=by kernel_rfl
theorem eC(a b c d:Bool)(w:tW):(Instr.index 117 (.agg #[.bool a,.bool b,.bool c,.bool d]) (.int .i64 3)).run LZ w=.ok (.bool d) w:=by kernel_rfl
theorem eW(f:Nat->Bool)(j:Nat)(o:j<4)(w:tW):(Instr.index 117 (.agg #[.bool (f 0),.bool (f 1),.bool (f 2),.bool (f 3)]) (.int .i64 (j:Int))).run LZ w=.ok (.bool (f j)) w:=by
 have:j=0\/j=1\/j=2\/j=3:=by omega
 rcases this with e|e|e|e
 ·rw[e];exact dZ (f 0) (f 1) (f 2) (f 3) w
 ·rw[e];exact eA (f 0) (f 1) (f 2) (f 3) w
 ·rw[e];exact eB (f 0) (f 1) (f 2) (f 3) w
 ·rw[e];exact eC (f 0) (f 1) (f 2) (f 3) w
theorem cQ{o:Oper}{w:tW}{Q:Exit->Act->tW->Prop}(hg:o.guard=none)(x y:Operand)(F:o.op=.index 117 x y)(f:Nat->Bool)(j:Nat)(D:j<4)
  (J:a.eval x=.agg #[.bool (f 0),.bool (f 1),.bool (f 2),.bool (f 3)]) (U:a.eval y=.int .i64 (j:Int)) (h:wpList LZ ops Q rest (a.put o.dst (.bool (f j))) w):wpList LZ ops Q (o::rest) a w:=by
 refine QW hg λ K C=>?_
 have I:=eW f j D w;unfold Oper.wp execOp;simp only[F,J,U,Sem.run_bind,I,Result.andThen_ok];exact C _ _ h
structure xS(w:tW)(b:Nat)(x:(Nat->Bool)×Int×Int):Prop where
 rg:w.rangeAt b 0 (nH x)
 cs:w.rangeAt b 0 [.bool (x.1 0),.bool (x.1 1),.bool (x.1 2),.bool (x.1 3)]
 c4:w.cell? ⟨b,4,none⟩=some (.int .i64 x.2.1)
 c5:w.cell? ⟨b,5,none⟩=some (.int .i64 x.2.2)
theorem xS.mk'{w:tW}{b:Nat}{x:(Nat->Bool)×Int×Int}(h:w.rangeAt b 0 (nH x)):xS w b x:=by
 refine⟨h,λ j v o=>?_,?_,?_⟩
 ·refine h j v ?_;have C:j<4:=(LH.1 o).1;have:j=0\/j=1\/j=2\/j=3:=by omega
  rcases this with rfl|rfl|rfl|rfl<;>exact o
 ·exact h 4 _ rfl
 ·exact h 5 _ rfl
theorem Qs(aX:List ((Nat->Bool)×Int×Int))(rg F:Nat)(vn vp:tV)(w:tW)(hn:aX.length<=1000)(J:∀x∈aX,0<=x.2.1/\x.2.1<=1000)(hr:uC w rg aX)(hg:rg<w.heap.size):
  QY LZ 37 #[.agg #[.slice (some ⟨rg,0,none⟩) aX.length F,vn,vp]] w λ e w'=>e=.returned (.int .i64 ((iP aX 1:Nat):Int))/\Bl w w':=by
 have HR:=fV hr;have cF:=fV J;clear hr J;obtain⟨n,Y⟩:=xE (aX.length)
 rw[Y]at hn ⊢;replace Y:=fV Y;have c0:(w.alloc (.cells #[.slice (some ⟨rg,0,none⟩) n F,vn,vp] 44)).cell? ⟨w.heap.size,0,none⟩=some (.slice (some ⟨rg,0,none⟩) n F):=(MO _ _ w.heap.size 0 rfl).trans rfl;have aR:QP (Bl w (w.alloc (.cells #[.slice (some ⟨rg,0,none⟩) n F,vn,vp] 44))):=bR.alloc lR _;go_enter func37,ntmps37;go_upto_region 2 with fail;generalize w.alloc (.cells #[.slice (some ⟨rg,0,none⟩) n F,vn,vp] 44)=W at*;go_wp2_with fail;clear c0;obtain⟨FC,Z⟩:=xE (iP aX 1)
 replace Z:=fV Z
 go_loopg [3,11] n (λ gk cv iv wr=>∃(k c:Nat),cv=.int .i64 (c:Int)/\iv=.int .i64 (k:Int)/\k+gk=n/\c<=1000/\FC=iP (aX.drop k) c/\Bl w wr)
 case atStart=>exact⟨0,1,rfl,rfl,by omega,by omega,Z.o.symm,aR.o⟩
 case round=>
  obtain⟨k,c,rfl,rfl,eX,hc,bS,hb⟩:=hrel;have HQ:=fV bS;have HB:=fV hb;have bT:=hb.size;clear bS hb aR;by_cases eO:k<n
  ·obtain⟨d,rfl⟩:∃d,gk=d+1:=⟨gk-1,by omega⟩
   have aO:k<aX.length:=by rw[Y.o];exact eO
   have hx:aX[k]?=some (aX[k]):=LF aO;have bM:=fV ((HR.o.below HB.o hg) k _ hx);have bK:=fV (HQ.o.trans (Ch hx c));have eR:=cF.o _ (MA aO);generalize aX[k]=x at*;obtain⟨f,I,ro⟩:=x;simp only at eR;have U:QP (xS ((wr.alloc (.cells #[.bool false,.bool false,.bool false,.bool false,.int .i64 0,.int .i64 0] 119)).setCells wr.heap.size 0 (nH (f,I,ro))) wr.heap.size (f,I,ro)):=
    xS.mk' (LN _ _ _ _ (pA wr [.bool false,.bool false,.bool false,.bool false,.int .i64 0,.int .i64 0] 119 6 rfl))
   have aT:QP (Bl w ((wr.alloc (.cells #[.bool false,.bool false,.bool false,.bool false,.int .i64 0,.int .i64 0] 119)).setCells wr.heap.size 0 (nH (f,I,ro)))):=fX _ 0 _ wr.heap.size (HB.o.alloc bT _) bT;have bN:=fV (pA wr [.bool false,.bool false,.bool false,.bool false,.int .i64 0,.int .i64 0] 119 6 rfl);have cP:=dT k n (by omega)
   have eT:=iI k n (by omega)
   clear hx aO;go_upto_region 5 with(first
    | (refine QQ rfl 119 (.tmp 13) rfl rg (k*6) rfl (nH (f,I,ro)) _ bM.o NY rfl cB ?_)
    | (refine QR rfl 119 (.tmp 5) (.tmp 14) rfl wr.heap.size 0 (nH (f,I,ro)).toArray rfl rfl ?_ ?_ ?_ ?_;exact bN.o;exact cB;(simp[nH,LM])))
   generalize (wr.alloc (.cells #[.bool false,.bool false,.bool false,.bool false,.int .i64 0,.int .i64 0] 119)).setCells wr.heap.size 0 (nH (f,I,ro))=w5 at*;have c4:=U.o.c4;simp only at c4;have cN:QP (w5.rangeAt wr.heap.size 0 [.bool (f 0),.bool (f 1),.bool (f 2),.bool (f 3)]):=U.o.cs;have bC:QP (N2 (f,I,ro) c=if((vP f 4 c:Nat):Int)<I-1 then(I-1).toNat else vP f 4 c):=rfl;clear U bN bM HB;go_wp2_with (first|(refine QQ rfl 117 (.tmp 15) rfl wr.heap.size 0 rfl [.bool (f 0),.bool (f 1),.bool (f 2),.bool (f 3)] _ cN.o underlying117 rfl dE ?_)|fail)
   go_loopg [3,17] 4 (λ gj cv iv wj=>∃(j C:Nat),cv=.int .i64 (C:Int)/\iv=.int .i64 (j:Int)/\j+gj=4/\C=vP f j c/\C<=1000/\wj=w5)
   case atStart=>exact⟨0,c,rfl,rfl,rfl,rfl,hc,rfl⟩
   case round=>
    obtain⟨j,C,rfl,rfl,eS,bO,aL,rfl⟩:=hrel;have Q:=fV bO;clear bO;by_cases hj:j<4
    ·obtain⟨g,rfl⟩:∃g,gk=g+1:=⟨gk-1,by omega⟩
     have V:QP (vP f (j+1) c=if f j=true/\C<j+1 then j+1 else C):=by unfold QP;rw[vP,<-Q.o]
     have eM:decide ((j:Int)<4)=true:=by simp;omega
     by_cases hq:f j=true/\C<j+1
     ·have D:QP (vP f (j+1) c=j+1):=by unfold QP;rw[V.o,aB hq]
      have X:=hq.1;have eL:decide ((C:Int)<(j:Int)+1)=true:=by simp;omega
      clear V Q hq;go_wp2_with (first|(refine cQ rfl (.tmp 16) (.tmp 17) rfl f j hj rfl rfl ?_;rw[X])|fail);go_roundg g
      case measure=>omega
      case rel=>exact⟨j+1,j+1,by go_num,by go_num,by omega,D.o.symm,by omega,rfl⟩
     ·have D:QP (vP f (j+1) c=C):=by unfold QP;rw[V.o,aA hq]
      cases X:f j with
      | true=>
       have eL:decide ((C:Int)<(j:Int)+1)=false:=by rw[aF];exact λ h=>hq ⟨X,by omega⟩
       clear V Q hq;go_wp2_with (first|(refine cQ rfl (.tmp 16) (.tmp 17) rfl f j hj rfl rfl ?_;rw[X])|fail);go_roundg g
       case measure=>omega
       case rel=>exact⟨j+1,C,rfl,by go_num,by omega,D.o.symm,aL,rfl⟩
      | false=>
       clear V Q hq;go_wp2_with (first|(refine cQ rfl (.tmp 16) (.tmp 17) rfl f j hj rfl rfl ?_;rw[X])|fail);go_roundg g
       case measure=>omega
       case rel=>exact⟨j+1,C,rfl,by go_num,by omega,D.o.symm,aL,rfl⟩
    ·have ej:j=4:=by omega
     have aW:QP (vP f 4 c=C):=by unfold QP;rw[Q.o,ej]
     have eM:decide ((j:Int)<4)=false:=by simp;omega
     clear ej Q;by_cases J:(C:Int)<I-1
     ·have D:QP (N2 (f,I,ro) c=(I-1).toNat):=by unfold QP;rw[bC.o,aW.o,aB J]
      have eN:decide ((C:Int)<I-1)=true:=decide_eq_true J;go_wp2;go_roundg d
      case measure=>omega
      case rel=>exact⟨k+1,(I-1).toNat,by simp;omega,by go_num,by omega,by omega,by rw[bK.o,D.o],aT.o⟩
     ·have D:QP (N2 (f,I,ro) c=C):=by unfold QP;rw[bC.o,aW.o,aA J]
      have eN:decide ((C:Int)<I-1)=false:=decide_eq_false J;go_wp2;go_roundg d
      case measure=>omega
      case rel=>exact⟨k+1,C,rfl,by go_num,by omega,aL,by rw[bK.o,D.o],aT.o⟩
  ·have e:gk=0:=by omega
   subst e;have HE:QP (FC=c):=by unfold QP;rw[HQ.o,show k=aX.length by rw[Y.o];omega,ON];rfl
   have cP:=dF k n (by omega)
   go_wp2;go_ret;exact⟨by rw[Z.o,HE.o];rfl,HB.o⟩
theorem Qq(aX:List ((Nat->Bool)×Int×Int))(Y C nb fg bK bE:Nat)(fi:Nat->Int)(vn vp:tV)(w:tW)(hn:aX.length<=1000)(hr:uC w Y aX)(hg:Y<w.heap.size)
  (eS:nb<w.heap.size) (cF:w.cell? ⟨nb,0,none⟩=some (.slice (some ⟨fg,0,none⟩) aX.length bK)) (bO:M3 w fg aX.length fi) (eR:fg<w.heap.size):
  QY LZ 38 #[.pointer (some ⟨nb,0,none⟩),.agg #[.slice (some ⟨Y,0,none⟩) aX.length C,vn,vp],.int .i64 bE] w λ e w'=>e=.returned (.int .i64 (rM fi bE aX 0 0))/\Bl w w':=by
 have HR:=fV hr;have bC:=fV cF;have aO:=fV bO;clear hr cF bO;obtain⟨n,J⟩:=xE (aX.length)
 rw[J]at hn bC aO ⊢;replace J:=fV J;have c0:(w.alloc (.cells #[.slice (some ⟨Y,0,none⟩) n C,vn,vp] 44)).cell? ⟨w.heap.size,0,none⟩=some (.slice (some ⟨Y,0,none⟩) n C):=(MO _ _ w.heap.size 0 rfl).trans rfl;have aL:QP (Bl w (w.alloc (.cells #[.slice (some ⟨Y,0,none⟩) n C,vn,vp] 44))):=bR.alloc lR _;go_enter func38,ntmps38;go_upto_region 2 with fail;generalize w.alloc (.cells #[.slice (some ⟨Y,0,none⟩) n C,vn,vp] 44)=W at*;go_wp2_with fail;clear c0;obtain⟨FC,Q⟩:=xE (rM fi bE aX 0 0)
 replace Q:=fV Q
 go_loopg [7,15] n (λ gk cv iv wr=>∃(k:Nat)(b:Int),cv=.int .i64 b/\iv=.int .i64 (k:Int)/\k+gk=n/\FC=rM fi bE (aX.drop k) k b/\Bl w wr)
 case atStart=>exact⟨0,0,rfl,rfl,by omega,Q.o.symm,aL.o⟩
 case round=>
  obtain⟨k,b,rfl,rfl,gL,bN,hb⟩:=hrel;have HQ:=fV bN;have HB:=fV hb;have cN:=hb.size;clear bN hb aL;by_cases bT:k<n
  ·obtain⟨d,rfl⟩:∃d,gk=d+1:=⟨gk-1,by omega⟩
   have bS:k<aX.length:=by rw[J.o];exact bT
   have hx:aX[k]?=some (aX[k]):=LF bS;have aT:=fV ((HR.o.below HB.o hg) k _ hx);have aR:=fV (HQ.o.trans (Kr hx b));generalize aX[k]=x at*;obtain⟨f,be,ro⟩:=x;have V:QP (xS ((wr.alloc (.cells #[.bool false,.bool false,.bool false,.bool false,.int .i64 0,.int .i64 0] 119)).setCells wr.heap.size 0 (nH (f,be,ro))) wr.heap.size (f,be,ro)):=
    xS.mk' (LN _ _ _ _ (pA wr [.bool false,.bool false,.bool false,.bool false,.int .i64 0,.int .i64 0] 119 6 rfl))
   have Z:QP (Bl w ((wr.alloc (.cells #[.bool false,.bool false,.bool false,.bool false,.int .i64 0,.int .i64 0] 119)).setCells wr.heap.size 0 (nH (f,be,ro)))):=fX _ 0 _ wr.heap.size (HB.o.alloc cN _) cN;have aW:=fV (pA wr [.bool false,.bool false,.bool false,.bool false,.int .i64 0,.int .i64 0] 119 6 rfl);have eM:=dT k n (by omega)
   have eX:=iI k n (by omega)
   clear hx bS;go_upto_region 5 with(first
    | (refine QQ rfl 119 (.tmp 18) rfl Y (k*6) rfl (nH (f,be,ro)) _ aT.o NY rfl cB ?_)
    | (refine QR rfl 119 (.tmp 9) (.tmp 19) rfl wr.heap.size 0 (nH (f,be,ro)).toArray rfl rfl ?_ ?_ ?_ ?_;exact aW.o;exact cB;(simp[nH,LM])))
   generalize (wr.alloc (.cells #[.bool false,.bool false,.bool false,.bool false,.int .i64 0,.int .i64 0] 119)).setCells wr.heap.size 0 (nH (f,be,ro))=w5 at*;have eL:QP (w5.rangeAt wr.heap.size 0 [.bool (f 0),.bool (f 1),.bool (f 2),.bool (f 3)]):=V.o.cs;have v0:=(Z.o.cell (p:=⟨nb,0,none⟩) eS).trans bC.o;have v1:=(Z.o.cell (p:=⟨fg,k,none⟩) eR).trans (aO.o k bT);simp only at aR;generalize fi k=fr at*;clear V aW aT HB;go_wp2_with (first|(refine QQ rfl 117 (.tmp 20) rfl wr.heap.size 0 rfl [.bool (f 0),.bool (f 1),.bool (f 2),.bool (f 3)] _ eL.o underlying117 rfl dE ?_)|fail)
   go_loopg [7,22] 4 (λ gj cv iv wj=>∃(j:Nat)(bb:Int),cv=.int .i64 bb/\iv=.int .i64 (j:Int)/\j+gj=4/\bb=G4 f fr bE j b/\wj=w5)
   case atStart=>exact⟨0,b,rfl,rfl,rfl,rfl,rfl⟩
   case round=>
    obtain⟨j,bb,rfl,rfl,eT,bM,rfl⟩:=hrel;have D:=fV bM;clear bM;by_cases hj:j<4
    ·obtain⟨g,rfl⟩:∃g,gk=g+1:=⟨gk-1,by omega⟩
     have F:QP (G4 f fr bE (j+1) b=if f j=true/\j=bE then Ad bb fr else bb):=by unfold QP;rw[G4,<-D.o]
     have eO:decide ((j:Int)<4)=true:=by simp;omega
     by_cases X:f j=true/\j=bE
     ·have U:QP (G4 f fr bE (j+1) b=Ad bb fr):=by unfold QP;rw[F.o,aB X]
      have I:=X.1;have eN:((j:Int)==(bE:Int))=true:=by rw[X.2];simp
      clear F D X;go_wp2_with (first|(refine cQ rfl (.tmp 21) (.tmp 22) rfl f j hj rfl rfl ?_;rw[I])|fail);go_roundg g
      case measure=>omega
      case rel=>exact⟨j+1,Ad bb fr,rfl,by go_num,by omega,U.o.symm,rfl⟩
     ·have U:QP (G4 f fr bE (j+1) b=bb):=by unfold QP;rw[F.o,aA X]
      cases I:f j with
      | true=>
       have eN:((j:Int)==(bE:Int))=false:=by rw[aC];exact λ h=>X ⟨I,by omega⟩
       clear F D X;go_wp2_with (first|(refine cQ rfl (.tmp 21) (.tmp 22) rfl f j hj rfl rfl ?_;rw[I])|fail);go_roundg g
       case measure=>omega
       case rel=>exact⟨j+1,bb,rfl,by go_num,by omega,U.o.symm,rfl⟩
      | false=>
       clear F D X;go_wp2_with (first|(refine cQ rfl (.tmp 21) (.tmp 22) rfl f j hj rfl rfl ?_;rw[I])|fail);go_roundg g
       case measure=>omega
       case rel=>exact⟨j+1,bb,rfl,by go_num,by omega,U.o.symm,rfl⟩
    ·have ej:j=4:=by omega
     have cP:QP (G4 f fr bE 4 b=bb):=by unfold QP;rw[D.o,ej]
     have eO:decide ((j:Int)<4)=false:=by simp;omega
     clear ej D;go_wp2;go_roundg d
     case measure=>omega
     case rel=>exact⟨k+1,bb,rfl,by go_num,by omega,by rw[aR.o,cP.o],Z.o⟩
  ·have e:gk=0:=by omega
   subst e;have HE:QP (FC=b):=by unfold QP;rw[HQ.o,show aX.drop k=[] by rw[OF,J.o];omega];rfl
   have eM:=dF k n (by omega)
   go_wp2;go_ret;exact⟨by rw[Q.o,HE.o];rfl,HB.o⟩
theorem Qm(aW:List (Nat->Bool))(Q C b:Nat)(vr vn:tV)(w:tW)(hn:aW.length<=10)(hb:b<256)(hp:yD w Q aW)(hg:Q<w.heap.size):
  QY LZ 34 #[.agg #[vr,vn,.slice (some ⟨Q,0,none⟩) aW.length C],.int .i64 b] w λ e w'=>e=.returned (.int .i64 (G3 aW b))/\Bl w w':=by
 have HP:=fV hp;clear hp;obtain⟨n,F⟩:=xE (aW.length)
 rw[F]at hn ⊢;replace F:=fV F;have c0:(w.alloc (.cells #[vr,vn,.slice (some ⟨Q,0,none⟩) n C] 44)).cell? ⟨w.heap.size,2,none⟩=some (.slice (some ⟨Q,0,none⟩) n C):=(MO _ _ w.heap.size 2 rfl).trans rfl;have X:QP (Bl w (w.alloc (.cells #[vr,vn,.slice (some ⟨Q,0,none⟩) n C] 44))):=bR.alloc lR _;go_enter func34,ntmps34;go_upto_region 2 with fail;generalize w.alloc (.cells #[vr,vn,.slice (some ⟨Q,0,none⟩) n C] 44)=W at*;go_wp2_with fail;clear c0;obtain⟨FC,I⟩:=xE (G3 aW b)
 have Z:QP (Ev b aW 0 0=FC):=I;replace I:=fV I
 go_loopg [5,11] n (λ gk cv iv wr=>∃(k:Nat)(a:Int),cv=.int .i64 a/\iv=.int .i64 (k:Int)/\k+gk=n/\FC=Ev b (aW.drop k) k a/\Bl w wr)
 case atStart=>exact⟨0,0,rfl,rfl,by omega,Z.o.symm,X.o⟩
 case round=>
  obtain⟨k,a,rfl,rfl,bO,aO,V⟩:=hrel;have HQ:=fV aO;have HB:=fV V;have aT:=V.size;clear aO V X Z;by_cases bK:k<n
  ·obtain⟨d,rfl⟩:∃d,gk=d+1:=⟨gk-1,by omega⟩
   have aR:k<aW.length:=by rw[F.o];exact bK
   have hx:aW[k]?=some (aW[k]):=LF aR;have aL:=fV ((HP.o.below HB.o hg) k _ hx);have D:=fV (HQ.o.trans (Uz hx a));generalize aW[k]=f at*;have U:=fV (iD wr OC 158 wr.heap.size 256 bW rfl);have J:QP (((wr.alloc (.cells OC 158)).setCells wr.heap.size 0 (gQ f)).rangeAt wr.heap.size 0 (gQ f)):=LN _ _ _ _ (by rw[gM];exact U.o);have Y:QP (Bl w ((wr.alloc (.cells OC 158)).setCells wr.heap.size 0 (gQ f))):=fX _ 0 _ wr.heap.size (HB.o.alloc aT _) aT;have bC:=dT k n (by omega)
   have bN:=iI k n (by omega)
   clear hx aR;go_upto_region 5 with(first
    | (refine Y3 rfl 158 (.tmp 14) rfl Q (k*256) f _ rfl aL.o underlying158 rfl bJ ?_)
    | (refine xR rfl 158 (.tmp 7) (.tmp 15) rfl wr.heap.size 0 f ?_ ?_ ?_ bJ ?_;rfl;rfl;exact U.o))
   generalize (wr.alloc (.cells OC 158)).setCells wr.heap.size 0 (gQ f)=w5 at*;have cb:w5.cell? ⟨wr.heap.size,b,none⟩=some (.bool (f b)):=by have:=J.o b _ (wJ f b hb);rw[LS]at this;exact this
   have bM:(0:Int)<=(b:Int)/\(b:Int)<256:=by omega
   clear J U aL HB
   cases hfb:f b with
   | true=>
    rw[hfb]at cb D;rw[aB rfl]at D;go_wp2_with fail;refine(xN k (by omega) w5).mono ?_;rintro e w6 ⟨rfl,rfl⟩;go_wp2;go_roundg d
    case measure=>omega
    case rel=>exact⟨k+1,Ad a (sO k),rfl,by go_num,by omega,D.o,Y.o⟩
   | false=>
    rw[hfb]at cb D;rw[aA (by decide)]at D;go_wp2;go_roundg d
    case measure=>omega
    case rel=>exact⟨k+1,a,rfl,by go_num,by omega,D.o,Y.o⟩
  ·have e:gk=0:=by omega
   subst e;have HE:QP (FC=a):=by unfold QP;rw[HQ.o,show aW.drop k=[] by rw[OF,F.o];omega];rfl
   have bC:=dF k n (by omega)
   go_wp2;go_ret;exact⟨by rw[I.o,HE.o];rfl,HB.o⟩
section
theorem fD:LJ=(uZ (ME 256 0) (.slice none 0 0)).toArray:=by kernel_rfl
theorem fE:Tryz.zeroCells50.toList=uZ (ME 256 0) (.slice none 0 0):=by rw[fD]
theorem cC:Tryz.zeroCells50.size=257:=by kernel_rfl
theorem cD:(Tryz.prog.info? 50).map (·.size)=some 257:=by kernel_rfl
theorem dW:Tryz.zeroCells50.all (·.oneCell')=true:=by kernel_rfl
theorem Uc{w:tW}{v:tV}{l:List Int}(h:w.ownsRow aH e 1 v l.length (pQ l)):Bk w v l:=by
 refine⟨?_⟩;rcases h.2 with⟨V,Q⟩|⟨g,aJ,D,rfl,F,hg,C,o,I,U⟩
 ·exact .inl ⟨V,List.eq_nil_of_length_eq_zero Q⟩
 ·refine .inr ⟨g,aJ,rfl,C,o,λ k x J=>?_⟩;have:=h.cells rfl k (.int .i64 x) (B6 l k x J);rw[wI]at this;exact this
structure GW(w0 w:tW)(bG:List Nat)(P:List Int)(vr vn vp vpl:tV):Prop where
 bl:Bl w0 w
 fl:w.rangeAt w0.heap.size 0 [vr,vn,vp]
 t1:w.there (w0.heap.size+1) 0 257
 rg:w.rangeAt (w0.heap.size+1+1) 0 (uZ bG vpl)
 t2:w.there (w0.heap.size+1+1) 0 257
 rp:w.ownsRow (w0.heap.size+3) 103 1 vpl P.length (pQ P)
 hz:w0.heap.size+3<=w.heap.size
 ln:bG.length=256
variable {w0 w w':tW}{bG:List Nat}{P:List Int}{vr vn vp vpl:tV}
theorem GW.below(h:GW w0 w bG P vr vn vp vpl)(o:Bl w w'):GW w0 w' bG P vr vn vp vpl:=by
 have C:=h.hz;exact⟨h.bl.trans (o.mono (by omega)),fY h.fl (o.block _ (by omega)),gJ h.t1 (o.block _ (by omega)),fY h.rg (o.block _ (by omega)),gJ h.t2 (o.block _ (by omega)),wS h.rp o,by have:=o.size;omega,h.ln⟩
theorem GW.set(h:GW w0 w bG P vr vn vp vpl){k:Nat}{u:tV}{o:List Nat}(D:k<257)(C:(uZ bG vpl).set k u=uZ o vpl)(F:o.length=256):GW w0 (w.setCell ⟨w0.heap.size+1+1,k,none⟩ u) o P vr vn vp vpl:=by
 have I:=h.hz;refine⟨h.bl.setCell (p:=⟨w0.heap.size+1+1,k,none⟩) (by show w0.heap.size<=w0.heap.size+1+1;omega) u,I3 h.fl (by omega) u,pM h.t1 _ _,?_,pM h.t2 _ _,QO h.rp (by show w0.heap.size+1+1<w0.heap.size+3;omega) _,by simp[MI];omega,F⟩;rw[<-C];exact zH h.rg k (by rw[P4 _ _ h.ln];exact D) u
theorem GW.cell(h:GW w0 w bG P vr vn vp vpl){k:Nat}{v:tV}(o:(uZ bG vpl)[k]?=some v):w.cell? ⟨w0.heap.size+1+1,k,none⟩=some v:=by
 have:=h.rg k v o;rw[LS]at this;exact this
theorem GW.fz(h:GW w0 w bG P vr vn vp vpl){k:Nat}(o:k<257):w.frozen? ⟨w0.heap.size+1+1,k,none⟩=false:=by
 have:=(h.t2 k o).2;rw[LS]at this;exact this
theorem GW.more{w4:tW}(h:GW w0 w bG P vr vn vp vpl){o:Obj}{x:Int}{g aJ:Nat}
  (F:w4.ownsRow (w0.heap.size+3) 103 1 (.slice (some ⟨g,0,none⟩) (P.length+1) aJ) (P.length+1) (pQ P++[.int .i64 x])) (C:(w.alloc o).grownBy w4 vpl.ownBlock):
  GW w0 (w4.setCell ⟨w0.heap.size+1+1,256,none⟩ (.slice (some ⟨g,0,none⟩) (P.length+1) aJ)) bG (P++[x]) vr vn vp (.slice (some ⟨g,0,none⟩) (P.length+1) aJ)/\Below (w0.heap.size+3) w w4:=by
 have V:=h.hz;have J:=C.size;simp at J;have D:∀k,k<w0.heap.size+3->w4.heap[k]?=w.heap[k]? :=λ k U=>(C.block k (by simp;omega) (λ e=>by have:=(h.rp.lt k e.symm).1;omega)).trans (MD w o k (by omega))
 have Q:Below (w0.heap.size+3) w w4:=⟨C.os,C.tape,C.output,by omega,D⟩
 have I:w4.rangeAt (w0.heap.size+1+1) 0 (uZ bG vpl):=fY h.rg (D _ (by omega));refine⟨⟨(h.bl.trans (Q.mono (by omega))).setCell (p:=⟨w0.heap.size+1+1,256,none⟩) (by show w0.heap.size<=w0.heap.size+1+1;omega) _,I3 (fY h.fl (D _ (by omega))) (by omega) _,pM (gJ h.t1 (D _ (by omega))) _ _,?_,pM (gJ h.t2 (D _ (by omega))) _ _,?_,by simp[MI];omega,h.ln⟩,Q⟩
 ·rw[<-Ll bG vpl _ h.ln];exact zH I 256 (by rw[P4 _ _ h.ln];omega) _
 ·rw[tP,LK];exact QO F (by show w0.heap.size+1+1<w0.heap.size+3;omega) _
def Zm(w:tW)(R:List Nat×List Int)(e:Ending)(w':tW):Prop:=
 ∃vpl,e=.returned (.agg (uZ R.1 vpl).toArray)/\R.1.length=256/\w'.ownsRow (w.heap.size+3) 103 1 vpl R.2.length (pQ R.2)/\Bl w w'
theorem Qt(aW:List (Nat->Bool))(qg Y:Nat)(vr vn:tV)(w:tW)(hn:aW.length<=10)(hp:yD w qg aW)(hg:qg<w.heap.size):
  QY LZ 17 #[.agg #[vr,vn,.slice (some ⟨qg,0,none⟩) aW.length Y]] w λ e w'=>Zm w (qF aW) e w':=by
 have HP:=fV hp;clear hp;obtain⟨vp,Z⟩:=xE (MJ (some ⟨qg,0,none⟩) aW.length Y)
 rw[Z];have aL:=fV (iD ((w.alloc (.cells #[vr,vn,vp] 44)).alloc (.cells LJ 50)) LJ 50 (w.heap.size+1+1) 257 cC (by simp));have cN:QP (GW w ((((w.alloc (.cells #[vr,vn,vp] 44)).alloc (.cells LJ 50)).alloc (.cells LJ 50)).setCells (w.heap.size+1+1) 0 Tryz.zeroCells50.toList) (ME 256 0) [] vr vn vp (.slice none 0 0)):=by
  have b1:Bl w (((w.alloc (.cells #[vr,vn,vp] 44)).alloc (.cells LJ 50)).alloc (.cells LJ 50)):=((bR.alloc lR _).alloc (by simp) _).alloc (by simp;omega) _;have hz:=(fX Tryz.zeroCells50.toList 0 (((w.alloc (.cells #[vr,vn,vp] 44)).alloc (.cells LJ 50)).alloc (.cells LJ 50)) (w.heap.size+1+1) (OZ 0 _) zL).size;simp at hz;have b2:Below (w.heap.size+1+1) (((w.alloc (.cells #[vr,vn,vp] 44)).alloc (.cells LJ 50)).alloc (.cells LJ 50)) ((((w.alloc (.cells #[vr,vn,vp] 44)).alloc (.cells LJ 50)).alloc (.cells LJ 50)).setCells (w.heap.size+1+1) 0 Tryz.zeroCells50.toList):=fX _ 0 _ _ bR lR;have f0:=mE w #[vr,vn,vp] 44;have f1:(((w.alloc (.cells #[vr,vn,vp] 44)).alloc (.cells LJ 50)).alloc (.cells LJ 50)).rangeAt w.heap.size 0 [vr,vn,vp]:=fY (fY f0 (MD _ _ _ (by simp))) (MD _ _ _ (by simp;omega));have t1:=iD (w.alloc (.cells #[vr,vn,vp] 44)) LJ 50 (w.heap.size+1) 257 cC (by simp);refine⟨b1.trans (b2.mono (by omega)),fY f1 (b2.block _ (by omega)),gJ (PK t1 _) (b2.block _ (by omega)),?_,OX aL.o _ _ _,NU _ _ _ _,by omega,NH⟩;rw[<-fE];exact LN _ _ _ _ (by rw[MS,cC];exact aL.o)
 go_enter func17,ntmps17;go_upto_region 2 with(first
  | (refine QR rfl 50 (.tmp 3) (.tmp 7) rfl (w.heap.size+1+1) 0 LJ ?_ rfl ?_ ?_ dW ?_;rfl;(rw[cC];exact aL.o);(rw[cC];exact cD)))
 generalize (((w.alloc (.cells #[vr,vn,vp] 44)).alloc (.cells LJ 50)).alloc (.cells LJ 50)).setCells (w.heap.size+1+1) 0 Tryz.zeroCells50.toList=W0 at*;clear aL;obtain⟨FC,I⟩:=xE (qF aW)
 have cF:QP (U1 (G3 aW) 256 0 [] []=FC):=I;replace I:=fV I;replace Z:=fV Z;go_wp2_with fail
 go_loopg [8] 256 (λ gk iv wr=>∃(b:Nat)(bG:List Nat)(P:List Int)(vpl:tV),iv=.int .i64 (b:Int)/\b+gk=256/\bG.length=b/\P.length<=b/\FC=U1 (G3 aW) gk b bG P/\GW w wr (bG++ME gk 0) P vr vn vp vpl)
 case atStart=>exact⟨0,[],[],.slice none 0 0,rfl,rfl,rfl,lR,cF.o.symm,cN.o⟩
 case round=>
  obtain⟨b,bG,P,vpl,rfl,hF,eR,hD,eM,eN⟩:=hrel;have HQ:=fV eM;have HG:=fV eN;have bM:=fV eR;clear eM eN eR cN cF;by_cases eO:b<256
  ·obtain⟨d,rfl⟩:∃d,gk=d+1:=⟨gk-1,by omega⟩
   have eX:decide ((b:Int)<256)=true:=by simp;omega
   have bN:=Qm aW qg Y b vr vn wr hn eO (HP.o.below HG.o.bl hg) (by have:=HG.o.bl.size;omega);rw[Z.o]at bN;have V:QP (FC=U1 (G3 aW) d (b+1) (bG++[jT P (G3 aW b)]) (if jT P (G3 aW b)=P.length then P++[G3 aW b]else P)):=HQ.o;generalize G3 aW b=x at*;go_wp2_with (first|(refine QQ rfl 44 (.tmp 1) rfl w.heap.size 0 rfl [vr,vn,vp] _ HG.o.fl ND rfl bX ?_)|fail);refine bN.mono ?_;rintro e w1 ⟨rfl,eL⟩;have C:=fV (HG.o.below eL);clear eL bN HG;have bC:=C.o.cell (Lk _ _ C.o.ln);go_wp2_with fail;refine(Xc P vpl x w1 (by omega) (Uc C.o.rp)).mono ?_;rintro e w2 ⟨rfl,rfl⟩;have hA:=p7 P x;obtain⟨J,bO⟩:=xE (jT P x)
   rw[bO]at V hA ⊢;replace bO:=fV bO;obtain⟨va,aU,bT⟩:=gA C.o.rp;subst bT;have aR:b<(bG++ME (d+1) 0).length:=by rw[C.o.ln];exact eO
   have HE:QP ((bG++ME (d+1) 0).set b J=(bG++[J])++ME d 0):=by unfold QP;rw[<-bM.o];exact Nn bG d J
   have hE:(0:Int)<=(b:Int)/\(b:Int)<256:=by omega
   by_cases X:J=P.length
   ·rw[aB X]at V;have gL:((J:Int)==(P.length:Int))=true:=by rw[X];simp
    have hG:some (w.heap.size+1+1)≠(MJ va P.length aU).ownBlock:=λ e=>by have:=(C.o.rp.lt _ e.symm).1;omega
    have bK:=C.o.fz (k:=256) (by omega);have hH:=C.o.hz;clear X;go_wp2_with (first|(at_builtin;refine gB w2 rfl (.tmp 24) (.tmp 26) 48 rfl (w.heap.size+3) 103 (.int .i64 0) 1 8 OB cX rfl (by decide) (by decide) (.slice va P.length aU) P.length (pQ P) [.int .i64 x] _ rfl C.o.rp _ rfl rfl rfl (by simp[LM]) (by omega) (by omega) ?_;intro g4 cap4 w4 bS aO hB hC;have HM:=fV (C.o.more (x:=x) bS aO);have m3:=(HM.o.2.cell (p:=⟨w.heap.size+1+1,256,none⟩) (show w.heap.size+1+1<w.heap.size+3 by omega)).trans bC;have n3:=(HM.o.2.frozen (p:=⟨w.heap.size+1+1,256,none⟩) (show w.heap.size+1+1<w.heap.size+3 by omega)).trans bK;have e5:=HM.o.1.cell (s6 _ _ b aR);have e6:=HM.o.1.fz (k:=b) (by omega);clear bC bK)|fail);have U:=fV (HM.o.1.set (k:=b) (u:= .int .i64 (J:Int)) (by omega) (Gg _ _ b J aR) (by rw[OH];exact HM.o.1.ln));rw[HE.o]at U;go_roundg d
    case measure=>omega
    case rel=>exact⟨b+1,bG++[J],P++[x],_,by go_num,by omega,by simp[bM.o],by simp;omega,V.o,U.o⟩
   ·rw[aA X]at V;have gL:((J:Int)==(P.length:Int))=false:=by rw[aC];omega
    have e5:=C.o.cell (s6 _ _ b aR);have e6:=C.o.fz (k:=b) (by omega);have U:=fV (C.o.set (k:=b) (u:= .int .i64 (J:Int)) (by omega) (Gg _ _ b J aR) (by rw[OH];exact C.o.ln));rw[HE.o]at U;clear X;generalize (bG++ME (d+1) 0)[b]=old at*;go_wp2;go_roundg d
    case measure=>omega
    case rel=>exact⟨b+1,bG++[J],P,_,by go_num,by omega,by simp[bM.o],by omega,V.o,U.o⟩
  ·have e:gk=0:=by omega
   subst e;have eX:decide ((b:Int)<256)=false:=by simp;omega
   have HE:QP (FC=(bG,P)):=HQ.o;have D:=HG;rw[List.replicate_zero,MT]at D;obtain⟨va,aU,bT⟩:=gA D.o.rp;subst bT;have F:=fV (P4 bG (.slice va P.length aU) D.o.ln);have aT:QP (∀v∈uZ bG (.slice va P.length aU),v.oneCell'=true):=λ v hv=>by
    unfold uZ oY at hv;rcases LO.1 hv with h1|h1
    ·rw[OP]at h1;obtain⟨y,_,rfl⟩:=h1;rfl
    ·rw[LI]at h1;rw[h1];rfl
   obtain⟨IL,Q⟩:=xE (uZ bG (.slice va P.length aU))
   have eS:QP (wr.rangeAt (w.heap.size+1+1) 0 IL):=by rw[<-Q];exact D.o.rg
   rw[Q]at aT F;replace Q:=fV Q;have cP:QP (IL.toArray.size=257):=by unfold QP;simpa using F.o
   have eT:QP (wr.there (w.heap.size+1) 0 IL.length):=by unfold QP;rw[F.o];exact D.o.t1
   clear HG;go_wp2_with (first
    | (refine QQ rfl 50 (.tmp 3) rfl (w.heap.size+1+1) 0 rfl IL _ eS.o NT rfl ?_ ?_;(rw[F.o];exact cD))
    | (refine QR rfl 50 (.tmp 2) (.tmp 34) rfl (w.heap.size+1) 0 IL.toArray rfl rfl ?_ ?_ (QS aT.o) ?_;(rw[cP.o];exact D.o.t1);(rw[cP.o];exact cD)))
   refine lE results17 (w.heap.size+1) 0 IL _ rfl ?_ NT rfl (by rw[F.o];exact cD) rfl ?_
   ·exact LN _ _ _ _ eT.o
   ·refine⟨.slice va P.length aU,?_,?_,?_,?_⟩
    ·rw[I.o,HE.o,Q.o]
    ·rw[I.o,HE.o];exact D.o.ln
    ·rw[I.o,HE.o];exact lC D.o.rp (by omega) _ 0
    ·exact fX _ 0 _ _ D.o.bl (PO _)
end
section
theorem Dl(C y z:Int)(aG:Nat->Int)(l r:qM)(nb:Nat)(vf vl:tV)(w:tW)(F:0<=C/\C<=5)(D:C=0->0<=y/\y<10)(o:nb<w.heap.size)(h:kD w nb vf vl aG):
  QY LZ 68 #[.pointer (some ⟨nb,0,none⟩),.agg #[.int .i64 C,.int .i64 y,.int .i64 z],sD l,sD r] w (tE w nb vf vl (oR C y l r aG)):=by
 have:C=0\/C=1\/C=2\/C=3\/C=4\/C=5:=by omega
 rcases this with rfl|rfl|rfl|rfl|rfl|rfl
 ·obtain⟨p,rfl⟩:∃p:Nat,y=(p:Int):=⟨y.toNat,by have:=D rfl;omega⟩
  exact FP aG p (by have:=D rfl;omega) z l r nb vf vl w o h
 ·exact FQ aG y z l r nb vf vl w o h
 ·exact FS aG y z l r nb vf vl w o h
 ·exact FT aG y z l r nb vf vl w o h
 ·exact FU aG y z l r nb vf vl w o h
 ·exact FV aG y z l r nb vf vl w o h
structure LW(w0 w:tW)(n:Nat)(ps:Nat->qM)(aG:Nat->Int)(vr vn vp:tV):Prop where
 bl:Bl w0 w
 fl:w.rangeAt w0.heap.size 0 [vr,vn,vp]
 t1:w.there (w0.heap.size+1) 0 12
 nt:kD w (w0.heap.size+1+1) (.slice none 0 0) (.slice none 0 0) aG
 pt:vH w (w0.heap.size+1+1+1) n ps
 hz:w0.heap.size+4<=w.heap.size
variable {w0 w w':tW}{n:Nat}{ps:Nat->qM}{aG next':Nat->Int}{vr vn vp:tV}
theorem LW.below(h:LW w0 w n ps aG vr vn vp)(o:Bl w w'):LW w0 w' n ps aG vr vn vp:=by
 have C:=h.hz;exact⟨h.bl.trans (o.mono (by omega)),fY h.fl (o.block _ (by omega)),gJ h.t1 (o.block _ (by omega)),h.nt.below o (by omega),h.pt.block (o.block _ (by omega)),by have:=o.size;omega⟩
theorem LW.net(h:LW w0 w n ps aG vr vn vp)(hg:w.grownBy w' (some (w0.heap.size+1+1)))(hn:kD w' (w0.heap.size+1+1) (.slice none 0 0) (.slice none 0 0) next'):LW w0 w' n ps next' vr vn vp:=by
 have D:=h.hz;have o:∀k,k≠w0.heap.size+1+1->some k≠some (w0.heap.size+1+1):=λ k C e=>by injection e;omega
 exact⟨⟨hg.os.trans h.bl.os,hg.tape.trans h.bl.tape,hg.output.trans h.bl.output,NO h.bl.size hg.size,λ k C=>(hg.block k (by omega) (o k (by omega))).trans (h.bl.block k C)⟩,fY h.fl (hg.block _ (by omega) (o _ (by omega))),gJ h.t1 (hg.block _ (by omega) (o _ (by omega))),hn,h.pt.block (hg.block _ (by omega) (o _ (by omega))),by have:=hg.size;omega⟩
theorem LW.part(h:LW w0 w n ps aG vr vn vp){k:Nat}(C:k<n)(p:qM):LW w0 (w.setCells (w0.heap.size+1+1+1) (k*3) (nA p)) n (λ i=>if i=k then p else ps i) aG vr vn vp:=by
 have D:=h.hz;have o:Below (w0.heap.size+1+1+1) w (w.setCells (w0.heap.size+1+1+1) (k*3) (nA p)):=fX _ _ _ _ bR lR;exact⟨h.bl.trans (o.mono (by omega)),fY h.fl (o.block _ (by omega)),gJ h.t1 (o.block _ (by omega)),h.nt.below o (by omega),h.pt.set C p,by have:=o.size;omega⟩
structure LX(w0 w:tW)(n:Nat)(ps:Nat->qM)(aG:Nat->Int)(fi la:List Int)(vf vl vr vn vp:tV):Prop where
 bl:Bl w0 w
 fl:w.rangeAt w0.heap.size 0 [vr,vn,vp]
 t1:w.there (w0.heap.size+1) 0 12
 nt:kD w (w0.heap.size+1+1) vf vl aG
 pt:vH w (w0.heap.size+1+1+1) n ps
 rf:w.ownsRow (w0.heap.size+4) 103 1 vf fi.length (pQ fi)
 rl:w.ownsRow (w0.heap.size+4) 103 1 vl la.length (pQ la)
 ap:∀k,vf.ownBlock=some k->vl.ownBlock=some k->False
 hz:w0.heap.size+4<=w.heap.size
theorem LW.more(h:LW w0 w n ps aG vr vn vp):LX w0 w n ps aG [] [] (.slice none 0 0) (.slice none 0 0) vr vn vp:=
 ⟨h.bl,h.fl,h.t1,h.nt,h.pt,NU _ _ _ _,NU _ _ _ _,(λ k o _=>by cases o),h.hz⟩
variable {fi la:List Int}{vf vl:tV}
theorem LX.below(h:LX w0 w n ps aG fi la vf vl vr vn vp)(o:Bl w w'):LX w0 w' n ps aG fi la vf vl vr vn vp:=by
 have C:=h.hz;exact⟨h.bl.trans (o.mono (by omega)),fY h.fl (o.block _ (by omega)),gJ h.t1 (o.block _ (by omega)),h.nt.below o (by omega),h.pt.block (o.block _ (by omega)),wS h.rf o,wS h.rl o,h.ap,by have:=o.size;omega⟩
theorem kD.set0{w:tW}{vf vl:tV}{aG:Nat->Int}(h:kD w nb vf vl aG)(u:tV):kD (w.setCell ⟨nb,0,none⟩ u) nb u vl aG:=
 ⟨NC _ _ _ h.c0,by rw[MC (h:=by intro e;injection e;omega)];exact h.c1,λ k o=>by rw[MC (h:=by intro e;injection e;omega)];exact h.nx k o,λ i=>by rw[MY];exact h.fz i⟩
theorem kD.set1{w:tW}{vf vl:tV}{aG:Nat->Int}(h:kD w nb vf vl aG)(u:tV):kD (w.setCell ⟨nb,1,none⟩ u) nb vf u aG:=
 ⟨by rw[MC (h:=by intro e;injection e;omega)];exact h.c0,NC _ _ _ h.c1,λ k o=>by rw[MC (h:=by intro e;injection e;omega)];exact h.nx k o,λ i=>by rw[MY];exact h.fz i⟩
theorem LX.moreF{w4:tW}(h:LX w0 w n ps aG fi la vf vl vr vn vp){o:Obj}{x:Int}{g aJ:Nat}
  (Q:w4.ownsRow (w0.heap.size+4) 103 1 (.slice (some ⟨g,0,none⟩) (fi.length+1) aJ) (fi.length+1) (pQ fi++[.int .i64 x])) (C:(w.alloc o).grownBy w4 vf.ownBlock) (U:vf.ownBlock=some g\/g=w.heap.size+1):
  LX w0 (w4.setCell ⟨w0.heap.size+1+1,0,none⟩ (.slice (some ⟨g,0,none⟩) (fi.length+1) aJ)) n ps aG (fi++[x]) la (.slice (some ⟨g,0,none⟩) (fi.length+1) aJ) vl vr vn vp/\Below (w0.heap.size+4) w w4:=by
 have hz:=h.hz;have X:=C.size;simp at X;have J:∀k,k<w.heap.size->vf.ownBlock≠some k->w4.heap[k]?=w.heap[k]? :=λ k F hv=>(C.block k (by simp;omega) (λ e=>hv e.symm)).trans (MD w o k F)
 have I:Below (w0.heap.size+4) w w4:=⟨C.os,C.tape,C.output,by omega,λ k F=>J k (by omega) (λ e=>by have:=(h.rf.lt k e).1;omega)⟩
 have V:Below (w0.heap.size+1+1) w4 (w4.setCell ⟨w0.heap.size+1+1,0,none⟩ (.slice (some ⟨g,0,none⟩) (fi.length+1) aJ)):=tI lR;have D:∀k,k≠w0.heap.size+1+1->(w4.setCell ⟨w0.heap.size+1+1,0,none⟩ (.slice (some ⟨g,0,none⟩) (fi.length+1) aJ)).heap[k]?=w4.heap[k]? :=λ k F=>MH _ _ _ _ F
 refine⟨⟨(h.bl.trans (I.mono (by omega))).trans (V.mono (by omega)),fY (fY h.fl (I.block _ (by omega))) (D _ (by omega)),gJ (gJ h.t1 (I.block _ (by omega))) (D _ (by omega)),(h.nt.below I (by omega)).set0 _,(h.pt.block (I.block _ (by omega))).block (D _ (by omega)),?_,?_,λ k Z Y=>?_,by simp[MI];omega⟩,I⟩
 ·rw[tP,LK];exact QO Q (by show w0.heap.size+1+1<w0.heap.size+4;omega) _
 ·exact QO (iH h.rl (λ k F=>J k (h.rl.lt k F).2 (λ e=>h.ap k e F))) (by show w0.heap.size+1+1<w0.heap.size+4;omega) _
 ·have e:g=k:=by simpa[MG]using Z
  subst e;rcases U with q|q
  ·exact h.ap g q Y
  ·have:=(h.rl.lt g Y).2;omega
theorem LX.moreL{w4:tW}(h:LX w0 w n ps aG fi la vf vl vr vn vp){o:Obj}{x:Int}{g aJ:Nat}
  (Q:w4.ownsRow (w0.heap.size+4) 103 1 (.slice (some ⟨g,0,none⟩) (la.length+1) aJ) (la.length+1) (pQ la++[.int .i64 x])) (C:(w.alloc o).grownBy w4 vl.ownBlock) (U:vl.ownBlock=some g\/g=w.heap.size+1):
  LX w0 (w4.setCell ⟨w0.heap.size+1+1,1,none⟩ (.slice (some ⟨g,0,none⟩) (la.length+1) aJ)) n ps aG fi (la++[x]) vf (.slice (some ⟨g,0,none⟩) (la.length+1) aJ) vr vn vp/\Below (w0.heap.size+4) w w4:=by
 have hz:=h.hz;have X:=C.size;simp at X;have J:∀k,k<w.heap.size->vl.ownBlock≠some k->w4.heap[k]?=w.heap[k]? :=λ k F hv=>(C.block k (by simp;omega) (λ e=>hv e.symm)).trans (MD w o k F)
 have I:Below (w0.heap.size+4) w w4:=⟨C.os,C.tape,C.output,by omega,λ k F=>J k (by omega) (λ e=>by have:=(h.rl.lt k e).1;omega)⟩
 have V:Below (w0.heap.size+1+1) w4 (w4.setCell ⟨w0.heap.size+1+1,1,none⟩ (.slice (some ⟨g,0,none⟩) (la.length+1) aJ)):=tI lR;have D:∀k,k≠w0.heap.size+1+1->(w4.setCell ⟨w0.heap.size+1+1,1,none⟩ (.slice (some ⟨g,0,none⟩) (la.length+1) aJ)).heap[k]?=w4.heap[k]? :=λ k F=>MH _ _ _ _ F
 refine⟨⟨(h.bl.trans (I.mono (by omega))).trans (V.mono (by omega)),fY (fY h.fl (I.block _ (by omega))) (D _ (by omega)),gJ (gJ h.t1 (I.block _ (by omega))) (D _ (by omega)),(h.nt.below I (by omega)).set1 _,(h.pt.block (I.block _ (by omega))).block (D _ (by omega)),?_,?_,λ k Y Z=>?_,by simp[MI];omega⟩,I⟩
 ·exact QO (iH h.rf (λ k F=>J k (h.rf.lt k F).2 (λ e=>h.ap k F e))) (by show w0.heap.size+1+1<w0.heap.size+4;omega) _
 ·rw[tP,LK];exact QO Q (by show w0.heap.size+1+1<w0.heap.size+4;omega) _
 ·have e:g=k:=by simpa[MG]using Z
  subst e;rcases U with q|q
  ·exact h.ap g Y q
  ·have:=(h.rf.lt g Y).2;omega
end
theorem dA:(Tryz.prog.info? 162).map (·.size)=some 3:=by kernel_rfl
theorem fJ:(Tryz.prog.info? 164).map (λ i=>(i.zero,i.size,i.bytes))=some (some (.agg #[.int .i64 0,.int .i64 0,.bool false]),3,24):=by kernel_rfl
theorem Wq(a b c:tV)(n j i:Nat)(o:j<n)(hi:i<3):(QU #[a,b,c] (n*3)).toList[j*3+i]?= [a,b,c][i]? :=by
 unfold QU;rw[Array.toList_map,MB,Array.toList_range,NW (by omega),OI];have e:(j*3+i)%(#[a,b,c]:Array tV).size=i:=by show(j*3+i)%3=i;omega
 rw[e];have:i=0\/i=1\/i=2:=by omega
 rcases this with rfl|rfl|rfl<;>rfl
theorem Gv{w:tW}{pb:Nat}(h:w.ownsRow aH 164 3 (.slice (some ⟨pb,0,none⟩) n n) n (QU #[.int .i64 0,.int .i64 0,.bool false] (n*3)).toList):vH w pb n (λ _=>qP):=λ j D=>by
 have o:∀i v,i<3->(nA qP)[i]?=some v->w.cell? ⟨pb,j*3+i,none⟩=some v:=λ i v hi C=>by
  have:=h.cells rfl (j*3+i) v (by rw[Wq _ _ _ n j i D hi];exact C);rw[wI]at this;exact this
 refine⟨λ i v C=>o i v (LH.1 C).1 C,λ i hi=>⟨?_,rV h _⟩⟩;have:i=0\/i=1\/i=2:=by omega
 rcases this with rfl|rfl|rfl
 ·rw[o 0 _ (by omega) rfl];rfl
 ·rw[o 1 _ (by omega) rfl];rfl
 ·rw[o 2 _ (by omega) rfl];rfl
theorem LW.keep{w0 w w':tW}{ps:Nat->qM}{aG:Nat->Int}{vr vn vp:tV}(h:LW w0 w n ps aG vr vn vp)(o:Below B w w')(C:w0.heap.size+4<=B):LW w0 w' n ps aG vr vn vp:=by
 have D:=h.hz;exact⟨h.bl.trans (o.mono (by omega)),fY h.fl (o.block _ (by omega)),gJ h.t1 (o.block _ (by omega)),h.nt.below o (by omega),h.pt.block (o.block _ (by omega)),by have:=o.size;omega⟩
theorem Wr{w:tW}{vf vl:tV}{aG:Nat->Int}(h:kD w nb vf vl aG):w.rangeAt nb 0 (mQ vf vl aG).toList:=λ j v o=>by
 rw[LS];have C:j<12:=(LH.1 o).1;have:j=0\/j=1\/j=2\/j=3\/j=4\/j=5\/j=6\/j=7\/j=8\/j=9\/j=10\/j=11:=by omega
 rcases this with rfl|rfl|rfl|rfl|rfl|rfl|rfl|rfl|rfl|rfl|rfl|rfl
 ·cases o;exact h.c0
 ·cases o;exact h.c1
 all_goals (cases o)
 ·exact h.nx 0 (by omega)
 ·exact h.nx 1 (by omega)
 ·exact h.nx 2 (by omega)
 ·exact h.nx 3 (by omega)
 ·exact h.nx 4 (by omega)
 ·exact h.nx 5 (by omega)
 ·exact h.nx 6 (by omega)
 ·exact h.nx 7 (by omega)
 ·exact h.nx 8 (by omega)
 ·exact h.nx 9 (by omega)
def DE(w:tW)(aV:List (Int×Int×Int))(aX:List ((Nat->Bool)×Int×Int))(e:Ending)(w':tW):Prop:=
 ∃vf vl,e=.returned (.agg (mQ vf vl (jJ aV 0 (λ _=>qP) (λ _=>0)).2))/\Bl w w'/\
  w'.ownsRow (w.heap.size+4) 103 1 vf aX.length (pQ (aX.map λ x=>((jJ aV 0 (λ _=>qP) (λ _=>0)).1 x.2.2.toNat).1))/\
  w'.ownsRow (w.heap.size+4) 103 1 vl aX.length (pQ (aX.map λ x=>((jJ aV 0 (λ _=>qP) (λ _=>0)).1 x.2.2.toNat).2.1))
theorem Xh(aV:List (Int×Int×Int))(aX:List ((Nat->Bool)×Int×Int))(ng C rg hM:Nat)(vp:tV)(w:tW)(hn:aV.length<=1000)(W6:Jc aV)(hN:D9 w ng aV)(hg:ng<w.heap.size)
  (a7:aX.length<=1000) (hR:uC w rg aX) (a6:rg<w.heap.size) (W7:∀x∈aX,0<=x.2.2/\x.2.2<aV.length):
  QY LZ 36 #[.agg #[.slice (some ⟨rg,0,none⟩) aX.length hM,.slice (some ⟨ng,0,none⟩) aV.length C,vp]] w λ e w'=>DE w aV aX e w':=by
 obtain⟨m,hJ⟩:=xE (aX.length)
 rw[hJ]at a7 ⊢;replace hJ:=fV hJ;have Ha:=fV hR;have Go:=fV W7;clear hR W7;obtain⟨vr,hP⟩:=xE (MJ (some ⟨rg,0,none⟩) m hM)
 rw[hP];replace hP:=fV hP;have HN:=fV hN;have X4:=fV W6;clear hN W6;obtain⟨i0,S5,hA,X0,X1⟩:=QT fJ;have HI:QP (Tryz.prog.info? 164=some i0/\i0.zero=some (.agg #[.int .i64 0,.int .i64 0,.bool false])/\i0.size=3/\i0.bytes=24):=⟨S5,hA,X0,X1⟩
 clear S5 hA X0 X1;go_enter func36,ntmps36;go_upto_region 2 with fail;obtain⟨n,gL⟩:=xE (aV.length)
 rw[gL]at hn ⊢;replace gL:=fV gL;obtain⟨W0,aT⟩:=xE (((w.alloc (.cells #[vr,.slice (some ⟨ng,0,none⟩) n C,vp] 44)).alloc (.cells (mQ (.slice none 0 0) (.slice none 0 0) (λ _=>0)) 108)).alloc (.cells (mQ (.slice none 0 0) (.slice none 0 0) (λ _=>0)) 108))
 have hA:W0.heap.size=w.heap.size+1+1+1:=by rw[<-aT];simp
 have H4:QP (Bl w W0):=by unfold QP;rw[<-aT];exact((bR.alloc lR _).alloc (by simp) _).alloc (by simp;omega) _
 have rT:QP (W0.rangeAt w.heap.size 0 [vr,.slice (some ⟨ng,0,none⟩) n C,vp]):=by
  unfold QP;rw[<-aT];exact fY (fY (mE w #[vr,.slice (some ⟨ng,0,none⟩) n C,vp] 44) (MD _ _ _ (by simp))) (MD _ _ _ (by simp;omega))
 have O5:QP (W0.there (w.heap.size+1) 0 12):=by
  unfold QP;rw[<-aT];exact PK (iD (w.alloc (.cells #[vr,.slice (some ⟨ng,0,none⟩) n C,vp] 44)) (mQ (.slice none 0 0) (.slice none 0 0) (λ _=>0)) 108 (w.heap.size+1) 12 rfl (by simp)) _
 have M2:QP (kD W0 (w.heap.size+1+1) (.slice none 0 0) (.slice none 0 0) (λ _=>0)):=by
  unfold QP;rw[<-aT];exact kD.box _ _ _ _ _ _ (by simp)
 have c1:W0.cell? ⟨w.heap.size,1,none⟩=some (.slice (some ⟨ng,0,none⟩) n C):=rT.o 1 _ rfl;unfold mQ at aT;rw[aT];clear aT;go_upto_block 0 with(first|(at_make;refine wpList_make_full W0 rfl _ _ 160 rfl W0.heap.size 164 i0 (.agg #[.int .i64 0,.int .i64 0,.bool false]) 3 underlying160 HI.o.1 HI.o.2.1 HI.o.2.2.1 .i64 .i64 _ _ n rfl rfl rfl rfl (by rw[HI.o.2.2.2];omega) (by unfold QX;omega) lR ?_;intro w1 aW eS;have eM:QP (Bl W0 w1):=(⟨eS.os,eS.tape,eS.output,eS.size,λ k hk=>eS.block k hk (by simp)⟩:Bl W0 w1);have Pl:=(eM.o.cell (p:=⟨w.heap.size,1,none⟩) (show w.heap.size<W0.heap.size by omega)).trans c1;clear c1))
 have Q:QP (LW w w1 n (λ _=>qP) (λ _=>0) vr (.slice (some ⟨ng,0,none⟩) n C) vp):=by
  refine⟨H4.o.trans (eM.o.mono (by omega)),fY rT.o (eM.o.block _ (by omega)),gJ O5.o (eM.o.block _ (by omega)),M2.o.below eM.o (by omega),?_,?_⟩
  ·first|exact Gv aW|(rw[<-hA];exact Gv aW)
  ·first|(have:=(aW.lt W0.heap.size rfl).2;omega)|(have:=(aW.lt (w.heap.size+1+1+1) rfl).2;omega)
 try rw[hA]
 clear aW eS eM H4 rT O5 M2 Pl hA;obtain⟨FC,eL⟩:=xE (jJ aV 0 (λ _=>qP) (λ _=>0))
 replace eL:=fV eL
 go_cut [20] from 12 to 47 (λ _ wc=>LW w wc n FC.1 FC.2 vr (.slice (some ⟨ng,0,none⟩) n C) vp)
 case first=>
  go_wp2_with fail
  go_loopg [20] n (λ gk iv wr=>∃(k:Nat)(ps:Nat->qM)(aG:Nat->Int),iv=.int .i64 (k:Int)/\k+gk=n/\FC=jJ (aV.drop k) k ps aG/\LW w wr n ps aG vr (.slice (some ⟨ng,0,none⟩) n C) vp)
  case atStart=>exact⟨0,_,_,rfl,by omega,eL.o.symm,Q.o⟩
  case round=>
   obtain⟨k,ps,aG,rfl,c6,P0,W4⟩:=hrel;have HQ:=fV P0;have HL:=fV W4;clear P0 W4 Q;by_cases bS:k<n
   ·obtain⟨d,rfl⟩:∃d,gk=d+1:=⟨gk-1,by omega⟩
    have eT:k<aV.length:=by rw[gL.o];exact bS
    have hx:aV[k]?=some (aV[k]):=LF eT;have eO:=fV ((HN.o.below HL.o.bl hg) k _ hx);have hQ:=fV (HQ.o.trans (Py hx ps aG));have W8:=X4.o k _ hx;generalize aV[k]=x at*;obtain⟨D,J,X⟩:=x;simp only at W8 eO;obtain⟨a3,a4,T3,W1⟩:=W8;have T2:0<=D/\D<=5:=⟨a3,a4⟩
    have X2:QP (Bl wr (((wr.alloc (.cells #[.int .i64 D,.int .i64 J,.int .i64 X] 162)).alloc (.cells #[.int .i64 0,.int .i64 0,.bool false] 164)).alloc (.cells #[.int .i64 0,.int .i64 0,.bool false] 164))):=((bR.alloc lR _).alloc (by simp) _).alloc (by simp;omega) _;have bK:QP (jV (((wr.alloc (.cells #[.int .i64 D,.int .i64 J,.int .i64 X] 162)).alloc (.cells #[.int .i64 0,.int .i64 0,.bool false] 164)).alloc (.cells #[.int .i64 0,.int .i64 0,.bool false] 164)) wr.heap.size (.int .i64 D) (.int .i64 J) (.int .i64 X)):=((jV.new wr wr.heap.size _ _ _ _ rfl).alloc (by simp) _).alloc (by simp;omega) _;have aO:QP (jV (((wr.alloc (.cells #[.int .i64 D,.int .i64 J,.int .i64 X] 162)).alloc (.cells #[.int .i64 0,.int .i64 0,.bool false] 164)).alloc (.cells #[.int .i64 0,.int .i64 0,.bool false] 164)) (wr.heap.size+1) (.int .i64 0) (.int .i64 0) (.bool false)):=(jV.new _ (wr.heap.size+1) _ _ _ _ (by simp)).alloc (by simp) _;have bM:QP (jV (((wr.alloc (.cells #[.int .i64 D,.int .i64 J,.int .i64 X] 162)).alloc (.cells #[.int .i64 0,.int .i64 0,.bool false] 164)).alloc (.cells #[.int .i64 0,.int .i64 0,.bool false] 164)) (wr.heap.size+1+1) (.int .i64 0) (.int .i64 0) (.bool false)):=jV.new _ (wr.heap.size+1+1) _ _ _ _ (by simp);have B1:=dT k n (by omega)
    have a2:=iI k n (by omega)
    clear hx eT;go_upto_region 8 with(first
     | (refine QQ rfl 162 (.tmp 23) rfl ng (k*3) rfl [.int .i64 D,.int .i64 J,.int .i64 X] _ eO.o OK rfl dA ?_))
    generalize ((wr.alloc (.cells #[.int .i64 D,.int .i64 J,.int .i64 X] 162)).alloc (.cells #[.int .i64 0,.int .i64 0,.bool false] 164)).alloc (.cells #[.int .i64 0,.int .i64 0,.bool false] 164)=A at*;have Z:=fV (HL.o.below X2.o);have L1:=fV HL.o.hz;clear eO HL;have H6:=fV W1;have c0:=bK.o.c0;have c1:=bK.o.c1;have c2:=bK.o.c2;have d4:w.heap.size+4<=wr.heap.size:=by have:=L1.o;omega
    clear W1;by_cases bO:D=0
    ·have a0:((D:Int) !=0)=false:=by rw[bO];rfl
     have aL:QP (oU ps (D,J,X) aG=oR D J qP qP aG):=by unfold QP oU;rw[aB bO]
     obtain⟨I,A0⟩:=xE (qP)
     obtain⟨U,A3⟩:=xE (qP)
     have nL:QP (jV A (wr.heap.size+1) (.int .i64 I.1) (.int .i64 I.2.1) (.bool I.2.2)):=by rw[<-A0];exact aO
     have nN:QP (jV A (wr.heap.size+1+1) (.int .i64 U.1) (.int .i64 U.2.1) (.bool U.2.2)):=by rw[<-A3];exact bM
     have hX:QP (oU ps (D,J,X) aG=oR D J I U aG):=by rw[<-A0,<-A3];exact aL
     clear aO bM aL A0 A3 bO;have aO:=nL;have bM:=nN;have aL:=hX;clear nL nN hX;go_wp2_with (first
      | (refine QQ rfl 162 (.tmp 6) rfl wr.heap.size 0 rfl [.int .i64 D,.int .i64 J,.int .i64 X] _ bK.o.range OK rfl dA ?_)
      | (refine QQ rfl 164 (.tmp 7) rfl (wr.heap.size+1) 0 rfl (nA I) _ aO.o.range NB rfl bQ ?_)
      | (refine QQ rfl 164 (.tmp 8) rfl (wr.heap.size+1+1) 0 rfl (nA U) _ bM.o.range NB rfl bQ ?_)
      | fail)
     refine(Dl D J X aG I U (w.heap.size+1+1) _ _ A T2 T3 (by have:=Z.o.hz;omega) Z.o.nt).mono ?_;rintro e w7 ⟨hI,hK,rfl⟩;have V:=fV (Z.o.net hI hK);clear hI hK Z bK aO bM;rw[<-aL.o]at V ⊢;obtain⟨NP,bN⟩:=xE (oU ps (D,J,X) aG)
     rw[bN]at V hQ ⊢;obtain⟨pp,H3⟩:=NP;have tL:=fV (V.o.pt k bS).2;have sR:=fV (V.o.part bS pp);replace bN:=fV bN;clear aL;go_wp2_with (first
      | (refine QR rfl 164 (.tmp 46) (.tmp 45) rfl (w.heap.size+1+1+1) (k*3) (nA pp).toArray rfl rfl ?_ ?_ ?_ ?_;exact tL.o;exact bQ;(simp[nA,LM]))
      | fail)
     go_roundg d
     case measure=>omega
     case rel=>exact⟨k+1,_,H3,by go_num,by omega,hQ.o,sR.o⟩
    ·have a0:((D:Int) !=0)=true:=by rw[aD];exact bO
     have aL:QP (oU ps (D,J,X) aG=oR D J (ps J.toNat) (ps X.toNat) aG):=by unfold QP oU;rw[aA bO]
     obtain⟨c9,d0,d1,d3⟩:=H6.o bO;have N0:=fV (Z.o.pt J.toNat (by omega)).1;have O0:=fV (Z.o.pt X.toNat (by omega)).1;have a8:((J.toNat:Nat):Int)=J:=by omega
     have a9:((X.toNat:Nat):Int)=X:=by omega
     generalize ps J.toNat=I at*;generalize ps X.toNat=U at*;generalize J.toNat=nl at*;generalize X.toNat=nr at*;subst a8;subst a9;clear bO H6;have c7:=iI nl n (by omega)
     have a5:=iI nr n (by omega)
     have hB:QP (Below (w.heap.size+4) A (A.setCells (wr.heap.size+1) 0 (nA I))):=fX _ _ _ _ bR (by omega);have lH:QP ((A.setCells (wr.heap.size+1) 0 (nA I)).rangeAt (w.heap.size+1+1+1) (nr*3) (nA U)):=fY O0.o (hB.o.block _ (by omega));have hF:QP (jV (A.setCells (wr.heap.size+1) 0 (nA I)) wr.heap.size (.int .i64 D) (.int .i64 (nl:Int)) (.int .i64 (nr:Int))):=bK.o.block (mG A _ _ _ _ (by omega));have qL:QP (jV (A.setCells (wr.heap.size+1) 0 (nA I)) (wr.heap.size+1) (.int .i64 I.1) (.int .i64 I.2.1) (.bool I.2.2)):=aO.o.stored _ _ _;have hG:QP (jV (A.setCells (wr.heap.size+1) 0 (nA I)) (wr.heap.size+1+1) (.int .i64 0) (.int .i64 0) (.bool false)):=bM.o.block (mG A _ _ _ _ (by omega));have hW:=fV (Z.o.keep hB.o lR);go_upto_region 10 with(first
      | (refine QQ rfl 164 (.tmp 33) rfl (w.heap.size+1+1+1) (nl*3) rfl (nA I) _ N0.o NB rfl bQ ?_)
      | (refine QR rfl 164 (.tmp 7) (.tmp 34) rfl (wr.heap.size+1) 0 (nA I).toArray rfl rfl ?_ ?_ ?_ ?_;exact aO.o.there;exact bQ;(simp[nA,LM])))
     generalize A.setCells (wr.heap.size+1) 0 (nA I)=A1 at*;clear bK aO bM Z N0 O0 c0 c1 c2 hB;have d2:=hF.o.c2;have hV:QP (Below (w.heap.size+4) A1 (A1.setCells (wr.heap.size+1+1) 0 (nA U))):=fX _ _ _ _ bR (by omega);have qR:QP (jV (A1.setCells (wr.heap.size+1+1) 0 (nA U)) wr.heap.size (.int .i64 D) (.int .i64 (nl:Int)) (.int .i64 (nr:Int))):=hF.o.block (mG A1 _ _ _ _ (by omega));have cP:QP (jV (A1.setCells (wr.heap.size+1+1) 0 (nA U)) (wr.heap.size+1) (.int .i64 I.1) (.int .i64 I.2.1) (.bool I.2.2)):=qL.o.block (mG A1 _ _ _ _ (by omega));have rL:QP (jV (A1.setCells (wr.heap.size+1+1) 0 (nA U)) (wr.heap.size+1+1) (.int .i64 U.1) (.int .i64 U.2.1) (.bool U.2.2)):=hG.o.stored _ _ _;have cN:=fV (hW.o.keep hV.o lR);go_upto_region 11 with(first
      | (refine QQ rfl 164 (.tmp 38) rfl (w.heap.size+1+1+1) (nr*3) rfl (nA U) _ lH.o NB rfl bQ ?_)
      | (refine QR rfl 164 (.tmp 8) (.tmp 39) rfl (wr.heap.size+1+1) 0 (nA U).toArray rfl rfl ?_ ?_ ?_ ?_;exact hG.o.there;exact bQ;(simp[nA,LM])))
     generalize A1.setCells (wr.heap.size+1+1) 0 (nA U)=A2 at*;clear hF qL hG hW d2 lH hV;go_wp2_with (first
      | (refine QQ rfl 162 (.tmp 6) rfl wr.heap.size 0 rfl [.int .i64 D,.int .i64 (nl:Int),.int .i64 (nr:Int)] _ qR.o.range OK rfl dA ?_)
      | (refine QQ rfl 164 (.tmp 7) rfl (wr.heap.size+1) 0 rfl (nA I) _ cP.o.range NB rfl bQ ?_)
      | (refine QQ rfl 164 (.tmp 8) rfl (wr.heap.size+1+1) 0 rfl (nA U) _ rL.o.range NB rfl bQ ?_)
      | fail)
     refine(Dl D (nl:Int) (nr:Int) aG I U (w.heap.size+1+1) _ _ A2 T2 T3 (by have:=cN.o.hz;omega) cN.o.nt).mono ?_;rintro e w7 ⟨hI,hK,rfl⟩;have V:=fV (cN.o.net hI hK);clear hI hK cN qR cP rL;rw[<-aL.o]at V ⊢;obtain⟨NP,bN⟩:∃q,oU ps (D,(nl:Int),(nr:Int)) aG=q:=⟨_,rfl⟩
     rw[bN]at V hQ ⊢;obtain⟨pp,H3⟩:=NP;have tL:=fV (V.o.pt k bS).2;have sR:=fV (V.o.part bS pp);replace bN:=fV bN;clear aL;go_wp2_with (first
      | (refine QR rfl 164 (.tmp 46) (.tmp 45) rfl (w.heap.size+1+1+1) (k*3) (nA pp).toArray rfl rfl ?_ ?_ ?_ ?_;exact tL.o;exact bQ;(simp[nA,LM]))
      | fail)
     go_roundg d
     case measure=>omega
     case rel=>exact⟨k+1,_,H3,by go_num,by omega,hQ.o,sR.o⟩
   ·have e:gk=0:=by omega
    subst e;have HE:QP (FC=(ps,aG)):=by unfold QP;rw[HQ.o,show aV.drop k=[] by rw[OF,gL.o];omega];rfl
    have B1:=dF k n (by omega)
    go_wp2;go_meet
    case rel=>rw[HE.o];exact HL.o
 case rest=>
  have tT:=fV hcut.more;clear hcut Q;obtain⟨PS,NX⟩:=FC;simp only at*;have c0:wc.cell? ⟨w.heap.size,0,none⟩=some (.slice (some ⟨rg,0,none⟩) m hM):=by rw[hP.o];exact tT.o.fl 0 _ rfl
  go_wp2_with fail;clear c0
  go_loopg [51] m (λ gk iv wr=>∃(k:Nat)(fi la:List Int)(vf vl:tV),iv=.int .i64 (k:Int)/\k+gk=m/\fi=(aX.take k).map (λ x=>(PS x.2.2.toNat).1)/\la=(aX.take k).map (λ x=>(PS x.2.2.toNat).2.1)/\LX w wr n PS NX fi la vf vl vr (.slice (some ⟨ng,0,none⟩) n C) vp)
  case atStart=>exact⟨0,[],[],_,_,rfl,by omega,rfl,rfl,tT.o⟩
  case round=>
   obtain⟨k,fi,la,vf,vl,rfl,c4,S2,W2,W5⟩:=hrel;have HL:=fV W5;have hC:=fV S2;have hE:=fV W2;clear W5 S2 W2 tT;by_cases bS:k<m
   ·obtain⟨d,rfl⟩:∃d,gk=d+1:=⟨gk-1,by omega⟩
    have eT:k<aX.length:=by rw[hJ.o];exact bS
    have hx:aX[k]?=some (aX[k]):=LF eT;have eO:=fV ((Ha.o.below HL.o.bl a6) k _ hx);have W9:=Go.o _ (MA eT);rw[gL.o]at W9;have bT:QP ((aX.take (k+1)).map (λ x=>(PS x.2.2.toNat).1)=fi++[(PS (aX[k]).2.2.toNat).1]):=by unfold QP;rw[PG,hx,NQ,<-hC.o];rfl
    have cF:QP ((aX.take (k+1)).map (λ x=>(PS x.2.2.toNat).2.1)=la++[(PS (aX[k]).2.2.toNat).2.1]):=by unfold QP;rw[PG,hx,NQ,<-hE.o];rfl
    have eR:fi.length=k:=by rw[hC.o,MU,PM];omega
    have eX:la.length=k:=by rw[hE.o,MU,PM];omega
    generalize aX[k]=x at*;obtain⟨f,be,ro⟩:=x;simp only at W9 bT cF;obtain⟨nr,E6⟩:∃nr:Nat,ro=(nr:Int):=⟨ro.toNat,by omega⟩
    subst E6;have E6:nr<n:=by omega
    rw[ML]at bT cF;have tO:=fV (pA wr [.bool false,.bool false,.bool false,.bool false,.int .i64 0,.int .i64 0] 119 6 rfl);have hY:QP (xS ((wr.alloc (.cells #[.bool false,.bool false,.bool false,.bool false,.int .i64 0,.int .i64 0] 119)).setCells wr.heap.size 0 (nH (f,be,(nr:Int)))) wr.heap.size (f,be,(nr:Int))):=
     xS.mk' (LN _ _ _ _ tO.o)
    have H5:QP (Bl wr ((wr.alloc (.cells #[.bool false,.bool false,.bool false,.bool false,.int .i64 0,.int .i64 0] 119)).setCells wr.heap.size 0 (nH (f,be,(nr:Int))))):=fX _ 0 _ wr.heap.size (bR.alloc lR _) lR;have B1:=dT k m (by omega)
    have a2:=iI k m (by omega)
    clear hx eT;go_upto_region 16 with(first
     | (refine QQ rfl 119 (.tmp 53) rfl rg (k*6) rfl (nH (f,be,(nr:Int))) _ eO.o NY rfl cB ?_)
     | (refine QR rfl 119 (.tmp 10) (.tmp 54) rfl wr.heap.size 0 (nH (f,be,(nr:Int))).toArray rfl rfl ?_ ?_ ?_ ?_;exact tO.o;exact cB;(simp[nH,LM])))
    generalize (wr.alloc (.cells #[.bool false,.bool false,.bool false,.bool false,.int .i64 0,.int .i64 0] 119)).setCells wr.heap.size 0 (nH (f,be,(nr:Int)))=A1 at*;have Q:=fV (HL.o.below H5.o);have c5:=hY.o.c5;simp only at c5;have N1:=fV (Q.o.pt nr E6).1;generalize PS nr=PP at*;obtain⟨p1,p2,p3⟩:=PP;simp only at bT cF;have iN:QP (A1.rangeAt (w.heap.size+1+1+1) (nr*3) [.int .i64 p1,.int .i64 p2,.bool p3]):=N1;have Y:=fV (Q.o.below (bR.alloc lR (.cells #[.int .i64 p1,.int .i64 p2,.bool p3] 164)));have sW:=fV (jV.new A1 A1.heap.size 164 (.int .i64 p1) (.int .i64 p2) (.bool p3) rfl);have a5:=iI nr n (by omega)
    have O8:QP (∀q,vf.ownBlock=some q->q<A1.heap.size):=λ q hq=>(Q.o.rf.lt q hq).2
    have b6:QP (∀q,vl.ownBlock=some q->q<A1.heap.size):=λ q hq=>(Q.o.rl.lt q hq).2
    have hS:QP (A1.heap.size<(A1.alloc (.cells #[.int .i64 p1,.int .i64 p2,.bool p3] 164)).heap.size):=by unfold QP;simp
    have Hb:QP (w.heap.size+4<=A1.heap.size):=Q.o.hz;clear hY H5 tO eO N1 HL;go_upto_region 17 with(first
     | (refine QQ rfl 164 (.tmp 58) rfl (w.heap.size+1+1+1) (nr*3) rfl [.int .i64 p1,.int .i64 p2,.bool p3] _ iN.o NB rfl bQ ?_))
    generalize A1.alloc (.cells #[.int .i64 p1,.int .i64 p2,.bool p3] 164)=A2 at*;generalize A1.heap.size=tb at*;have c3:fi.length<=1000:=by omega
    have c8:la.length<=1000:=by omega
    replace eR:=fV eR;replace eX:=fV eX;clear Q iN c5;obtain⟨fa,aR,H1⟩:=gA Y.o.rf;subst H1;obtain⟨lb,bC,H2⟩:=gA Y.o.rl;subst H2;have e0:=Y.o.nt.c0;have z0:=Y.o.nt.fz 0;have b0:=sW.o.c0;have hU:=Y.o.hz;go_upto_region 18 with(first|(at_builtin;refine gB A2 rfl (.tmp 61) (.tmp 64) 48 rfl (w.heap.size+4) 103 (.int .i64 0) 1 8 OB cX rfl (by decide) (by decide) (.slice fa fi.length aR) fi.length (pQ fi) [.int .i64 p1] _ rfl Y.o.rf _ rfl rfl rfl (by simp[LM]) (by omega) hU ?_;intro g4 cap4 w4 hL F rO W3;have HM:=fV (Y.o.moreF (x:=p1) hL F rO);have m3:=(HM.o.2.cell (p:=⟨w.heap.size+1+1,0,none⟩) (show w.heap.size+1+1<w.heap.size+4 by omega)).trans e0;have n3:=(HM.o.2.frozen (p:=⟨w.heap.size+1+1,0,none⟩) (show w.heap.size+1+1<w.heap.size+4 by omega)).trans z0;have O6:=fV (sW.o.block ((F.block tb (by have:=hS.o;simp;omega) (λ e=>by have:=O8.o tb e.symm;omega)).trans (MD _ _ _ hS.o)));clear e0 z0 b0))
    have hD:=fV HM.o.1;have cP:QP (jV (w4.setCell ⟨w.heap.size+1+1,0,none⟩ (.slice (some ⟨g4,0,none⟩) (fi.length+1) cap4)) tb (.int .i64 p1) (.int .i64 p2) (.bool p3)):=O6.o.block (MH _ _ _ _ (by have:=Hb.o;simp only;omega));have b3:QP (tb<(w4.setCell ⟨w.heap.size+1+1,0,none⟩ (.slice (some ⟨g4,0,none⟩) (fi.length+1) cap4)).heap.size):=by have:=F.size;have:=hS.o;unfold QP;simp[MI]at*;omega
    generalize w4.setCell ⟨w.heap.size+1+1,0,none⟩ (.slice (some ⟨g4,0,none⟩) (fi.length+1) cap4)=w5 at*;clear HM O6 hL F rO W3 m3 n3 Y sW hS O8 hU;have e1:=hD.o.nt.c1;have z1:=hD.o.nt.fz 1;have b1:=cP.o.c1;have hU:=hD.o.hz;go_wp2_with (first|(at_builtin;refine gB w5 rfl (.tmp 68) (.tmp 71) 48 rfl (w.heap.size+4) 103 (.int .i64 0) 1 8 OB cX rfl (by decide) (by decide) (.slice lb la.length bC) la.length (pQ la) [.int .i64 p2] _ rfl hD.o.rl _ rfl rfl rfl (by simp[LM]) (by omega) hU ?_;intro g6 b4 w6 H0 hT O9 b5;have HM:=fV (hD.o.moreL (x:=p2) H0 hT O9);have m3:=(HM.o.2.cell (p:=⟨w.heap.size+1+1,1,none⟩) (show w.heap.size+1+1<w.heap.size+4 by omega)).trans e1;have n3:=(HM.o.2.frozen (p:=⟨w.heap.size+1+1,1,none⟩) (show w.heap.size+1+1<w.heap.size+4 by omega)).trans z1;clear e1 z1 b1)|fail);go_roundg d
    case measure=>omega
    case rel=>exact⟨k+1,_,_,_,_,by go_num,by omega,bT.o.symm,cF.o.symm,HM.o.1⟩
   ·have e:k=m:=by omega
    have B2:(aX.take k)=aX:=List.take_of_length_le (by rw[hJ.o];omega);rw[B2]at hC hE;replace B2:=fV B2;have B1:=dF k m (by omega)
    clear e;obtain⟨fa,aR,H1⟩:=gA HL.o.rf;subst H1;obtain⟨lb,bC,H2⟩:=gA HL.o.rl;subst H2;have eR:fi.length=aX.length:=by rw[hC.o,MU]
    have eX:la.length=aX.length:=by rw[hE.o,MU]
    replace eR:=fV eR;replace eX:=fV eX;have O3:QP (wr.rangeAt (w.heap.size+1+1) 0 (mQ (.slice fa fi.length aR) (.slice lb la.length bC) NX).toList):=Wr HL.o.nt;have O7:=fV HL.o.t1;obtain⟨NA,hH⟩:=xE (mQ (.slice fa fi.length aR) (.slice lb la.length bC) NX)
    have eN:QP (NA.size=12/\NA.all (·.oneCell')=true):=by rw[<-hH];exact⟨rfl,by simp[mQ,LM]⟩
    rw[hH]at O3;replace hH:=fV hH;go_wp2_with (first
     | (refine QQ rfl 108 (.tmp 3) rfl (w.heap.size+1+1) 0 rfl NA.toList _ O3.o NG rfl ?_ ?_;(rw[MS,eN.o.1];exact cE))
     | (refine QR rfl 108 (.tmp 2) (.tmp 75) rfl (w.heap.size+1) 0 NA rfl rfl ?_ ?_ eN.o.2 ?_;(rw[eN.o.1];exact O7.o);(rw[eN.o.1];exact cE)))
    refine lE results36 (w.heap.size+1) 0 NA.toList _ rfl ?_ NG rfl (by rw[MS,eN.o.1];exact cE) rfl ?_
    ·exact LN _ _ _ _ (by rw[MS,eN.o.1];exact O7.o)
    ·refine⟨.slice fa fi.length aR,.slice lb la.length bC,?_,fX _ 0 _ _ HL.o.bl (PO _),?_,?_⟩
     ·rw[eL.o,hH.o]
     ·rw[eL.o,<-hC.o,<-eR.o];exact lC HL.o.rf (by omega) _ 0
     ·rw[eL.o,<-hE.o,<-eX.o];exact lC HL.o.rl (by omega) _ 0
def Jy(w:tW)(K:Nat)(cg:Nat)(ls:List (List (Nat×List Int))):Prop:=
 ∃ys:List pB,ys.map (λ y=>y.2.map (·.1))=ls/\w.rangeAt cg 0 (xD ys)/\∀y∈ys,oH w K y
def IT(w:tW)(K:Nat):Option (List (List (Nat×List Int)))->Ending->tW->Prop
 | none,e,w'=>e=.returned (.tuple #[.slice none 0 0,.int .i64 4])/\Bl w w'
 | some ls,e,w'=>∃cg aJ,e=.returned (.tuple #[.slice (some ⟨cg,0,none⟩) ls.length aJ,.int .i64 0])/\Jy w' K cg ls/\cg<w'.heap.size/\Bl w w'
theorem dD:(Tryz.prog.info? 110).map (λ i=>(i.zero,i.size,i.bytes))=some (some (.slice none 0 0),1,24):=by kernel_rfl
theorem Ja{w:tW}{vf vl:tV}{aG:Nat->Int}(h:w.rangeAt nb 0 (mQ vf vl aG).toList)(D:∀i,w.frozen? ⟨nb,i,none⟩=false):kD w nb vf vl aG:=by
 have o:∀k v,(mQ vf vl aG).toList[k]?=some v->w.cell? ⟨nb,k,none⟩=some v:=λ k v C=>by have:=h k v C;rw[LS]at this;exact this
 refine⟨o 0 _ rfl,o 1 _ rfl,λ k C=>?_,D⟩;have:k=0\/k=1\/k=2\/k=3\/k=4\/k=5\/k=6\/k=7\/k=8\/k=9:=by omega
 rcases this with rfl|rfl|rfl|rfl|rfl|rfl|rfl|rfl|rfl|rfl<;>exact o _ _ rfl
theorem EE(f:Nat->Bool):∀k c,vP f k c<=max c k:=by
 intro k
 induction k with
 | zero=>intro c;rw[vP];exact Nat.le_max_left _ _
 | succ j ih=>
  intro c;have:=ih c;rw[vP];split<;>omega
theorem Iq:∀(aX:List ((Nat->Bool)×Int×Int)) (c:Nat),c<=1000->(∀x∈aX,0<=x.2.1/\x.2.1<=1000)->iP aX c<=1000:=by
 intro aX
 induction aX with
 | nil=>intro c h _;exact h
 | cons x r ih=>
  intro c h o;rw[iP];refine ih _ ?_ (λ y C=>o y (MM _ C));have D:=EE x.1 4 c;have F:=o x MN;unfold N2;split<;>omega
structure KH(W:tW)(n0 nb rg rcap m ng ncap nn fg fcap pg:Nat)(vp vl:tV)(NXT:Nat->Int)(FI LA G:List Int)(GA:Array tV)(aX:List ((Nat->Bool)×Int×Int)):Prop where
 fl:W.rangeAt n0 0 [.slice (some ⟨rg,0,none⟩) m rcap,.slice (some ⟨ng,0,none⟩) nn ncap,vp]
 gr:W.rangeAt (n0+1) 0 GA.toList
 nr:W.rangeAt nb 0 (mQ (.slice (some ⟨fg,0,none⟩) m fcap) vl NXT).toList
 nt:kD W nb (.slice (some ⟨fg,0,none⟩) m fcap) vl NXT
 fn:M3 W fg m (λ r=>FI.getD r 0)
 rl:Bk W vl LA
 ru:uC W rg aX
 gm:∀j a,G[j]?=some a->W.cell? ⟨pg,j,none⟩=some (.int .i64 a)
 b1:n0+1<nb
 b2:fg<nb
 b3:∀k,vl.ownBlock=some k->k<nb
 b4:rg<n0
 b5:pg<n0
theorem KH.below{W V:tW}{rg F m Z D nn X o:Nat}{vp vl:tV}{I:Nat->Int}{J U:List Int}{Q:Array tV}{aX:List ((Nat->Bool)×Int×Int)}
  (h:KH W n0 nb rg F m Z D nn X o pg vp vl I J U G Q aX) (C:Below B W V) (Y:nb<B):KH V n0 nb rg F m Z D nn X o pg vp vl I J U G Q aX:=by
 have b1:=h.b1;have b2:=h.b2;have b4:=h.b4;have b5:=h.b5;exact⟨fY h.fl (C.block _ (by omega)),fY h.gr (C.block _ (by omega)),fY h.nr (C.block _ Y),h.nt.below C Y,h.fn.below C (by omega),h.rl.below C (λ k hk=>by have:=h.b3 k hk;omega),h.ru.below C (by omega),
  λ j a hj=>(C.cell (p:=⟨pg,j,none⟩) (show pg<B by omega)).trans (h.gm j a hj),b1,b2,h.b3,b4,b5⟩
def rQ(aV:List (Int×Int×Int)):Nat->Int:=(jJ aV 0 (λ _=>qP) (λ _=>0)).2
def zD(aV:List (Int×Int×Int))(aX:List ((Nat->Bool)×Int×Int)):List Int:=aX.map λ x=>((jJ aV 0 (λ _=>qP) (λ _=>0)).1 x.2.2.toNat).1
def vC(aV:List (Int×Int×Int))(aX:List ((Nat->Bool)×Int×Int)):List Int:=aX.map λ x=>((jJ aV 0 (λ _=>qP) (λ _=>0)).1 x.2.2.toNat).2.1
def pP(aV:List (Int×Int×Int))(aX:List ((Nat->Bool)×Int×Int))(G:List Int)(c:Nat):Option (List (Nat×List Int)):=
 Ik (rQ aV) (rM (λ r=>(zD aV aX).getD r 0) c aX 0 0) G (vC aV aX)
theorem BU(aV:List (Int×Int×Int))(aX:List ((Nat->Bool)×Int×Int))(V C X D pg hQ:Nat)(vp:tV)(G:List Int)(GA:Array tV)(w:tW)
  (hn:aV.length<=1000) (S2:Jc aV) (hN:D9 w V aV) (hg:V<w.heap.size) (hF:aX.length<=1000) (a5:0<aX.length) (hR:uC w X aX) (qL:X<w.heap.size) (qR:∀x∈aX,0<=x.2.2/\x.2.2<aV.length) (O6:∀x∈aX,0<=x.2.1/\x.2.1<=1000)
  (N1:GA.size=257) (N0:GA.all (·.oneCell')=true) (L1:GA[256]?=some (.slice (some ⟨pg,0,none⟩) G.length hQ)) (hX:G.length<=300) (M2:∀j a,G[j]?=some a->w.cell? ⟨pg,j,none⟩=some (.int .i64 a)) (S5:pg<w.heap.size):
  QY LZ 18 #[.agg #[.slice (some ⟨X,0,none⟩) aX.length D,.slice (some ⟨V,0,none⟩) aV.length C,vp],.agg GA] w λ e w'=>IT w G.length (xT (pP aV aX G) (iP aX 1) 0 []) e w':=by
 obtain⟨i1,O9,rO,rT,W5⟩:=QT dD;have HI:QP (Tryz.prog.info? 110=some i1/\i1.zero=some (.slice none 0 0)/\i1.size=1/\i1.bytes=24):=⟨O9,rO,rT,W5⟩
 clear O9 rO rT W5;obtain⟨W0,Q⟩:=xE ((w.alloc (.cells #[.slice (some ⟨X,0,none⟩) aX.length D,.slice (some ⟨V,0,none⟩) aV.length C,vp] 44)).alloc (.cells GA 50))
 have rO:W0.heap.size=w.heap.size+1+1:=by rw[<-Q];simp
 have eM:QP (Below w.heap.size w W0):=by unfold QP;rw[<-Q];exact(bR.alloc lR _).alloc (by simp) _
 have bS:QP (W0.rangeAt w.heap.size 0 [.slice (some ⟨X,0,none⟩) aX.length D,.slice (some ⟨V,0,none⟩) aV.length C,vp]):=by
  unfold QP;rw[<-Q];exact fY (mE w #[.slice (some ⟨X,0,none⟩) aX.length D,.slice (some ⟨V,0,none⟩) aV.length C,vp] 44) (MD _ _ _ (by simp))
 have H0:QP (W0.rangeAt (w.heap.size+1) 0 GA.toList):=by
  unfold QP;rw[<-Q];have:=mE (w.alloc (.cells #[.slice (some ⟨X,0,none⟩) aX.length D,.slice (some ⟨V,0,none⟩) aV.length C,vp] 44)) GA 50;have e:(w.alloc (.cells #[.slice (some ⟨X,0,none⟩) aX.length D,.slice (some ⟨V,0,none⟩) aV.length C,vp] 44)).heap.size=w.heap.size+1:=by simp
  rw[e]at this;exact this
 have hD:=Xh aV aX V C X D vp W0 hn S2 (hN.below eM.o hg) (by omega) hF (hR.below eM.o qL) (by omega) qR;have HN:=fV hN;have HR:=fV hR;have b1:=fV qR;have A2:=fV O6;have H2:=fV L1;have H3:=fV M2;have X0:=fV N1;have b0:=fV N0;clear hN hR qR O6 L1 M2 N1 N0 S2;obtain⟨m,hm⟩:=xE (aX.length)
 obtain⟨nn,nL⟩:=xE (aV.length)
 obtain⟨K,hK⟩:=xE (G.length)
 rw[hm]at hF a5 bS Q hD ⊢;rw[nL]at hn bS Q hD ⊢;rw[hK]at hX H2 ⊢;replace hm:=fV hm;replace nL:=fV nL;replace hK:=fV hK;replace Q:=fV Q;go_enter func18,ntmps18;go_upto_region 1 with(first
  | (refine wpList_boxTo rfl 50 (.tmp 1) rfl _ rfl (w.heap.size+1) (by simp) GA rfl ?_))
 rw[Q.o];go_wp2_with (first|(refine QQ rfl 44 (.tmp 2) rfl w.heap.size 0 rfl [.slice (some ⟨X,0,none⟩) m D,.slice (some ⟨V,0,none⟩) nn C,vp] _ bS.o ND rfl bX ?_)|fail);refine hD.mono ?_;rintro e w1 ⟨vf,vl,rfl,cF,T2,T3⟩;have aR:w1.ownsRow (W0.heap.size+4) 103 1 vf (zD aV aX).length (pQ (zD aV aX)):=by unfold zD;rw[MU];exact T2
 have aT:w1.ownsRow (W0.heap.size+4) 103 1 vl (vC aV aX).length (pQ (vC aV aX)):=by unfold vC;rw[MU];exact T3
 have X4:(zD aV aX).length=m:=by unfold zD;rw[MU,hm.o]
 have b6:(vC aV aX).length=m:=by unfold vC;rw[MU,hm.o]
 have H4:QP ((jJ aV 0 (λ _=>qP) (λ _=>0)).2=rQ aV):=rfl;rw[H4.o];obtain⟨CS,bN⟩:=xE (pP aV aX G)
 have W9:QP (∀c,CS c=Ik (rQ aV) (rM (λ r=>(zD aV aX).getD r 0) c aX 0 0) G (vC aV aX)):=λ c=>by rw[<-bN];rfl
 replace bN:=fV bN;generalize rQ aV=NXT at*;generalize zD aV aX=FI at*;generalize vC aV aX=LA at*;obtain⟨fg,J,a6,_,_⟩:=aR.form (by omega);subst a6;have E6:QP (M3 w1 fg m (λ r=>FI.getD r 0)):=λ i hi=>by
  have:=aR.cells rfl i (.int .i64 (FI.getD i 0)) (B6 FI i _ (by rw[LD,LF (by omega)];rfl));rw[wI]at this;exact this
 have hM:=(aR.lt fg rfl).2;have H5:=fV (Uc aT);have hV:QP (∀k,vl.ownBlock=some k->k<w1.heap.size):=λ k hk=>(aT.lt k hk).2
 obtain⟨c5,a9,W1⟩:=gA aT;rw[X4];clear T2 T3 aR aT hD H4;have B2:=fV (fY bS.o (cF.block _ (by omega)));have H1:=fV (fY H0.o (cF.block _ (by omega)));have tO:=fV (eM.o.trans (cF.mono (by omega)));have rT:=cF.size;clear bS H0 eM cF;obtain⟨NA,bC⟩:=xE (mQ (.slice (some ⟨fg,0,none⟩) m J) vl NXT)
 have eR:QP (NA.size=12/\NA.all (·.oneCell')=true):=by rw[<-bC];exact⟨rfl,by rw[W1];simp[mQ,LM]⟩
 clear W1;rw[bC];have eX:=fV (iD w1 (mQ (.slice none 0 0) (.slice none 0 0) (λ _=>0)) 108 w1.heap.size 12 rfl rfl);have Y:QP (Below w1.heap.size w1 ((w1.alloc (.cells (mQ (.slice none 0 0) (.slice none 0 0) (λ _=>0)) 108)).setCells w1.heap.size 0 NA.toList)):=fX _ 0 _ w1.heap.size (bR.alloc lR _) lR;have eT:QP (((w1.alloc (.cells (mQ (.slice none 0 0) (.slice none 0 0) (λ _=>0)) 108)).setCells w1.heap.size 0 NA.toList).rangeAt w1.heap.size 0 NA.toList):=LN _ _ _ _ (by rw[MS,eR.o.1];exact eX.o);have hT:QP (∀i,((w1.alloc (.cells (mQ (.slice none 0 0) (.slice none 0 0) (λ _=>0)) 108)).setCells w1.heap.size 0 NA.toList).frozen? ⟨w1.heap.size,i,none⟩=false):=λ i=>by rw[uX,OO]
 have hW:QP (w1.heap.size<((w1.alloc (.cells (mQ (.slice none 0 0) (.slice none 0 0) (λ _=>0)) 108)).setCells w1.heap.size 0 NA.toList).heap.size):=by
  have:=(fX NA.toList 0 (w1.alloc (.cells (mQ (.slice none 0 0) (.slice none 0 0) (λ _=>0)) 108)) w1.heap.size (OZ 0 _) zL).size;unfold QP;simp at this;omega
 unfold mQ at eX Y eT hT hW;go_upto_region 2 with(first
  | (refine QR rfl 108 (.tmp 6) (.tmp 15) rfl w1.heap.size 0 NA rfl rfl ?_ ?_ eR.o.2 ?_;(rw[eR.o.1];exact eX.o);(rw[eR.o.1];exact cE)))
 generalize hW2:(w1.alloc (.cells #[.slice none 0 0,.slice none 0 0,.int .i64 0,.int .i64 0,.int .i64 0,.int .i64 0,.int .i64 0,.int .i64 0,.int .i64 0,.int .i64 0,.int .i64 0,.int .i64 0] 108)).setCells w1.heap.size 0 NA.toList=W2 at*;have aW:QP (Below w.heap.size w W2):=tO.o.trans (Y.o.mono (by omega));have F:QP (KH W2 w.heap.size w1.heap.size X D m V C nn fg J pg vp vl NXT FI LA G GA aX):=by
  refine⟨fY B2.o (Y.o.block _ (by omega)),fY H1.o (Y.o.block _ (by omega)),by rw[bC];exact eT.o,Ja (by rw[bC];exact eT.o) hT.o,E6.o.below Y.o hM,H5.o.below Y.o hV.o,HR.o.below aW.o qL,λ j a hj=>(aW.o.cell (p:=⟨pg,j,none⟩) S5).trans (H3.o j a hj),by omega,hM,hV.o,qL,S5⟩
 have aL:QP (w1.heap.size<W2.heap.size):=hW;clear B2 H1 eT hT E6 H5 hV H3 Y eX hW tO hW2;obtain⟨nb,a4⟩:=xE (w1.heap.size)
 rw[a4]at F aL ⊢;replace bC:=fV bC;have hB:=Qs aX X D (.slice (some ⟨V,0,none⟩) nn C) vp W2 (by rw[hm.o];exact hF) A2.o F.o.ru (by have:=aW.o.size;omega);rw[hm.o]at hB;have Pl:=Iq aX 1 (by omega) A2.o;obtain⟨CN,bT⟩:=xE (iP aX 1)
 rw[bT]at hB Pl;replace bT:=fV bT;go_wp2_with (first|(refine QQ rfl 44 (.tmp 2) rfl w.heap.size 0 rfl [.slice (some ⟨X,0,none⟩) m D,.slice (some ⟨V,0,none⟩) nn C,vp] _ F.o.fl ND rfl bX ?_)|fail);refine hB.mono ?_;rintro e w3 ⟨rfl,gL⟩;have hH:=fV (F.o.below gL aL.o);have eN:=fV (aW.o.trans (gL.mono aW.o.size));have sR:nb<w3.heap.size:=by have:=gL.size;have:=aL.o;omega
 clear gL hB F aW aL;go_wp2_with (first|(at_make;refine QV w3 rfl _ _ 52 rfl w3.heap.size 110 i1 (.slice none 0 0) 1 underlying52 HI.o.1 HI.o.2.1 HI.o.2.2.1 .i64 .i64 _ CN rfl rfl rfl (by rw[HI.o.2.2.2];omega) (by unfold QX;omega) lR ?_;intro w4 eL bK));have hY:Below w3.heap.size w3 w4:=⟨bK.os,bK.tape,bK.output,bK.size,λ k hk=>bK.block k hk (by simp)⟩
 have hI:=fV (hH.o.below hY sR);have tT:=fV (eN.o.trans (hY.mono eN.o.size));have hU:=fV eL;have W7:w.heap.size<=w3.heap.size:=eN.o.size;clear eL bK hY hH eN;obtain⟨cg,Hb⟩:=xE (w3.heap.size)
 rw[Hb]at hU sR W7 ⊢;obtain⟨AL,bM⟩:=xE (xT CS CN 0 [])
 replace bM:=fV bM
 go_loopg [8,9] CN (λ gk cv iv wr=>∃(c:Nat)(aS:List (List (Nat×List Int))) (ys:List pB),cv=.slice (some ⟨cg,0,none⟩) c CN/\iv=.int .i64 (c:Int)/\c+gk=CN/\ys.length=c/\ys.map (λ y=>y.2.map (·.1))=aS/\AL=xT CS gk c aS/\
  wr.ownsRow cg 110 1 (.slice (some ⟨cg,0,none⟩) c CN) c (xD ys)/\(∀y∈ys,oH wr K y/\∀k,V3 y k->cg<k)/\KH wr w.heap.size nb X D m V C nn fg J pg vp vl NXT FI LA G GA aX/\Below w.heap.size w wr)
 case atStart=>exact⟨0,[],[],rfl,rfl,by omega,rfl,rfl,bM.o.symm,hU.o,λ y hy=>absurd hy (LY),hI.o,tT.o⟩
 case round=>
  obtain⟨c,aS,ys,rfl,rfl,a8,W4,hL,O8,cP,O7,O3,hb⟩:=hrel;have HQ:=fV O8;have HO:=fV cP;have eO:=fV O7;have F:=fV O3;have HB:=fV hb;have H6:=fV W4;have bO:=fV hL;have a0:cg<wr.heap.size:=(cP.lt cg rfl).2;have W3:=hb.size;clear O8 cP O7 O3 hb W4 hL hU hI tT;by_cases c1:c<CN
  ·obtain⟨d,rfl⟩:∃d,gk=d+1:=⟨gk-1,by omega⟩
   have a2:=dT c CN (by omega)
   have lH:=Qq aX X D nb fg J c (λ r=>FI.getD r 0) (.slice (some ⟨V,0,none⟩) nn C) vp wr (by rw[hm.o];exact hF) F.o.ru (by omega) (by omega) (by rw[hm.o];exact F.o.nt.c0) (by rw[hm.o];exact F.o.fn) (by have:=F.o.b2;omega);rw[hm.o]at lH;have A3:=fV (W9.o c);generalize rM (λ r=>FI.getD r 0) c aX 0 0=BG at*;go_wp2_with (first|(refine QQ rfl 44 (.tmp 2) rfl w.heap.size 0 rfl [.slice (some ⟨X,0,none⟩) m D,.slice (some ⟨V,0,none⟩) nn C,vp] _ F.o.fl ND rfl bX ?_)|fail);refine lH.mono ?_;rintro e w5 ⟨rfl,hA⟩;have I:=fV (F.o.below hA (by omega));have a7:=hA.size;have A0:=fV hA;clear hA lH;have Go:GA.toList.length=257:=by rw[MS];exact X0.o
   have rL:=Nq (.slice (some ⟨fg,0,none⟩) m J) vl NXT LA G GA pg hQ BG w5 (by omega) I.o.rl (λ k hk=>by have:=I.o.b3 k hk;omega) (by rw[hK.o];exact H2.o) (by rw[hK.o];exact hX) I.o.gm (by have:=I.o.b5;omega);rw[hK.o]at rL;go_wp2_with (first
    | (refine QQ rfl 108 (.tmp 6) rfl nb 0 rfl (mQ (.slice (some ⟨fg,0,none⟩) m J) vl NXT).toList _ I.o.nr NG rfl cE ?_)
    | (refine QQ rfl 50 (.tmp 3) rfl (w.heap.size+1) 0 rfl GA.toList _ I.o.gr NT rfl ?_ ?_;(rw[Go];exact cD))
    | fail)
   refine rL.mono ?_;rintro e w6 ⟨tg,W8,zb,rfl,iN,O0⟩;have hP:=tY NXT BG G;have c2:=yR hP.1;have hJ:QP (CS c=zC (jF NXT BG G).1.length (λ s=>yT LA ((jF NXT BG G).1.getD s 0)) (λ s k=>((jF NXT BG G).2.getD s []).getD k 0) K):=by unfold QP;rw[A3.o,<-hK.o];rfl
   have hE:=Sg tg (jF NXT BG G).1.length W8 K zb _ _ w6 (by omega) hX (λ i k hi hk=>BF NXT BG G i k hi (by rw[hK.o];exact hk)) O0;rw[<-hJ.o]at hE;have A1:=fV (A0.o.trans (iN.mono a7));have c3:=iN.size;clear iN O0 rL hP A3 hJ I A0;generalize (jF NXT BG G).1.length=rn at*;go_wp2_with fail;refine hE.mono ?_;intro e w7 aO;have eS:QP (AL=match CS c with
    | none=>none
    | some l=>xT CS d (c+1) (aS++[l])):=HQ.o
   cases hcsc:CS c with
   | none=>
    rw[hcsc]at aO eS;obtain⟨rfl,cN⟩:=aO;have HE:QP (AL=none):=eS.o;have hS:=fV (HB.o.trans ((A1.o.trans (cN.mono (by omega))).mono W3));clear cN hE hcsc;go_wp2;go_ret2;rw[bN.o,bT.o,bM.o,HE.o];exact⟨rfl,hS.o⟩
   | some l=>
    rw[hcsc]at aO eS;obtain⟨v,⟨B,zs,b4,hv,W6,sW,hG,cN⟩,rfl⟩:=aO
    cases hv
    have HE:QP (AL=xT CS d (c+1) (aS++[l])):=eS.o;have U:QP (Below wr.heap.size wr w7):=A1.o.trans (cN.mono (by omega));have HY:QP (oH w7 K (B,zs)/\∀k,V3 (B,zs) k->cg<k):=by
     refine⟨⟨(sW.lt B rfl).2,λ i u hu=>?_,λ z hz=>⟨(hG z hz).2.1,(hG z hz).2.2⟩⟩,λ k hk=>?_⟩
     ·have:=sW.cells rfl i u hu;rw[wI]at this;rw[LS];exact this
     ·rcases hk with rfl|⟨z,hz,rfl⟩
      ·omega
      ·have:=(hG z hz).1;omega
    have X2:=fV W6;have X1:=fV (wS HO.o U.o);have B1:QP (∀y∈ys,oH w7 K y/\∀k,V3 y k->cg<k):=λ y hy=>⟨(eO.o y hy).1.below U.o lR,(eO.o y hy).2⟩
    have tL:=fV (F.o.below U.o (by omega));have hS:=fV (HB.o.trans (U.o.mono W3));have c4:=U.o.size;clear cN hE hcsc W6 sW hG HO eO F HB;go_wp2_with (first|(at_builtin;refine lD w7 rfl _ _ 52 rfl cg 110 (.slice none 0 0) 1 24 underlying52 dD cg c CN (xD ys) [.slice (some ⟨B,0,none⟩) zs.length zs.length] _ rfl X1.o _ rfl rfl rfl (by simp[LM]) (by omega) ?_;intro w8 nN hC)|fail);go_roundg d
    case measure=>omega
    case rel=>
     have a3:=OY w7 (.cells #[.slice (some ⟨B,0,none⟩) zs.length zs.length] 110) (some cg);have Z:=gD a3 hC;have P0:∀y:pB,(oH w7 K y/\∀k,V3 y k->cg<k)->oH w8 K y/\∀k,V3 y k->cg<k:=λ y hy=>⟨hy.1.block Z.size (λ k hk ho=>Z.block k hk (λ e=>by injection e with e;have:=hy.2 k ho;omega)),hy.2⟩
     have O5:Below cg w7 w8:=⟨Z.os,Z.tape,Z.output,Z.size,λ k hk=>Z.block k (by omega) (λ e=>by injection e with e;omega)⟩
     refine⟨c+1,aS++[l],ys++[(B,zs)],rfl,by go_num,by omega,by simp[H6.o],?_,HE.o,by rw[By];exact nN,λ y hy=>?_,tL.o.below O5 sR,hS.o.trans (O5.mono W7)⟩
     ·rw[NQ,bO.o,PA];simp only;rw[X2.o]
     ·rcases LO.1 hy with h1|h1
      ·exact P0 y (B1.o y h1)
      ·rw[LI]at h1;rw[h1];exact P0 _ HY.o
  ·have e:gk=0:=by omega
   subst e;have HE:QP (AL=some aS):=HQ.o;have a2:=dF c CN (by omega)
   go_wp2;go_ret2;rw[bN.o,bT.o,bM.o,HE.o];have Ha:aS.length=c:=by rw[<-bO.o,MU,H6.o]
   refine⟨cg,CN,by rw[Ha];rfl,⟨ys,bO.o,λ i u hu=>?_,λ y hy=>(eO.o y hy).1⟩,a0,HB.o⟩;have:=HO.o.cells rfl i u hu;rw[wI]at this;rw[LS];exact this
theorem Lx:∀c:Nat,c<256->Ib c B8=Ff (c:Int):=by decide+kernel
theorem i7:∀c:Nat,c<256->c≠92->kV (c:Int) kJ=(nT (c:Int) && !Ib c Yk):=by decide+kernel
theorem kC{s:tB}(h:i<s.size)(b:Nat):kU s (b:Int) i=decide (bt s i=b):=by
 unfold kU;rw[lK h];congr 1;simp only[eq_iff_iff];omega
theorem wP{s:tB}(h:s.size<=i)(b:Nat):kU s (b:Int) i=false:=by
 unfold kU;rw[jW h,aF];omega
def AM(p:Nat×Nat×Bool):Option (Int×Nat):=if p.2.2=true then some ((p.1:Int),p.2.1)else none
theorem Cb{s:tB}:J3 s i=if s.size<=i then none else AM ((uW (bt s i)).1,i+1,(uW (bt s i)).2):=by
 by_cases h:s.size<=i
 ·rw[aB h];have a1:=wP h 110;have C:=wP h 115;unfold J3;rw[aA (by rw[show((110:Nat):Int)=110 from rfl]at a1;rw[a1];simp),aA (by rw[show((115:Nat):Int)=115 from rfl]at C;rw[C];simp),jW h,aA (by decide)]
 ·rw[aA h];have o:i<s.size:=by omega
  have a1:kU s 110 i=decide (bt s i=110):=kC o 110;have C:kU s 115 i=decide (bt s i=115):=kC o 115;unfold J3;rw[a1,C,lK o,<-Lx _ (mT s i)];unfold uW AM;by_cases D:bt s i=110
  ·simp[D]
  ·by_cases F:bt s i=115
   ·simp[F]
   ·simp[D,F]
theorem D4{s:tB}{i:Nat}:jK s kJ i=AM (qN s i):=by
 by_cases h:s.size<=i
 ·have a1:kU s 92 i=false:=wP h 92;unfold jK qN;rw[a1,aB h,jW h]
  rfl
 ·have C:i<s.size:=by omega
  have a1:kU s 92 i=decide (bt s i=92):=kC C 92;unfold jK qN;rw[a1,aA h];by_cases o:bt s i=92
  ·rw[aB (by simp[o]),aB o,Cb];by_cases D:s.size<=i+1
   ·rw[aB D,aB D];rfl
   ·rw[aA D,aA D]
  ·rw[aA (by simp[o]),aA o,lK C,i7 _ (mT s i) o]
   rfl
theorem dH:(Tryz.prog.info? 121).map (·.size)=some 2:=by kernel_rfl
theorem Za(cg n K aJ:Nat)(yb:Nat->Nat)(zb:Nat->Nat->Nat)(ns:Nat->Nat)(tk:Nat->Nat->Nat)(nx:Nat->Nat->Nat->Int)(g h:Nat)(w:tW)(hn:n<=1000)(aR:∀c,c<n->ns c<=1000)(hg:g<K)(hh:h<K)(hC:CM w w.heap.size cg n K yb zb ns tk nx):
  QY LZ 74 #[.slice (some ⟨cg,0,none⟩) n aJ,.int .i64 g,.int .i64 h] w λ e w'=>e=.returned (.bool (mJ ns nx n g h))/\Bl w w':=by
 have HC:=fV hC;have bM:=fV aR;clear hC aR;have eR:=iI g K (by omega)
 have eS:=iI h K (by omega)
 go_enter func74,ntmps74;go_wp2_with fail
 go_loopw [13] (λ x wr=>∃c:Nat,x=.int .i64 (c:Int)/\c<=n/\(∀Q,Q<c->∀s,s<ns Q->nx Q s g=nx Q s h)/\Bl w wr) (λ x _=>n-(intOf x).toNat)
 case atStart=>exact⟨0,rfl,zL,λ c hc=>absurd hc (OS _),bR⟩
 case round=>
  obtain⟨c,rfl,eO,V,hb⟩:=hrel;have HA:=fV V;have HB:=fV hb;clear V hb;by_cases F:c<n
  ·have c1:=(HC.o.below HB.o lR).cc c F;obtain⟨N,hN⟩:=xE (ns c)
   rw[hN]at c1;have eL:N<=1000:=by rw[<-hN];exact bM.o c F
   replace hN:=fV hN;have eN:=iI c n (by omega)
   have bS:=dT c n (by omega)
   go_wp2_with fail;clear c1
   go_loopw [19] (λ x wj=>∃s:Nat,x=.int .i64 (s:Int)/\s<=N/\(∀J,J<s->nx c J g=nx c J h)/\Bl w wj) (λ x _=>N-(intOf x).toNat)
   case atStart=>exact⟨0,rfl,zL,λ s hs=>absurd hs (OS _),HB.o⟩
   case round=>
    obtain⟨s,rfl,eX,U,aL⟩:=hrel;have aO:=fV U;have X:=fV aL;have cN:=aL.size;clear U aL HB;by_cases hs:s<N
    ·have D:s<ns c:=by rw[hN.o];exact hs
     have Y:=fV (HC.o.below X.o lR);have bN:QP (wr.rangeAt (yb c) (s*2) [.int .i64 (tk c s),.slice (some ⟨zb c s,0,none⟩) K K]):=λ i v hv=>by
      have hi:i<2:=(LH.1 hv).1;have:i=0\/i=1:=by omega
      rcases this with rfl|rfl
      ·cases hv;exact Y.o.tc c s F D
      ·cases hv;exact Y.o.nc c s F D
     have C:QP (Bl w (wr.alloc (.cells #[.int .i64 (tk c s),.slice (some ⟨zb c s,0,none⟩) K K] 121))):=X.o.alloc cN _;have d1:(wr.alloc (.cells #[.int .i64 (tk c s),.slice (some ⟨zb c s,0,none⟩) K K] 121)).cell? ⟨wr.heap.size,1,none⟩=some (.slice (some ⟨zb c s,0,none⟩) K K):=(MO _ _ _ 1 rfl).trans rfl;have Z:=fV (HC.o.below C.o lR);have l1:=Z.o.lc c s g F D hg;have l2:=Z.o.lc c s h F D hh;have bK:=fV (@GD ns nx n g h c s F D);have bO:QP (nx c s g=nx c s h->∀J,J<s+1->nx c J g=nx c J h):=λ e J cP=>by
      by_cases q:J=s
      ·rw[q];exact e
      ·exact aO.o J (by omega)
     have eT:=iI s N (by omega)
     have bT:=dT s N (by omega)
     generalize nx c s g=x1 at*;generalize nx c s h=x2 at*;generalize tk c s=aT at*;generalize zb c s=zbs at*;clear Y Z D;go_upto_region 7 with(first|(refine QQ rfl 121 (.tmp 21) rfl (yb c) (s*2) rfl [.int .i64 (aT:Int),.slice (some ⟨zbs,0,none⟩) K K] _ bN.o underlying121 rfl dH ?_))
     generalize wr.alloc (.cells #[.int .i64 (aT:Int),.slice (some ⟨zbs,0,none⟩) K K] 121)=A at*;by_cases I:x1=x2
     ·have cF:(x1 !=x2)=false:=by rw[I];simp
      have aW:=fV (bO.o I);clear I;go_quiet (fail);go_wp2;go_roundw
      case rel=>exact⟨s+1,by go_num,hs,aW.o,⟨C.o.os,C.o.tape,C.o.output,C.o.size,C.o.block⟩⟩
      case measure=>simp[intOf];omega
     ·have cF:(x1 !=x2)=true:=by rw[aD];exact I
      have HE:=fV (bK.o I);clear I;go_quiet (fail);go_wp2;go_ret;exact⟨by rw[HE.o];rfl,⟨C.o.os,C.o.tape,C.o.output,C.o.size,C.o.block⟩⟩
    ·have bT:=dF s N (by omega)
     have bC:QP (∀Q,Q<c+1->∀s,s<ns Q->nx Q s g=nx Q s h):=λ Q eM J D=>by
      by_cases q:Q=c
      ·rw[q]at D ⊢;exact aO.o J (by rw[hN.o]at D;omega)
      ·exact HA.o Q (by omega) J D
     go_wp2;go_roundw
     case rel=>exact⟨c+1,by go_num,F,bC.o,X.o⟩
     case measure=>simp[intOf];omega
  ·have e:c=n:=by omega
   subst e;have HE:=fV (Dy HA.o);have bS:=dF c c (by omega)
   go_wp2;go_ret;exact⟨by rw[HE.o];rfl,HB.o⟩
theorem CV(cg n K aJ:Nat)(yb:Nat->Nat)(zb:Nat->Nat->Nat)(ns:Nat->Nat)(tk:Nat->Nat->Nat)(nx:Nat->Nat->Nat->Int)(w:tW)(hn:n<=1000)(hL:∀c,c<n->ns c<=1000)(hK:K<=300)(hC:CM w w.heap.size cg n K yb zb ns tk nx):
  QY LZ 41 #[.int .i64 K,.slice (some ⟨cg,0,none⟩) n aJ] w λ e w'=>Sw w (mU K (mJ ns nx n)).1 (mU K (mJ ns nx n)).2 e w':=by
 obtain⟨i0,hI,hP,bK,hQ⟩:=QT bU;have HI:QP (Tryz.prog.info? 3=some i0/\i0.zero=some (.int .i64 0)/\i0.size=1/\i0.bytes=8):=⟨hI,hP,bK,hQ⟩
 clear hI hP bK hQ;have HC:=fV hC;have hU:=fV hL;clear hC hL;go_enter func41,ntmps41;go_wp2_with (first|(at_make;refine QV w rfl _ _ 59 rfl w.heap.size 3 i0 (.int .i64 0) 1 NK HI.o.1 HI.o.2.1 HI.o.2.2.1 .i64 .i64 _ K rfl rfl rfl (by rw[HI.o.2.2.2];omega) (by unfold QX;omega) lR ?_;intro w1 U aL));obtain⟨Q,EQ⟩:=xE (mJ ns nx n)
 replace EQ:=fV EQ;have eM:QP (Bl w w1):=⟨aL.os,aL.tape,aL.output,aL.size,λ k hk=>aL.block k hk (by simp)⟩
 have bK:w.heap.size<w1.heap.size:=by have:=(U.lt w.heap.size rfl).2;omega
 have gL:=fV (U.alloc (.cells #[] 3));have eN:=fV (eM.o.alloc (MV bK) (.cells #[] 3));have eS:QP ((w1.alloc (.cells #[] 3)).ownsRow (w.heap.size+1) 3 1 (.slice (some ⟨w1.heap.size,0,none⟩) 0 0) 0 []):=I0 (K7 w1 3) bK;clear U aL eM;generalize w1.alloc (.cells #[] 3)=w2 at*;generalize w1.heap.size=g20 at*
 go_loopg [6,7,8] K (λ gk fv sv iv wr=>∃(aK aN:List Nat)(s g2 c2:Nat),fv=.slice (some ⟨w.heap.size,0,none⟩) aK.length K/\sv=.slice (some ⟨g2,0,none⟩) aN.length c2/\iv=.int .i64 (s:Int)/\s+gk=K/\aK.length=s/\aN.length<=s/\
  (∀x∈aN,x<s)/\mU K Q=uV Q gk s aK aN/\wr.ownsRow w.heap.size 3 1 (.slice (some ⟨w.heap.size,0,none⟩) aK.length K) aK.length (oY aK)/\
  wr.ownsRow (w.heap.size+1) 3 1 (.slice (some ⟨g2,0,none⟩) aN.length c2) aN.length (oY aN)/\Bl w wr)
 case atStart=>exact⟨[],[],0,g20,0,rfl,rfl,rfl,by omega,rfl,by simp,λ x hx=>absurd hx (LY),rfl,gL.o,eS.o,eN.o⟩
 case round=>
  obtain⟨aK,aN,s,g2,c2,rfl,rfl,rfl,qL,hF,hW,hJ,hD,hM,hN,hb⟩:=hrel;have HQ:=fV hD;have X:=fV hM;have F:=fV hN;have HB:=fV hb;have cN:=fV hJ;have bM:=fV hF;clear hD hM hN hb hJ hF gL eS eN;have bO:w.heap.size<wr.heap.size:=(X.o.lt _ rfl).2;by_cases hY:s<K
  ·obtain⟨d,rfl⟩:∃d,gk=d+1:=⟨gk-1,by omega⟩
   have hV:=dT s K (by omega)
   have eX:=fV (M3.of_row F.o);have hH:=(F.o.lt g2 rfl).2;go_upto_block 2 with fail
   go_cut [9] from 13 to 45 (λ fv wc=>fv=.int .i64 ((gW Q aN s aN.length:Nat):Int)/\Bl wr wc)
   case first=>
    go_wp2_with fail
    go_loopg [9] aN.length (λ gj fv wj=>∃(f:Nat),fv=.int .i64 (f:Int)/\f+gj=aN.length/\Bl wr wj/\gW Q aN s aN.length=gW Q aN s gj)
    case atStart=>exact⟨0,rfl,by omega,bR,rfl⟩
    case round=>
     obtain⟨f,rfl,hX,cP,hG⟩:=hrel;have cF:=fV hG;have aO:=fV cP;have hS:=cP.size;clear hG cP;by_cases hE:f<aN.length
     ·obtain⟨j,rfl⟩:∃j,gk=j+1:=⟨gk-1,by omega⟩
      have c1:=(eX.o.below aO.o hH) f hE;have qR:=E8 cN.o hE;have HL:QP (iV aN f=((aN.getD f 0:Nat):Int)):=rfl;rw[HL.o]at c1;have C:= @A8 Q aN s f j hX;have eO:QP (Bl w wr):=HB.o.trans (pV aO.o (MV bO));generalize aN.getD f 0=x at*;have aW:=Za cg n K aJ yb zb ns tk nx x s wr hn hU.o (by omega) hY ((HC.o.below eO.o lR).raise eO.o.size);rw[EQ.o]at aW;have eL:decide ((f:Int)<(aN.length:Int))=true:=by simp;omega
      have nL:(0:Int)<=(f:Int)/\(f:Int)<(aN.length:Int):=by omega
      cases hq:Q x s with
      | true=>
       rw[hq]at aW C;rw[aB rfl]at C;have Y:QP (gW Q aN s aN.length=f):=cF.o.trans C;clear C hq;go_wp2_with fail;refine aW.mono ?_;rintro e w3 ⟨rfl,aR⟩;have bT:=fV aR;clear aR;go_wp2;go_meet
       case rel=>exact⟨by rw[Y.o],aO.o.trans (pV bT.o hS)⟩
      | false=>
       rw[hq]at aW C;rw[aA (by decide)]at C;have Y:QP (gW Q aN s aN.length=gW Q aN s j):=cF.o.trans C;clear C hq;go_wp2_with fail;refine aW.mono ?_;rintro e w3 ⟨rfl,aR⟩;have bT:=fV aR;clear aR;go_wp2;go_roundg j
       case measure=>omega
       case rel=>exact⟨f+1,by go_num,by omega,aO.o.trans (pV bT.o hS),Y.o⟩
     ·have e:gk=0:=by omega
      subst e;have eL:decide ((f:Int)<(aN.length:Int))=false:=by simp;omega
      have Y:QP (gW Q aN s aN.length=f):=cF.o.trans (by rw[gW];omega);go_wp2;go_meet
      case rel=>exact⟨by rw[Y.o],aO.o⟩
   case rest=>
    obtain⟨rfl,aT⟩:=hcut;have bS:QP (wc.ownsRow w.heap.size 3 1 (.slice (some ⟨w.heap.size,0,none⟩) aK.length K) aK.length (oY aK)):=rF X.o aT lR;have J:QP (wc.ownsRow (w.heap.size+1) 3 1 (.slice (some ⟨g2,0,none⟩) aN.length c2) aN.length (oY aN)):=rF F.o aT lR;have eR:QP (Bl w wc):=HB.o.trans (pV aT (MV bO));have bN:w.heap.size<wc.heap.size:=LP bO aT.size;have C:uV Q (d+1) s aK aN=if gW Q aN s aN.length=aN.length then uV Q d (s+1) (aK++[aN.length]) (aN++[s])else uV Q d (s+1) (aK++[gW Q aN s aN.length]) aN:=rfl;have iN:=tN Q aN s aN.length;clear X F HB eX aT;generalize wc=wq at*;generalize gW Q aN s aN.length=fp at*;by_cases Z:fp=aN.length
    ·rw[aB Z]at C;have eL:((fp:Int)==(aN.length:Int))=true:=by rw[Z];simp
     have nN:=(J.o.lt g2 rfl).1;have Y:QP (mU K Q=uV Q d (s+1) (aK++[fp]) (aN++[s])):=by unfold QP;rw[Z];exact HQ.o.trans C
     clear C Z;go_wp2_with (first|(at_builtin;refine gB wq rfl (.tmp 38) (.tmp 40) 59 rfl (w.heap.size+1) 3 (.int .i64 0) 1 8 NK bU rfl (by decide) (by decide) (.slice (some ⟨g2,0,none⟩) aN.length c2) aN.length (oY aN) [.int .i64 (s:Int)] _ rfl J.o _ rfl rfl rfl (by simp[LM]) (by omega) (by omega) ?_;intro g4 cap4 w4 bC I hB lH;have eT:=fV ((bS.o.alloc _).kept I (.inr (λ e=>absurd (show w.heap.size=g2 by simpa[MG]using e) (by omega))));have hT:QP (Bl w w4):=(eR.o.alloc (MV bN) _).grown I (NO (MV bN) (by simp)) (λ k hk=>NO (PO _) (J.o.lt k hk).1);have hA:=fV bC;clear bC I hB)|(at_builtin;refine lD w4 rfl (.tmp 42) (.tmp 44) 59 rfl w.heap.size 3 (.int .i64 0) 1 8 NK bU w.heap.size aK.length K (oY aK) [.int .i64 (fp:Int)] _ rfl eT.o _ rfl rfl rfl (by simp[LM]) (by have:=bM.o;omega) ?_;intro w6 V D));go_roundg d
     case measure=>omega
     case rel=>
      have hR:=(eT.o.lt _ rfl).2;refine⟨aK++[fp],aN++[s],s+1,g4,cap4,by simp,by simp,by go_num,by omega,by have:=bM.o;simp;omega,by simp;omega,λ x hx=>?_,Y.o,by rw[sC,LK];exact V,?_,?_⟩
      ·rcases LO.1 hx with h|h
       ·have:=cN.o x h;omega
       ·rw[LI]at h;omega
      ·rw[sC,LK];exact(hA.o.alloc _).kept D (.inr (by have:=(hA.o.lt g4 rfl).1;simp[MG];omega))
      ·exact(hT.o.alloc (MV hR) _).grown D (NO (MV hR) (by simp)) (λ k hk=>by injection hk;omega)
    ·rw[aA Z]at C;have Y:QP (mU K Q=uV Q d (s+1) (aK++[fp]) aN):=HQ.o.trans C;have eL:((fp:Int)==(aN.length:Int))=false:=by rw[aC];omega
     clear C Z;go_wp2_with (first|(at_builtin;refine lD wq rfl (.tmp 42) (.tmp 44) 59 rfl w.heap.size 3 (.int .i64 0) 1 8 NK bU w.heap.size aK.length K (oY aK) [.int .i64 (fp:Int)] _ rfl bS.o _ rfl rfl rfl (by simp[LM]) (by have:=bM.o;omega) ?_;intro w6 V D));go_roundg d
     case measure=>omega
     case rel=>
      refine⟨aK++[fp],aN,s+1,g2,c2,by simp,rfl,by go_num,by omega,by have:=bM.o;simp;omega,by omega,λ x hx=>by have:=cN.o x hx;omega,Y.o,by rw[sC,LK];exact V,?_,?_⟩
      ·exact(J.o.alloc _).kept D (.inr (by have:=(J.o.lt g2 rfl).1;simp[MG];omega))
      ·exact(eR.o.alloc (MV bN) _).grown D (NO (MV bN) (by simp)) (λ k hk=>by injection hk;omega)
  ·have e:gk=0:=by omega
   subst e;have hV:=dF s K (by omega)
   have Y:QP (mU K Q=(aK,aN)):=HQ.o;go_wp2;go_ret2;refine⟨w.heap.size,K,g2,c2,?_,?_,?_,?_,?_,lR,?_,HB.o⟩
   ·rw[EQ.o,Y.o];rfl
   ·rw[EQ.o,Y.o];exact M3.of_row X.o
   ·rw[EQ.o,Y.o];exact M3.of_row F.o
   ·exact bO
   ·exact(F.o.lt _ rfl).2
   ·have:=(F.o.lt g2 rfl).1;omega
theorem Yz(x:Int)(w:tW)(D:x= -1\/(0<=x/\x<=255)):
  QY LZ 42 #[.int .i64 x] w λ e w'=>e=.returned (.int .u8 ((H7 x:Nat):Int))/\w'=w:=by
 go_enter func42,ntmps42;rcases D with rfl|⟨F,I⟩
 ·go_wp2;go_ret;exact⟨rfl,rfl⟩
 ·have J:(x== -1)=false:=by rw[aC];omega
  have C:QP (((H7 x:Nat):Int)=x):=by unfold QP H7;rw[aA (by omega)];omega
  go_wp2;go_ret;exact⟨by rw[C.o];simp;try omega,rfl⟩
section
structure WI(w2 w:tW)(g aJ:Nat)(aS:List UInt8):Prop where
 bl:Bl w2 w
 rw:w.ownsRow w2.heap.size 5 1 (.slice (some ⟨g,0,none⟩) aS.length aJ) aS.length (oE aS)
variable {w2 w w4:tW}{g aJ g4 cap4:Nat}{aS:List UInt8}
theorem WI.alloc(h:WI w2 w g aJ aS)(o:Obj):WI w2 (w.alloc o) g aJ aS:=⟨h.bl.alloc h.bl.size o,h.rw.alloc o⟩
theorem WI.below{w':tW}(h:WI w2 w g aJ aS)(o:Bl w w'):WI w2 w' g aJ aS:=⟨h.bl.trans (pV o h.bl.size),rF h.rw o lR⟩
theorem WI.grow(h:WI w2 w g aJ aS){o:Obj}(C:(w.alloc o).grownBy w4 (some g)):Bl w2 w4:=
 (h.bl.alloc h.bl.size _).grown C (NO h.bl.size (by simp)) (λ k D=>by injection D with e;have:=(h.rw.lt g rfl).1;omega)
theorem WI.app(h:WI w2 w g aJ aS){o:Obj}{n:Nat}(hn:n<256)(D:w4.ownsRow w2.heap.size 5 1 (.slice (some ⟨g4,0,none⟩) (aS.length+1) cap4) (aS.length+1) (oE aS++[.int .u8 (n:Int)]))(C:(w.alloc o).grownBy w4 (some g)):
  WI w2 w4 g4 cap4 (aS++[LG n]):=⟨h.grow C,by rw[<-Ow aS hn,LK];exact D⟩
theorem WI.app2(h:WI w2 w g aJ aS){o:Obj}{n m:Nat}(hn:n<256)(F:m<256)(D:w4.ownsRow w2.heap.size 5 1 (.slice (some ⟨g4,0,none⟩) (aS.length+2) cap4) (aS.length+2) (oE aS++[.int .u8 (n:Int),.int .u8 (m:Int)]))(C:(w.alloc o).grownBy w4 (some g)):
  WI w2 w4 g4 cap4 (aS++[LG n,LG m]):=⟨h.grow C,by rw[<-Ku aS hn F,LK];exact D⟩
theorem WI.new(w1:tW){m:Nat}(o:m<256):WI w1 (w1.alloc (.cells #[.int .u8 83,.int .u8 84,.int .u8 1,.int .u8 (m:Int)] 5)) w1.heap.size 4 [LG 83,LG 84,LG 1,LG m]:=
 ⟨bR.alloc lR _,rfl,.inr ⟨w1.heap.size,4, #[.int .u8 83,.int .u8 84,.int .u8 1,.int .u8 (m:Int)],rfl,lR,heap_alloc_new w1 _,lR,by unfold QX;omega,rfl,by
   unfold oE;simp only[OM,PF];rw[M8 o]
   rfl⟩⟩
theorem WI.text(h:WI w2 w g aJ aS):(convert 116 9 (.slice (some ⟨g,0,none⟩) aS.length aJ)).run LZ w=.ok (.string ⟨aS.toArray⟩) w:=
 run_convert_bytes_back w 116 9 5 ⟨g,0,none⟩ aJ aS MZ underlying5 underlying9 (λ j o=>h.rw.cells rfl j _ (by unfold oE;rw[MB,LF o];rfl))
end
theorem eD(w:tW):(sizeOf 3).run LZ w=.ok 1 w:=by kernel_rfl
theorem eV(w:tW):(isAgg 3).run LZ w=.ok false w:=by kernel_rfl
theorem eY(A:Array tV)(v:tV)(j:Nat)(D:j<256)(C:A[j]?=some v)(w:tW):(Instr.index 47 (.agg A) (.int .i64 (j:Int))).run LZ w=.ok v w:=by
 have o:(0:Int)<=(j:Int)/\(j:Int)<((256:Nat):Int):=by omega
 unfold Instr.index part;simp only[asIntOf,Sem.run_bind,Sem.run_pure,Result.andThen_ok,run_underlying underlying47,aB o,eD,eV];simp[C,Sem.run_pure]
theorem fN{o:Oper}{w:tW}{Q:Exit->Act->tW->Prop}(hg:o.guard=none)(x y:Operand)(I:o.op=.index 47 x y)(A:Array tV)(v:tV)(j:Nat)(F:j<256)(D:A[j]?=some v)
  (U:a.eval x=.agg A) (V:a.eval y=.int .i64 (j:Int)) (h:wpList LZ ops Q rest (a.put o.dst v) w):wpList LZ ops Q (o::rest) a w:=by
 refine QW hg λ K C=>?_
 have J:=eY A v j F D w;unfold Oper.wp execOp;simp only[I,U,V,Sem.run_bind,J,Result.andThen_ok];exact C _ _ h
theorem dS{o:Oper}{w2 w:tW}{aS:List UInt8}{Q:Exit->Act->tW->Prop}(hg:o.guard=none)(x:Operand)(D:o.op=.convert 116 9 x)
  (I:WI w2 w g aJ aS) (J:a.eval x=.slice (some ⟨g,0,none⟩) aS.length aJ) (h:wpList LZ ops Q rest (a.put o.dst (.string ⟨aS.toArray⟩)) w):wpList LZ ops Q (o::rest) a w:=by
 refine QW hg λ K C=>?_
 have F:=I.text;unfold Oper.wp execOp;simp only[D,J,Sem.run_bind,F,Result.andThen_ok];exact C _ _ h
theorem fS:(Tryz.prog.info? 47).map (·.size)=some 256:=by kernel_rfl
theorem Sr(aX:List ((Nat->Bool)×Int×Int))(rg aT cg n K aJ pg hF:Nat)(vn vp:tV)(GA OA:Array tV)(bG:Nat->Nat)(yb:Nat->Nat)(zb:Nat->Nat->Nat)(ns:Nat->Nat)(tk:Nat->Nat->Nat)(nx:Nat->Nat->Nat->Int)(w:tW)
  (d5:aX.length<=255) (hR:uC w rg aX) (d4:rg<w.heap.size) (P0:∀x∈aX,0<=x.2.1/\x.2.1<=255)
  (hn:n<=255) (rT:∀c,c<n->ns c<=255) (a8:0<K) (hK:K<=256) (hC:CM w w.heap.size cg n K yb zb ns tk nx) (T2:∀c s,c<n->s<ns c->tk c s<=255) (S2:∀c s k,c<n->s<ns c->k<K->nx c s k= -1\/(0<=nx c s k/\nx c s k<=255))
  (hM:OA.size=256) (O8:∀b,b<256->OA[b]?=some (.int .i64 (bG b:Int))) (O9:∀b,b<256->bG b<K)
  (hG:GA.toList=OA.toList++[.slice (some ⟨pg,0,none⟩) K hF]):
  QY LZ 19 #[.agg #[.slice (some ⟨rg,0,none⟩) aX.length aT,vn,vp],.agg GA,.slice (some ⟨cg,0,none⟩) n aJ] w λ e w'=>e=.returned (.string ⟨(Jx aX n K bG ns tk nx).toArray⟩)/\Below w.heap.size w w':=by
 obtain⟨W0,aW⟩:=xE ((w.alloc (.cells #[.slice (some ⟨rg,0,none⟩) aX.length aT,vn,vp] 44)).alloc (.cells GA 50))
 have h8:W0.heap.size=w.heap.size+1+1:=by rw[<-aW];simp
 have eL:QP (Below w.heap.size w W0):=by unfold QP;rw[<-aW];exact(bR.alloc lR _).alloc (by simp) _
 have B2:QP (W0.rangeAt w.heap.size 0 [.slice (some ⟨rg,0,none⟩) aX.length aT,vn,vp]):=by
  unfold QP;rw[<-aW];exact fY (mE w #[.slice (some ⟨rg,0,none⟩) aX.length aT,vn,vp] 44) (MD _ _ _ (by simp))
 have iN:QP (W0.rangeAt (w.heap.size+1) 0 GA.toList):=by
  unfold QP;rw[<-aW];have:=mE (w.alloc (.cells #[.slice (some ⟨rg,0,none⟩) aX.length aT,vn,vp] 44)) GA 50;have e:(w.alloc (.cells #[.slice (some ⟨rg,0,none⟩) aX.length aT,vn,vp] 44)).heap.size=w.heap.size+1:=by simp
  rw[e]at this;exact this
 have H5:QP (W0.rangeAt (w.heap.size+1) 0 OA.toList):=λ i v hv=>iN.o i v (by rw[hG,LR (LH.1 hv).1];exact hv)
 have cP:W0.cell? ⟨w.heap.size+1,256,none⟩=some (.slice (some ⟨pg,0,none⟩) K hF):=by
  have:=iN.o 256 (.slice (some ⟨pg,0,none⟩) K hF) (by rw[hG,LU (by simp[hM])];simp[hM])
  rwa [LS]at this
 have hQ:=CV cg n K aJ yb zb ns tk nx W0 (by omega) (λ c hc=>by have:=rT c hc;omega) (by omega) ((hC.below eL.o lR).raise (by omega));obtain⟨f1,f2,f3,f4,f5⟩:=J1 (mJ ns nx n) K;have b6:=f5 a8;have HL:QP (Jx aX n K bG ns tk nx=sZ aX++oS aX.length (λ k=>[LG (tG aX k)])
  ++[LG n,LG ((mU K (mJ ns nx n)).2.length-1)]++oS 256 (λ b=>[LG ((mU K (mJ ns nx n)).1.getD (bG b) 0)])
  ++oS n (λ c=>[LG (ns c)]++oS (ns c) (S8 tk nx (mU K (mJ ns nx n)).2 c))):=rfl
 generalize Jx aX n K bG ns tk nx=R at*;generalize (mU K (mJ ns nx n)).1=co at*;generalize (mU K (mJ ns nx n)).2=fi at*;have tT:=fV (hC.below eL.o lR);have L1:=fV (hR.below eL.o d4);have W3:=fV P0;have X1:=fV rT;have a2:=fV T2;have X2:=fV S2;have Ha:=fV O8;have Hb:=fV O9;have Pl:=fV hM;have E6:=fV f1;have W6:=fV f3;have H0:=fV f4;clear hC hR P0 rT T2 S2 O8 O9 hM f1 f3 f4 f5 hG iN;replace aW:=fV aW;have cF:=B2.o 0 _ rfl;rw[LS]at cF;obtain⟨m,hm⟩:=xE (aX.length)
 rw[hm]at d5 aW cF HL ⊢;replace hm:=fV hm;clear B2;go_enter func19,ntmps19;go_upto_region 1 with(first
  | (refine wpList_boxTo rfl 50 (.tmp 1) rfl _ rfl (w.heap.size+1) (by simp) GA rfl ?_))
 rw[aW.o];go_wp2_with fail;refine hQ.mono ?_;rintro e w1 ⟨g1,c1,g2,c2,rfl,rL,rO,c3,c5,h3,h4,bC⟩;obtain⟨FL,eS⟩:=xE (fi.length)
 rw[E6.o]at rL ⊢;rw[eS]at rO f2 b6 H0 HL ⊢;replace eS:=fV eS;have W9:=fV rL;have X0:=fV rO;have a6:=(bC.cell (p:=⟨w.heap.size,0,none⟩) (by show w.heap.size<W0.heap.size;omega)).trans cF;have X4:=fV (nB H5.o bC (by omega));have hH:=fV (tT.o.below bC (by omega));have a0:=fV (L1.o.below bC (by omega));have W2:=fV (eL.o.trans (bC.mono (by omega)));have h9:=bC.size;clear rL rO bC cF cP H5 tT L1 eL hQ aW;go_upto_region 3 with fail;have hV:QP (WI w1 (w1.alloc (.cells #[.int .u8 83,.int .u8 84,.int .u8 1,.int .u8 (m:Int)] 5)) w1.heap.size 4 (sZ aX)):=by
  unfold QP sZ;rw[hm.o];exact WI.new w1 (by omega)
 have bN:(sZ aX).length=4:=rfl;have f9:=(hV.o.bl.cell (p:=⟨w.heap.size,0,none⟩) (by show w.heap.size<w1.heap.size;omega)).trans a6;generalize w1.alloc (.cells #[.int .u8 83,.int .u8 84,.int .u8 1,.int .u8 (m:Int)] 5)=w3 at*;generalize sZ aX=A0 at*;replace bN:=fV bN;go_wp2_with fail
 go_loopg [9,37] m (λ gk iv kv wr=>∃(k g aJ:Nat)(aS:List UInt8),iv=.slice (some ⟨g,0,none⟩) aS.length aJ/\kv=.int .i64 (k:Int)/\k+gk=m/\aS.length=4+k/\aS=A0++oS k (λ k=>[LG (tG aX k)])/\WI w1 wr g aJ aS)
 case atStart=>exact⟨0,w1.heap.size,4,A0,by rw[bN.o],rfl,by omega,bN.o,(MT _).symm,hV.o⟩
 case round=>
  obtain⟨k,g,C,aS,rfl,rfl,h2,hP,J,D⟩:=hrel;have cN:=fV hP;have F:=fV J;have Y:=fV D;have hE:=D.bl.size;clear hP J D hV;by_cases d3:k<m
  ·obtain⟨d,rfl⟩:∃d,gk=d+1:=⟨gk-1,by omega⟩
   have qR:k<aX.length:=by rw[hm.o];exact d3
   have hx:aX[k]?=some (aX[k]):=LF qR;have eM:=fV ((a0.o.below Y.o.bl (by omega)) k _ hx);have e0:=W3.o _ (MA qR);have tL:QP (tG aX k=aX[k].2.1.toNat):=by unfold QP tG;rw[LD,MB,hx];rfl
   generalize aX[k]=x at*;obtain⟨f,be,ro⟩:=x;simp only at e0;obtain⟨bn,rfl⟩:∃bn:Nat,be=(bn:Int):=⟨be.toNat,by omega⟩
   have tO:QP (tG aX k=bn):=tL.o.trans (by simp);clear tL;have hS:QP (xS ((wr.alloc (.cells #[.bool false,.bool false,.bool false,.bool false,.int .i64 0,.int .i64 0] 119)).setCells wr.heap.size 0 (nH (f,(bn:Int),ro))) wr.heap.size (f,(bn:Int),ro)):=
    xS.mk' (LN _ _ _ _ (pA wr [.bool false,.bool false,.bool false,.bool false,.int .i64 0,.int .i64 0] 119 6 rfl))
   have nN:QP (WI w1 ((wr.alloc (.cells #[.bool false,.bool false,.bool false,.bool false,.int .i64 0,.int .i64 0] 119)).setCells wr.heap.size 0 (nH (f,(bn:Int),ro))) g C aS):=Y.o.below (fX _ 0 _ wr.heap.size (bR.alloc lR _) lR);have O0:=fV (pA wr [.bool false,.bool false,.bool false,.bool false,.int .i64 0,.int .i64 0] 119 6 rfl);have b1:=dT k m (by omega)
   have h1:=iI k m (by omega)
   clear hx qR;go_upto_region 6 with(first
    | (refine QQ rfl 119 (.tmp 39) rfl rg (k*6) rfl (nH (f,(bn:Int),ro)) _ eM.o NY rfl cB ?_)
    | (refine QR rfl 119 (.tmp 11) (.tmp 40) rfl wr.heap.size 0 (nH (f,(bn:Int),ro)).toArray rfl rfl ?_ ?_ ?_ ?_;exact O0.o;exact cB;(simp[nH,LM])))
   generalize (wr.alloc (.cells #[.bool false,.bool false,.bool false,.bool false,.int .i64 0,.int .i64 0] 119)).setCells wr.heap.size 0 (nH (f,(bn:Int),ro))=w5 at*;have c4:=hS.o.c4;simp only at c4;have i1:=nN.o.bl.size;have b0:bn<256:=by omega
   clear hS O0 eM Y;go_wp2_with (first|(at_builtin;refine gB w5 rfl (.tmp 41) (.tmp 45) 116 rfl w1.heap.size 5 (.int .u8 0) 1 1 MZ bV rfl (by decide) (by decide) (.slice (some ⟨g,0,none⟩) aS.length C) aS.length (oE aS) [.int .u8 (bn:Int)] _ rfl nN.o.rw _ rfl rfl rfl (by simp[LM]) (by have:=cN.o;omega) (by omega) ?_;intro g4 cap4 w4 aO Q eT hA;have eN:=fV (nN.o.app b0 aO Q);clear aO Q eT));go_roundg d
   case measure=>omega
   case rel=>exact⟨k+1,g4,cap4,aS++[LG bn],by simp,by go_num,by omega,by rw[LK,cN.o];rfl,by rw[nW,<-LQ,<-F.o,tO.o],eN.o⟩
  ·have e:gk=0:=by omega
   subst e;have e:k=m:=by omega
   subst e;have b1:=dF k k (by omega)
   obtain⟨L,rfl⟩:∃L,FL=L+1:=⟨FL-1,by omega⟩
   have h7:((L+1:Nat):Int)-1=(L:Int):=by omega
   have H2:QP (R=aS++[LG n,LG L]++oS 256 (λ b=>[LG (co.getD (bG b) 0)])++oS n (λ c=>[LG (ns c)]++oS (ns c) (S8 tk nx fi c))):=by
    unfold QP;rw[HL.o,F.o];rfl
   clear F HL;go_upto_region 9 with(first|(at_builtin;refine Ao wr rfl (.tmp 48) (.tmp 56) 116 rfl w1.heap.size 5 (.int .u8 0) 1 1 MZ bV rfl (by decide) (by decide) (.slice (some ⟨g,0,none⟩) aS.length C) aS.length (oE aS) [.int .u8 (n:Int),.int .u8 (L:Int)] _ rfl Y.o.rw _ rfl rfl rfl (by simp[LM]) (by have:=cN.o;omega) (by omega) ?_;intro g4 cap4 w4 aO Q eT hA;have eN:=fV (Y.o.app2 (show n<256 by omega) (show L<256 by omega) aO Q);clear aO Q eT))
   have H6:=fV (nB X4.o eN.o.bl (by omega));have W1:QP (OA.toList.toArray=OA):=by unfold QP;simp
   have hW:QP ((aS++[LG n,LG L]).length=aS.length+2):=by unfold QP;simp
   have a7:(aS++[LG n,LG L]).length<=300:=by rw[hW.o,cN.o];omega
   rw[<-hW.o];generalize aS++[LG n,LG L]=A1 at*;clear Y cN hW;go_wp2_with (first|(refine QQ rfl 47 (.tmp 58) rfl (w.heap.size+1) 0 rfl OA.toList _ H6.o underlying47 rfl ?_ ?_;(rw[MS,Pl.o];exact fS);rw[W1.o]))
   go_loopg [9,60] 256 (λ gk iv kv wr=>∃(b g aJ:Nat)(aS:List UInt8),iv=.slice (some ⟨g,0,none⟩) aS.length aJ/\kv=.int .i64 (b:Int)/\b+gk=256/\aS.length<=300+b/\aS=A1++oS b (λ b=>[LG (co.getD (bG b) 0)])/\WI w1 wr g aJ aS)
   case atStart=>exact⟨0,g4,cap4,A1,rfl,rfl,by omega,a7,(MT _).symm,eN.o⟩
   case round=>
    obtain⟨b,g,C,aS,rfl,rfl,e3,hP,J,D⟩:=hrel;have F:=fV J;have Y:=fV D;have hE:=D.bl.size;clear J D eN H6;by_cases gL:b<256
    ·obtain⟨d,rfl⟩:∃d,gk=d+1:=⟨gk-1,by omega⟩
     have Go:=fV (Ha.o b gL);have S5:=Hb.o b gL;have c9:=(W9.o.below Y.o.bl c3) (bG b) S5;have HV:QP (iV co (bG b)=((co.getD (bG b) 0:Nat):Int)):=rfl;rw[HV.o]at c9;have hv:co.getD (bG b) 0<256:=by
      have:=E8 H0.o (show bG b<co.length by rw[E6.o];exact S5);omega
     have f0:(0:Int)<=(bG b:Int)/\(bG b:Int)<(K:Int):=by omega
     have f8:QP ((λ b=>[LG (co.getD (bG b) 0)]) b=[LG (co.getD (bG b) 0)]):=rfl;have nL:QP (A1++oS (b+1) (λ b=>[LG (co.getD (bG b) 0)])=aS++[LG (co.getD (bG b) 0)]):=by
      unfold QP;rw[nW,<-LQ,<-F.o]
     have g7:decide ((b:Int)<256)=true:=by simp;omega
     generalize co.getD (bG b) 0=v at*;generalize bG b=ob at*;go_wp2_with (first|(refine fN rfl (.tmp 59) (.tmp 60) rfl OA (.int .i64 (ob:Int)) b gL Go.o rfl rfl ?_)|(at_builtin;refine gB wr rfl (.tmp 63) (.tmp 69) 116 rfl w1.heap.size 5 (.int .u8 0) 1 1 MZ bV rfl (by decide) (by decide) (.slice (some ⟨g,0,none⟩) aS.length C) aS.length (oE aS) [.int .u8 (v:Int)] _ rfl Y.o.rw _ rfl rfl rfl (by simp[LM]) (by omega) (by omega) ?_;intro g5 eO w5 aR U eX bM;have hI:=fV (Y.o.app hv aR U);clear aR U eX));go_roundg d
     case measure=>omega
     case rel=>exact⟨b+1,g5,eO,aS++[LG v],by simp,by go_num,by omega,by simp;omega,nL.o.symm,hI.o⟩
    ·have e:gk=0:=by omega
     subst e;have e:b=256:=by omega
     subst e;have H3:QP (R=aS++oS n (λ c=>[LG (ns c)]++oS (ns c) (S8 tk nx fi c))):=by unfold QP;rw[F.o];exact H2.o
     clear H2 F;go_wp2_with fail;obtain⟨CB,qL⟩:∃f:Nat->List UInt8,(λ c=>[LG (ns c)]++oS (ns c) (S8 tk nx fi c))=f:=⟨_,rfl⟩
     have W4:QP (∀c,CB c=[LG (ns c)]++oS (ns c) (S8 tk nx fi c)):=λ c=>by rw[<-qL]
     rw[qL]at H3;clear qL;generalize aS=A2 at*
     go_loopg [9,74] n (λ gk iv kv wr=>∃(c g aJ:Nat)(aS:List UInt8),iv=.slice (some ⟨g,0,none⟩) aS.length aJ/\kv=.int .i64 (c:Int)/\c+gk=n/\aS.length<=1000+c*100000/\aS=A2++oS c CB/\WI w1 wr g aJ aS)
     case atStart=>exact⟨0,g,C,A2,rfl,rfl,by omega,by omega,(MT _).symm,Y.o⟩
     case round=>
      obtain⟨c,g,C,aS,rfl,rfl,e4,hP,J,D⟩:=hrel;have F:=fV J;have I:=fV D;have hE:=D.bl.size;clear J D Y;by_cases V:c<n
      ·obtain⟨d,rfl⟩:∃d,gk=d+1:=⟨gk-1,by omega⟩
       have c9:=(hH.o.below I.o.bl (by omega)).cc c V;have a9:=X1.o c V;have eR:=W4.o c;have N1:QP (∀s,s<ns c->tk c s<=255):=λ s hs=>a2.o c s V hs
       obtain⟨N,hN⟩:=xE (ns c)
       rw[hN]at c9 a9 eR;replace hN:=fV hN;have nL:QP (∀X,aS++[LG N]++oS N (S8 tk nx fi c)=X->X=A2++oS (c+1) CB):=λ X hX=>by
        rw[<-hX,nW,<-LQ,<-F.o,eR,LQ]
       have b3:=dT c n (by omega)
       have g3:=iI c n (by omega)
       clear eR F;go_upto_region 18 with(first|(at_builtin;refine gB wr rfl (.tmp 78) (.tmp 82) 116 rfl w1.heap.size 5 (.int .u8 0) 1 1 MZ bV rfl (by decide) (by decide) (.slice (some ⟨g,0,none⟩) aS.length C) aS.length (oE aS) [.int .u8 (N:Int)] _ rfl I.o.rw _ rfl rfl rfl (by simp[LM]) (by omega) (by omega) ?_;intro g5 eO w5 aR U eX bM;have hI:=fV (I.o.app (show N<256 by omega) aR U);clear aR U eX))
       have bS:QP ((aS++[LG N]).length=aS.length+1):=by unfold QP;simp
       have g0:(aS++[LG N]).length<=1001+c*100000:=by rw[bS.o];omega
       rw[<-bS.o];generalize aS++[LG N]=A3 at*;clear I bS c9;go_wp2_with fail
       go_loopg [9,86] N (λ gk iv kv wr=>∃(s g aJ:Nat)(aS:List UInt8),iv=.slice (some ⟨g,0,none⟩) aS.length aJ/\kv=.int .i64 (s:Int)/\s+gk=N/\aS.length<=1001+c*100000+s*300/\aS=A3++oS s (S8 tk nx fi c)/\WI w1 wr g aJ aS)
       case atStart=>exact⟨0,g5,eO,A3,rfl,rfl,by omega,by omega,(MT _).symm,hI.o⟩
       case round=>
        obtain⟨s,g,C,aS,rfl,rfl,e5,e1,J,D⟩:=hrel;have F:=fV J;have I:=fV D;have hE:=D.bl.size;have c6:=(D.rw.lt g rfl).2;clear J D hI;by_cases hA:s<N
        ·obtain⟨ds,rfl⟩:∃d,gk=d+1:=⟨gk-1,by omega⟩
         have bO:s<ns c:=by rw[hN.o];exact hA
         have hY:=fV (hH.o.below I.o.bl (by omega));have eM:QP (wr.rangeAt (yb c) (s*2) [.int .i64 (tk c s),.slice (some ⟨zb c s,0,none⟩) K K]):=λ i v hv=>by
          have hi:i<2:=(LH.1 hv).1;have:i=0\/i=1:=by omega
          rcases this with rfl|rfl
          ·cases hv;exact hY.o.tc c s V bO
          ·cases hv;exact hY.o.nc c s V bO
         have W8:QP (∀k,k<K->w1.cell? ⟨zb c s,k,none⟩=some (.int .i64 (nx c s k))):=λ k hk=>hH.o.lc c s k V bO hk
         have a5:QP (zb c s<w1.heap.size):=by have:=hH.o.b2 c s V bO;unfold QP;omega
         have f6:=N1.o s bO;have H4:QP (∀k,k<K->nx c s k= -1\/(0<=nx c s k/\nx c s k<=255)):=λ k hk=>X2.o c s k V bO hk
         have hJ:=fV (I.o.alloc (.cells #[.int .i64 (tk c s),.slice (some ⟨zb c s,0,none⟩) K K] 121));have d0:(wr.alloc (.cells #[.int .i64 (tk c s),.slice (some ⟨zb c s,0,none⟩) K K] 121)).cell? ⟨wr.heap.size,0,none⟩=some (.int .i64 (tk c s)):=(MO _ _ _ 0 rfl).trans rfl;have d1:(wr.alloc (.cells #[.int .i64 (tk c s),.slice (some ⟨zb c s,0,none⟩) K K] 121)).cell? ⟨wr.heap.size,1,none⟩=some (.slice (some ⟨zb c s,0,none⟩) K K):=(MO _ _ _ 1 rfl).trans rfl;have sW:(wr.alloc (.cells #[.int .i64 (tk c s),.slice (some ⟨zb c s,0,none⟩) K K] 121)).heap.size=wr.heap.size+1:=by simp
         have lH:QP (S8 tk nx fi c s=[LG (tk c s)]++oS fi.length (λ i=>[LG (H7 (nx c s (fi.getD i 0)))])):=rfl;rw[eS.o]at lH;have M2:QP (∀X,aS++[LG (tk c s)]++oS (L+1) (λ i=>[LG (H7 (nx c s (fi.getD i 0)))])=X->X=A3++oS (s+1) (S8 tk nx fi c)):=λ X hX=>by
          rw[<-hX,nW s,<-LQ,<-F.o,lH.o,LQ]
         have b4:=dT s N (by omega)
         have h5:=iI s N (by omega)
         clear lH F hY;generalize nx c s=nxs at*;generalize tk c s=bK at*;generalize zb c s=zbs at*;go_upto_region 21 with(first|(refine QQ rfl 121 (.tmp 88) rfl (yb c) (s*2) rfl [.int .i64 (bK:Int),.slice (some ⟨zbs,0,none⟩) K K] _ eM.o underlying121 rfl dH ?_))
         generalize wr.alloc (.cells #[.int .i64 (bK:Int),.slice (some ⟨zbs,0,none⟩) K K] 121)=WA at*;obtain⟨sb,sR⟩:=xE (wr.heap.size)
         rw[sR]at d0 d1 sW c6⊢;replace sR:=fV sR;have hL:=fV sW;clear eM I hE sW;go_upto_region 22 with(first|(at_builtin;refine gB WA rfl (.tmp 90) (.tmp 94) 116 rfl w1.heap.size 5 (.int .u8 0) 1 1 MZ bV rfl (by decide) (by decide) (.slice (some ⟨g,0,none⟩) aS.length C) aS.length (oE aS) [.int .u8 (bK:Int)] _ rfl hJ.o.rw _ rfl rfl rfl (by simp[LM]) (by omega) (by have:=hJ.o.bl.size;omega) ?_;intro g6 O6 w6 hB Z hT e7;have O3:=fV (hJ.o.app (show bK<256 by omega) hB Z);have B1:=fV (((gH Z (show sb<WA.heap.size by have:=hL.o;omega) (λ e=>absurd (show sb=g by simpa[MG]using e) (by omega))).1 1).trans d1);have H1:QP (g6≠sb):=(by unfold QP;have:=hL.o;rcases hT with h|h;(have:g=g6:=by simpa[MG]using h);omega;omega);have O5:QP (sb<w6.heap.size):=(by unfold QP;have q1:=Z.size;have q2:=hL.o;simp at q1;omega);clear hB Z hT))
         have bT:QP ((aS++[LG bK]).length=aS.length+1):=by unfold QP;simp
         have bN:(aS++[LG bK]).length<=1002+c*100000+s*300:=by rw[bT.o];omega
         rw[<-bT.o];generalize aS++[LG bK]=A4 at*;clear hJ bT d0 d1 hL;go_wp2_with fail
         go_loopg [9,98] (L+1) (λ gk iv kv wr=>∃(i g aJ:Nat)(aS:List UInt8),iv=.slice (some ⟨g,0,none⟩) aS.length aJ/\kv=.int .i64 (i:Int)/\i+gk=L+1/\aS.length<=1002+c*100000+s*300+i/\aS=A4++oS i (λ i=>[LG (H7 (nxs (fi.getD i 0)))])/\WI w1 wr g aJ aS/\wr.cell? ⟨sb,1,none⟩=some (.slice (some ⟨zbs,0,none⟩) K K)/\g≠sb/\sb<wr.heap.size)
         case atStart=>exact⟨0,g6,O6,A4,rfl,rfl,by omega,bN,(MT _).symm,O3.o,B1.o,H1.o,O5.o⟩
         case round=>
          obtain⟨i,g,C,aS,rfl,rfl,e6,e2,J,D,d1,g9,d6⟩:=hrel;have F:=fV J;have I:=fV D;have hE:=D.bl.size;clear J D O3 B1 H1 O5;by_cases bM:i<L+1
          ·obtain⟨di,rfl⟩:∃d,gk=d+1:=⟨gk-1,by omega⟩
           have c8:=(X0.o.below I.o.bl c5) i bM;have HV:QP (iV fi i=((fi.getD i 0:Nat):Int)):=rfl;rw[HV.o]at c8;have hv:fi.getD i 0<K:=E8 W6.o (by rw[eS.o];exact bM);have N0:QP (A4++oS (i+1) (λ i=>[LG (H7 (nxs (fi.getD i 0)))])=aS++[LG (H7 (nxs (fi.getD i 0)))]):=by
            unfold QP;rw[nW i,<-LQ,<-F.o]
           generalize fi.getD i 0=v at*;have c7:=(I.o.bl.cell (p:=⟨zbs,v,none⟩) a5.o).trans (W8.o v hv);have hx:=H4.o v hv;have d2:H7 (nxs v)<256:=by unfold H7;split<;>omega
           generalize nxs v=xv at*;have hQ:=Yz xv wr hx;replace hx:=fV hx;have h6:=iI v K (by omega)
           have b5:decide ((i:Int)<((L+1:Nat):Int))=true:=by simp;omega
           have h0:(0:Int)<=(i:Int)/\(i:Int)<((L+1:Nat):Int):=by omega
           generalize H7 xv=lb at*;clear HV;go_wp2_with fail;refine hQ.mono ?_;rintro e w7 ⟨rfl,T3⟩;rw[T3];clear T3 w7;go_wp2_with (first|(at_builtin;refine gB wr rfl (.tmp 108) (.tmp 110) 116 rfl w1.heap.size 5 (.int .u8 0) 1 1 MZ bV rfl (by decide) (by decide) (.slice (some ⟨g,0,none⟩) aS.length C) aS.length (oE aS) [.int .u8 (lb:Int)] _ rfl I.o.rw _ rfl rfl rfl (by simp[LM]) (by omega) (by omega) ?_;intro g8 O7 w8 hD aL hU e9;have a3:=fV (I.o.app d2 hD aL);have W5:=fV (((gH aL d6 (λ e=>absurd (show sb=g by simpa[MG]using e) (by omega))).1 1).trans d1);have W7:QP (g8≠sb):=(by unfold QP;rcases hU with h|h;(have:g=g8:=by simpa[MG]using h);omega;omega);have a4:QP (sb<w8.heap.size):=(by unfold QP;have:=aL.size;simp at this;omega);clear hD aL hU));go_roundg di
           case measure=>omega
           case rel=>exact⟨i+1,g8,O7,aS++[LG lb],by simp,by go_num,by omega,by simp;omega,N0.o.symm,a3.o,W5.o,W7.o,a4.o⟩
          ·have e:gk=0:=by omega
           subst e;have e:i=L+1:=by omega
           subst e;have b5:decide (((L+1:Nat):Int)<((L+1:Nat):Int))=false:=by simp
           have HE:=fV (M2.o aS F.o.symm);go_wp2_with fail;go_roundg ds
           case measure=>omega
           case rel=>exact⟨s+1,g,C,aS,rfl,by go_num,by omega,by omega,HE.o,I.o⟩
        ·have e:gk=0:=by omega
         subst e;have e:s=N:=by omega
         subst e;have b4:=dF s s (by omega)
         have HE:=fV (nL.o aS F.o.symm);go_wp2_with fail;go_roundg d
         case measure=>omega
         case rel=>exact⟨c+1,g,C,aS,rfl,by go_num,by omega,by omega,HE.o,I.o⟩
      ·have e:gk=0:=by omega
       subst e;have e:c=n:=by omega
       subst e;have b3:=dF c c (by omega)
       have HE:QP (R=aS):=by unfold QP;rw[H3.o,F.o]
       go_wp2_with (first|(refine dS rfl (.tmp 115) rfl I.o rfl ?_));go_ret;exact⟨by rw[HE.o];rfl,W2.o.trans (pV I.o.bl (by omega))⟩
theorem KP{w:tW}{cg:Nat}{ls:List (List (Nat×List Int))}(h:Jy w K cg ls)(aL:cg<w.heap.size)(hl:∀l∈ls,∀z∈l,z.2.length=K):
  ∃yb zb,CM w w.heap.size cg ls.length K yb zb (S7 ls) (Yv ls) (V0 ls):=by
 obtain⟨ys,rfl,hr,I⟩:=h;have Y:∀c,c<ys.length->∃y,ys[c]?=some y/\y∈ys/\(ys.map (λ y=>y.2.map (·.1))).getD c []=y.2.map (·.1):=λ c o=>
  ⟨ys[c],LF o,MA o,by rw[LD,MB,LF o];rfl⟩
 have hz:∀(y:pB) s,s<y.2.length->∃z,y.2[s]?=some z/\z∈y.2/\(y.2.map (·.1)).getD s (0,[])=z.1:=λ y s C=>
  ⟨y.2[s],LF C,MA C,by rw[LD,MB,LF C];rfl⟩
 refine⟨λ c=>(ys.getD c (0,[])).1,λ c s=>((ys.getD c (0,[])).2.getD s ((0,[]),0)).2,?_⟩;have V:∀c y,ys[c]?=some y->ys.getD c (0,[])=y:=λ c y e=>by rw[LD,e];rfl
 have gz:∀(y:pB) s z,y.2[s]?=some z->y.2.getD s ((0,[]),0)=z:=λ y s z e=>by rw[LD,e];rfl
 have Q:∀c y,ys[c]?=some y->S7 (ys.map (λ y=>y.2.map (·.1))) c=y.2.length:=λ c y e=>by
  unfold S7;rw[LD,MB,e];simp
 rw[MU];refine⟨λ c o=>?_,λ c s o C=>?_,λ c s o C=>?_,λ c s k o C hk=>?_,aL,λ c o=>?_,λ c s o C=>?_⟩
 ·obtain⟨y,e,J,_⟩:=Y c o;have:=hr c _ (Ga ys c y e);rw[LS]at this;rw[this,Q c y e,V c y e]
 ·obtain⟨y,e,J,X⟩:=Y c o;rw[Q c y e]at C;obtain⟨z,U,D,F⟩:=hz y s C;have:=(I y J).rg (s*2) _ (PU 2 s▸(Be K y.2 s z U).1);rw[LS]at this;simp only[V c y e];rw[this];unfold Yv;rw[X,F]
 ·obtain⟨y,e,J,X⟩:=Y c o;rw[Q c y e]at C;obtain⟨z,U,D,F⟩:=hz y s C;have:=(I y J).rg (s*2+1) _ (PU 2 s▸(Be K y.2 s z U).2);rw[LS]at this;simp only[V c y e,gz y s z U];rw[this]
 ·obtain⟨y,e,J,X⟩:=Y c o;rw[Q c y e]at C;obtain⟨z,U,D,F⟩:=hz y s C;have aO:z.1.2.length=K:=hl _ (OP.2 ⟨y,J,rfl⟩) _ (OP.2 ⟨z,D,rfl⟩);have Z:k<z.1.2.length:=by omega
  have:=((I y J).bF z D).2 k _ (B6 z.1.2 k _ (LF Z));rw[LS]at this;simp only[V c y e,gz y s z U];rw[this];unfold V0;rw[X,F,LD,LF Z];rfl
 ·obtain⟨y,e,J,X⟩:=Y c o;simp only[V c y e];exact(I y J).lt
 ·obtain⟨y,e,J,X⟩:=Y c o;rw[Q c y e]at C;obtain⟨z,U,D,F⟩:=hz y s C;simp only[V c y e,gz y s z U];exact((I y J).bF z D).1
def pC(t:tB):List UInt8×Int:=
 if kB t=0 then
  match xT (pP (iB t).aV (iB t).aX (qF (iB t).aW).2) (iP (iB t).aX 1) 0 []with
  | none=>([],4)
  | some ls=>(Jx (iB t).aX ls.length (qF (iB t).aW).2.length (λ b=>(qF (iB t).aW).1.getD b 0) (S7 ls) (Yv ls) (V0 ls),0)
 else([],kB t)
theorem Xb(t:tB)(w:tW)(hF:kB t=0->Zl (iB t))
  (hA:kB t=0->∀ls,xT (pP (iB t).aV (iB t).aX (qF (iB t).aW).2) (iP (iB t).aX 1) 0 []=some ls->Aw (qF (iB t).aW).2.length ls):
  QY LZ 7 #[.string t] w λ e w'=>e=.returned (.tuple #[.string ⟨(pC t).1.toArray⟩,.int .i64 (pC t).2])/\Bl w w':=by
 have hp:=Ro t w;have HF:=fV hF;have HA:=fV hA;clear hF hA;go_enter func7,ntmps7;go_wp2_with fail;refine hp.mono ?_;rintro e w1 ⟨eR,vr,vn,vp,rfl,eS,eT⟩;have gL:=fV eR;have H3:=eR.size;have cF:QP (∀o,Bl w (w1.alloc o)):=λ o=>gL.o.alloc H3 o
 clear eR hp;by_cases hz:kB t=0
 ·clear eT;have J:=fV (eS hz);have I:=fV (HF.o hz);have hW:=fV (HA.o hz);clear eS HF HA;have HE:QP (∀X,xT (pP (iB t).aV (iB t).aX (qF (iB t).aW).2) (iP (iB t).aX 1) 0 []=X->pC t=match X with
   | none=>([],4)
   | some ls=>(Jx (iB t).aX ls.length (qF (iB t).aW).2.length (λ b=>(qF (iB t).aW).1.getD b 0) (S7 ls) (Yv ls) (V0 ls),0)):=λ X hX=>by
   rw[<-hX];unfold pC;rw[aB hz]
  rw[hz];generalize iB t=st at*;clear hz;have B2:=I.o.r0;have E6:=I.o.r1;have H6:=I.o.n0;have A0:=I.o.nn;have L1:=I.o.p0;have A2:=I.o.p1;have tO:=I.o.g0;have tT:=I.o.g1;obtain⟨rg,F,H2,_,_⟩:=J.o.rr.form (by omega);obtain⟨ng,C,H1,_,_⟩:=J.o.rn.form (by omega);obtain⟨qg,D,eX,_,_⟩:=J.o.rp.form (by omega);subst H2 H1 eX;have hL:QP (uC w1 rg st.aX):=λ k x hk=>K9 (f:=nH) (m:=6) (λ _=>rfl) (vV J.o.rr) hk
  have hI:QP (D9 w1 ng st.aV):=λ k x hk=>K9 (f:=λ x=>[NS .i64 x.1,NS .i64 x.2.1,NS .i64 x.2.2]) (m:=3) (λ _=>rfl) (vV J.o.rn) hk
  have hK:QP (yD w1 qg st.aW):=λ k x hk=>K9 (f:=gQ) (m:=256) (λ f=>gM f) (vV J.o.rp) hk
  have H0:=J.o.lr rg rfl;have A1:=J.o.ln ng rfl;have B1:=J.o.lp qg rfl;clear J;have bS:=fV (cF.o (.cells #[.slice (some ⟨rg,0,none⟩) st.aX.length F,.slice (some ⟨ng,0,none⟩) st.aV.length C,.slice (some ⟨qg,0,none⟩) st.aW.length D] 44));have bN:QP (Bl w1 (w1.alloc (.cells #[.slice (some ⟨rg,0,none⟩) st.aX.length F,.slice (some ⟨ng,0,none⟩) st.aV.length C,.slice (some ⟨qg,0,none⟩) st.aW.length D] 44))):=bR.alloc lR _;have eL:=fV (mE w1 #[.slice (some ⟨rg,0,none⟩) st.aX.length F,.slice (some ⟨ng,0,none⟩) st.aV.length C,.slice (some ⟨qg,0,none⟩) st.aW.length D] 44);have hV:(w1.alloc (.cells #[.slice (some ⟨rg,0,none⟩) st.aX.length F,.slice (some ⟨ng,0,none⟩) st.aV.length C,.slice (some ⟨qg,0,none⟩) st.aW.length D] 44)).heap.size=w1.heap.size+1:=by simp
  go_upto_region 4 with fail;generalize w1.alloc (.cells #[.slice (some ⟨rg,0,none⟩) st.aX.length F,.slice (some ⟨ng,0,none⟩) st.aV.length C,.slice (some ⟨qg,0,none⟩) st.aW.length D] 44)=w2 at*;have hT:=Qt st.aW qg D (.slice (some ⟨rg,0,none⟩) st.aX.length F) (.slice (some ⟨ng,0,none⟩) st.aV.length C) w2 A2 (hK.o.below bN.o B1) (by omega);have bC:=fV hV;clear hV;go_wp2_with (first|(refine QQ rfl 44 (.tmp 4) rfl w1.heap.size 0 rfl [.slice (some ⟨rg,0,none⟩) st.aX.length F,.slice (some ⟨ng,0,none⟩) st.aV.length C,.slice (some ⟨qg,0,none⟩) st.aW.length D] _ eL.o ND rfl bX ?_));refine hT.mono ?_;rintro e Q ⟨vpl,rfl,hS,Z,aT⟩;have aO:=fV hS;have qR:=fV I.o.gl;have rO:=fV I.o.ok;have sR:=fV I.o.ro;have hB:=fV I.o.be;clear hS hT I;generalize (qF st.aW).2=G at*;generalize (qF st.aW).1=O at*;obtain⟨pg,Y,eX,_,_⟩:=Z.form (by omega);subst eX;have nN:QP (∀j a,G[j]?=some a->Q.cell? ⟨pg,j,none⟩=some (.int .i64 a)):=λ j a hj=>by
   have:=vV Z j _ (B6 G j a hj);rwa [LS]at this
  have A3:=(Z.lt pg rfl).2;have hD:=fV (nB eL.o aT (by have:=bC.o;omega));have hM:=fV ((hL.o.below bN.o H0).below aT (by have:=bC.o;omega));have hJ:=fV ((hI.o.below bN.o A1).below aT (by have:=bC.o;omega));have bT:=fV (bS.o.trans (pV aT bS.o.size));have H4:w1.heap.size<Q.heap.size:=by have:=aT.size;have:=bC.o;omega
  clear Z aT hL hI hK bS bN eL bC cF gL;obtain⟨V,aR⟩:=xE (uZ O (.slice (some ⟨pg,0,none⟩) G.length Y))
  have bO:QP (V.length=257):=by rw[<-aR];exact P4 _ _ aO.o
  have hH:QP (∀v∈V,v.oneCell'=true):=λ v hv=>by
   rw[<-aR]at hv;unfold uZ oY at hv;rcases LO.1 hv with h1|h1
   ·rw[OP]at h1;obtain⟨y,_,rfl⟩:=h1;rfl
   ·rw[LI]at h1;rw[h1];rfl
  have nL:QP (V[256]?=some (.slice (some ⟨pg,0,none⟩) G.length Y)):=by rw[<-aR];exact Lk _ _ aO.o
  have qL:QP (V=oY O++[.slice (some ⟨pg,0,none⟩) G.length Y]):=by rw[<-aR];rfl
  rw[aR];clear aR;have eM:QP (V.toArray.size=257):=by unfold QP;simpa using bO.o
  have eN:=fV (iD Q LJ 50 Q.heap.size 257 cC rfl);have aL:QP (Bl Q ((Q.alloc (.cells LJ 50)).setCells Q.heap.size 0 V)):=fX _ 0 _ Q.heap.size (bR.alloc lR _) lR;have hG:QP (((Q.alloc (.cells LJ 50)).setCells Q.heap.size 0 V).rangeAt Q.heap.size 0 V):=LN _ _ _ _ (by rw[bO.o];exact eN.o);have sW:QP (Q.heap.size<((Q.alloc (.cells LJ 50)).setCells Q.heap.size 0 V).heap.size):=by
   have:=(fX V 0 (Q.alloc (.cells LJ 50)) Q.heap.size (OZ 0 _) zL).size;unfold QP;simp at this;omega
  go_upto_region 5 with(first
   | (refine QR rfl 50 (.tmp 6) (.tmp 17) rfl Q.heap.size 0 V.toArray rfl rfl ?_ ?_ (QS hH.o) ?_;(rw[eM.o];exact eN.o);(rw[eM.o];exact cD)))
  generalize (Q.alloc (.cells LJ 50)).setCells Q.heap.size 0 V=w4 at*;have M2:=aL.o.size;have hE:=fV (nB hD.o aL.o H4);have hN:=fV (hM.o.below aL.o (by omega));have rL:=fV (hJ.o.below aL.o (by omega));have bK:=fV (bT.o.trans (pV aL.o bT.o.size));have eO:=BU st.aV st.aX ng C rg F pg Y (.slice (some ⟨qg,0,none⟩) st.aW.length D) G V.toArray w4 A0 rO.o rL.o (by omega) (by omega) B2 hN.o (by omega) sR.o (λ x hx=>by have:=hB.o x hx;omega)
   eM.o (QS hH.o) (by rw[OV];exact nL.o) (by omega) (λ j a hj=>(aL.o.cell (p:=⟨pg,j,none⟩) A3).trans (nN.o j a hj)) (by omega)
  have H5:QP (V.toArray.toList=V):=by unfold QP;simp
  clear hD hM hJ eN bT;go_wp2_with (first
   | (refine QQ rfl 44 (.tmp 4) rfl w1.heap.size 0 rfl [.slice (some ⟨rg,0,none⟩) st.aX.length F,.slice (some ⟨ng,0,none⟩) st.aV.length C,.slice (some ⟨qg,0,none⟩) st.aW.length D] _ hE.o ND rfl bX ?_)
   | (refine QQ rfl 50 (.tmp 6) rfl Q.heap.size 0 rfl V _ hG.o NT rfl ?_ ?_;(rw[bO.o];exact cD)))
  refine eO.mono ?_;intro e w5 ho
  cases hx:xT (pP st.aV st.aX G) (iP st.aX 1) 0 []with
  | none=>
   rw[hx]at ho;obtain⟨rfl,U⟩:=ho;have cP:=fV (HE.o _ hx);have bM:=fV (bK.o.trans (pV U bK.o.size));clear hx U eO;go_wp2;go_ret2;rw[cP.o];exact⟨rfl,bM.o⟩
  | some ls=>
   rw[hx]at ho;obtain⟨cg,hP,rfl,hR,tL,U⟩:=ho;have cP:=fV (HE.o _ hx);have cN:=fV (hW.o _ hx);have bM:=fV (bK.o.trans (pV U bK.o.size));have N0:=U.size;have iN:=fV (nB hE.o U (by omega));have lH:=fV (nB hG.o U sW.o);have rT:=fV (hN.o.below U (by omega));obtain⟨yb,zb,hC⟩:=KP hR tL cN.o.k1;obtain⟨q1,q2,q3⟩:=cN.o.at;have hU:=Sr st.aX rg F cg ls.length G.length hP pg Y (.slice (some ⟨ng,0,none⟩) st.aV.length C) (.slice (some ⟨qg,0,none⟩) st.aW.length D) V.toArray (oY O).toArray (λ b=>O.getD b 0) yb zb (S7 ls) (Yv ls) (V0 ls) w5
    E6 rT.o (by omega) hB.o cN.o.l1 q1 tO tT hC q2 q3 (by simp[nF,aO.o]) (λ b hb=>by rw[OV,Q3 _ _ (by rw[aO.o];exact hb),LD,LF (by rw[aO.o];exact hb)];rfl) (λ b hb=>E8 qR.o (by rw[aO.o];exact hb)) (by simpa using qL.o)
   clear hx U eO hC q1 q2 q3 hR;go_wp2_with (first
    | (refine QQ rfl 44 (.tmp 4) rfl w1.heap.size 0 rfl [.slice (some ⟨rg,0,none⟩) st.aX.length F,.slice (some ⟨ng,0,none⟩) st.aV.length C,.slice (some ⟨qg,0,none⟩) st.aW.length D] _ iN.o ND rfl bX ?_)
    | (refine QQ rfl 50 (.tmp 6) rfl Q.heap.size 0 rfl V _ lH.o NT rfl ?_ ?_;(rw[bO.o];exact cD)))
   refine hU.mono ?_;rintro e w6 ⟨rfl,hQ⟩;have hY:=fV (bM.o.trans (pV hQ bM.o.size));clear hQ hU;go_wp2;go_ret2;rw[cP.o];exact⟨rfl,hY.o⟩
 ·obtain⟨rfl,rfl,rfl⟩:=eT hz;have HE:QP (pC t=([],kB t)):=by unfold QP pC;rw[aA hz]
  clear eS eT HA HF;have hd:(kB t !=0)=true:=by rw[aD];exact hz
  replace hz:=fV hz;generalize kB t=pc at*;go_wp2;go_ret2;rw[HE.o];exact⟨rfl,cF.o _⟩
