import Derived.Test.YtgjgjgihceijnaaGreatH02
import Derived.Laws.IdiomStrings
open Go.RowKit renaming ownsRow_setCell_below->QN,Hid->QO
open Go renaming wpList_load_mid->QP,wpList_store_mid->QQ,all_oneCell_toArray->QR,info_parts->QS,madeCells->QT,wpList_make_own->QU,wpList_plain->QV,maxLen->QW,Calls->QX
open List renaming getD_eq_getElem?_getD->LC,getElem?_eq_getElem->LD,getElem?_eq_some_iff->LG,mem_singleton->LH,length_append->LJ,mem_append->LN,append_assoc->LP,getElem?_append_left->LQ,getElem?_append_right->LS,not_mem_nil->LU,getElem_mem->LZ,getElem?_map->MA,replicate->MD,mem_cons_self->ML,mem_cons_of_mem->MM,append_nil->MS,length_map->MT,drop_eq_getElem_cons->MV,append_eq_nil_iff->ND,cons_append->NE,singleton_append->NG,length_replicate->NH,getElem?_cons_succ->NK,map_append->NO,mem_cons->NR,getElem?_range->NU,drop_eq_nil_iff->OF,length_set->OH,flatMap_cons->OK,map_cons->OL,drop_length->OM,mem_map->OP,nil_append->OR,getElem?_toArray->OU,set_cons_succ->OY,map_singleton->PB,map_nil->PF,take_add_one->PH,length_take->PM,drop_zero->PO,range->PY
open UInt8 renaming ofNat->LF
open Go.Proofs.Tryz renaming zeroCells50->LI,prog->LY,zeroCells169->MF,underlying164->MY,underlying116->MZ,underlying44->NC,underlying108->NF,underlying59->NJ,underlying50->NT,underlying119->NW,underlying48->OB,zeroCells158->OC,underlying162->OJ,ntmps71->OO
open Go.Value renaming oneCell'->LK,ownBlock->ME,slice->MI,int->NQ
open Go.World renaming rangeAt_setCells_same->LM,cell?_setCell_other->MB,setCell->MG,cell?_alloc_at->MN,frozen?_setCell->MW,cell?_setCell_same->NB,ownsRow_nil->NS,frozen?_of_block->NZ,cell?_of_block->OE,frozen?_alloc_new->ON,there_setCells->OV,grownBy_alloc->OX,there_alloc->PG
open Nat renaming lt_of_lt_of_le->LO,zero_add->LR,lt_succ_self->MO,le_of_lt->MU,le_trans->NN,lt_trichotomy->NY,mod_eq_of_lt->OD,succ_pos->OI,strongRecOn->OQ,not_lt_zero->OS,lt_or_gt_of_ne->OZ,and_lt_two_pow->PA,or_lt_two_pow->PE,le_succ->PN,lt_irrefl->PQ,zero_mul->PT,succ_mul->PU,mul_comm->PV,add_mul->PW,one_pos->PX
open Go.RowKit.Below renaming heap_alloc->MC,heap_setCell->MH,refl->PC
open Int renaming toNat_natCast->MJ
open Classical renaming byContradiction->MQ
open Array renaming length_toList->MR
open Bool renaming or_eq_true->NI,and_eq_true->NM
open Option renaming map_some->OG,getD_some->PK
open Go.Proofs.Tryz
set_option maxRecDepth 100000
set_option maxHeartbeats 8000000
namespace Go.Stn
open Go.RowKit
variable {B j s K aH e size g n aJ k b pb p q L a top cg h m a' nb:Nat}{S G S':List Int}{x ahead aP y fr ds:Int}{aV:List (Int×Int×Int)}{u v:List Nat}
def Ip(E:List (Nat×tV)):List tV:=E.flatMap λ e=>[NQ .i64 (e.1:Int),e.2]
theorem Zl(E:List (Nat×tV))(e:Nat×tV):Ip (E++[e])=Ip E++[NQ .i64 (e.1:Int),e.2]:=by simp[Ip]
def mQ(vf vl:tV)(aG:Nat->Int):Array tV:= #[vf,vl,.int .i64 (aG 0),.int .i64 (aG 1),.int .i64 (aG 2),.int .i64 (aG 3),.int .i64 (aG 4),.int .i64 (aG 5),.int .i64 (aG 6),.int .i64 (aG 7),.int .i64 (aG 8),.int .i64 (aG 9)]
theorem Df.below{w w':tW}{v:tV}{l:List Int}(h:Df w v l)(C:Below B w w')(J:∀k,v.ownBlock=some k->k<B):Df w' v l:=by
 refine⟨?_⟩;rcases h.sh with D|⟨g,aJ,rfl,F,Q,I⟩
 ·exact .inl D
 ·exact .inr ⟨g,aJ,rfl,F,Q,λ k x o=>(C.cell (p:=⟨g,k,none⟩) (J g rfl)).trans (I k x o)⟩
def Ab(num:Nat->Int)(S:List Int):Prop:=∀x:Nat,x<1024->num x=if(x:Int)∈S/\x≠0 then((jT S (x:Int):Nat):Int)else 0
structure pZ(S:List Int):Prop where
 zero:S[0]?=some 0
 nd:S.Nodup
 rg:∀x∈S,0<=x/\x<1024
def zA(S:List Int)(x:Int):Int×List Int:=
 if x<=0\/1024<=x then(-1,S)else if x∈S then((jT S x:Nat),S)else((S.length:Nat),S++[x])
theorem Ci(h:x∈S):jT S x<S.length:=by
 induction S with
 | nil=>cases h
 | cons a r ih=>
  rw[jT];split
  ·simp
  ·rename_i o;rcases NR.1 h with e|e
   ·exact absurd e.symm o
   ·have:=ih e;simp;omega
theorem Bm(h:¬x∈S):jT S x=S.length:=by
 induction S with
 | nil=>rfl
 | cons a r ih=>
  rw[jT,aA (λ e=>h (by rw[e];exact ML)),ih (λ e=>h (MM _ e))];rfl
theorem V2(h:x∈S):S[jT S x]?=some x:=by
 induction S with
 | nil=>cases h
 | cons a r ih=>
  rw[jT];split
  ·rename_i e;rw[e];rfl
  ·rename_i o;rcases NR.1 h with e|e
   ·exact absurd e.symm o
   ·rw[NK];exact ih e
theorem Yo{T:List Int}(h:x∈S):jT (S++T) x=jT S x:=by
 induction S with
 | nil=>cases h
 | cons a r ih=>
  rw[NE,jT,jT];split
  ·rfl
  ·rename_i o;rcases NR.1 h with e|e
   ·exact absurd e.symm o
   ·rw[ih e]
theorem Yp(h:¬x∈S):jT (S++[x]) x=S.length:=by
 induction S with
 | nil=>simp[jT]
 | cons a r ih=>
  rw[NE,jT,aA (λ e=>h (by rw[e];exact ML)),ih (λ e=>h (MM _ e))];rfl
theorem AG(o:pZ S){x:Int}(h:x∈S)(C:x≠0):0<jT S x:=by
 refine Nat.pos_of_ne_zero (λ e=>?_);have:=V2 h;rw[e,o.zero]at this;injection this with this;exact C this.symm
theorem Lp{num:Nat->Int}(C:pZ S)(hn:Ab num S){x:Nat}(o:x<1024)(D:x≠0):num x=0↔¬(x:Int)∈S:=by
 rw[hn x o];by_cases h:(x:Int)∈S
 ·rw[aB ⟨h,D⟩];have:=AG C h (by omega);constructor
  ·intro e;omega
  ·intro e;exact absurd h e
 ·rw[aA (λ q=>h q.1)];simp[h]
theorem Ob{num:Nat->Int}(hn:Ab num S){x:Nat}(D:x≠0)(h:¬(x:Int)∈S):Ab (λ j=>if j=x then(S.length:Int)else num j) (S++[(x:Int)]):=by
 intro y I;by_cases e:y=x
 ·subst e;simp only[aB];rw[aB ⟨by simp,D⟩,Yp h]
 ·simp only[aA e];rw[hn y I];by_cases o:(y:Int)∈S
  ·by_cases C:y=0
   ·rw[aA (λ q=>q.2 C),aA (λ q=>q.2 C)]
   ·rw[aB ⟨o,C⟩,aB ⟨by simp[o],C⟩,Yo o]
  ·rw[aA (λ q=>o q.1),aA (λ q=>by
    rcases LN.1 q.1 with F|F
    ·exact o F
    ·simp at F;omega)]
theorem Lf(C:pZ S){x:Int}(h:¬x∈S)(F:0<=x)(I:x<1024):pZ (S++[x]):=by
 refine⟨?_,?_,λ y U=>?_⟩
 ·have:=C.zero;have J:0<S.length:=(LG.1 this).1;rw[LQ J];exact this
 ·rw[List.nodup_append];refine⟨C.nd,by simp,λ a Q b D e=>?_⟩;rw[LH]at D;subst D;subst e;exact h Q
 ·rcases LN.1 U with o|o
  ·exact C.rg y o
  ·rw[LH]at o;subst o;exact⟨F,I⟩
theorem yN(o:pZ S):S.length<=1024:=by
 refine Oy 1024 S.length (λ i=>(S.getD i 0).toNat) (λ i hi=>?_) (λ i j hi C Q=>?_)
 ·have:=o.rg (S[i]) (LZ hi);rw[LC,LD hi];simp only[PK];omega
 ·have U:=o.rg (S[i]) (LZ hi);have V:=o.rg (S[j]) (LZ C);rw[LC,LC,LD hi,LD C]at Q;simp only[PK]at Q;have J:=List.pairwise_iff_getElem.1 o.nd;rcases NY i j with F|D|I
  ·exact absurd (by omega) (J i j hi C F)
  ·exact D
  ·exact absurd (by omega) (J j i C hi I)
def wT(ahead:Int):List Int->List Int->List Int->List Int×List Int
 | [],aS,S=>(aS,S)
 | a::r,aS,S=>wT ahead r (aS++[(zA S (nS ahead a)).1]) (zA S (nS ahead a)).2
def kZ(aG:Nat->Int)(aP:Int)(S:List Int)(s:Nat):Int:=if s=0 then aP else Ee aG (S.getD s 0)
def oA(aG:Nat->Int)(aP:Int)(G:List Int):Nat->Nat->List Int->List (List Int)->List Int×List (List Int)
 | 0,_,S,R=>(S,R)
 | f+1,s,S,R=>if s<S.length then oA aG aP G f (s+1) (wT (kZ aG aP S s) G [] S).2 (R++[(wT (kZ aG aP S s) G [] S).1])else(S,R)
def jF(aG:Nat->Int)(aP:Int)(G:List Int):List Int×List (List Int):=oA aG aP G 1025 0 [0] []
theorem Jj(h:pZ S)(x:Int):pZ (zA S x).2/\S.length<=(zA S x).2.length/\(∀i,i<S.length->(zA S x).2.getD i 0=S.getD i 0)/\((zA S x).1= -1\/(0<=(zA S x).1/\(zA S x).1<(zA S x).2.length)):=by
 unfold zA;split
 ·exact⟨h,lR,λ _ _=>rfl,.inl rfl⟩
 ·rename_i C;split
  ·rename_i o;have:=Ci o;exact⟨h,lR,λ _ _=>rfl,.inr ⟨by simp only;omega,by simp only;omega⟩⟩
  ·rename_i o;refine⟨Lf h o (by omega) (by omega),by simp,λ i hi=>?_,.inr ⟨by simp only;omega,by simp;omega⟩⟩;simp only;rw[LC,LC,LQ hi]
theorem Uc:∀(G aS S:List Int),pZ S->(∀y∈aS,y= -1\/(0<=y/\y<S.length))->
  pZ (wT ahead G aS S).2/\S.length<=(wT ahead G aS S).2.length/\(∀i,i<S.length->(wT ahead G aS S).2.getD i 0=S.getD i 0)/\(wT ahead G aS S).1.length=aS.length+G.length/\
   ∀y∈(wT ahead G aS S).1,y= -1\/(0<=y/\y<(wT ahead G aS S).2.length):=by
 intro G
 induction G with
 | nil=>intro aS S h C;exact⟨h,lR,λ _ _=>rfl,rfl,C⟩
 | cons a r ih=>
  intro aS S h C;obtain⟨F,I,U,Y⟩:=Jj h (nS ahead a);rw[wT];obtain⟨J,V,X,D,Q⟩:=ih (aS++[(zA S (nS ahead a)).1]) (zA S (nS ahead a)).2 F (λ y Z=>by
   rcases LN.1 Z with q|q
   ·rcases C y q with o|o
    ·exact .inl o
    ·exact .inr ⟨o.1,by omega⟩
   ·rw[LH]at q;rw[q];exact Y)
  exact⟨J,NN I V,λ i hi=>(X i (by omega)).trans (U i hi),by rw[D];simp;omega,Q⟩
theorem Hl{aS:List Int}{a:Int}(h:G[j]?=some a):wT ahead (G.drop j) aS S=wT ahead (G.drop (j+1)) (aS++[(zA S (nS ahead a)).1]) (zA S (nS ahead a)).2:=by
 have e:G.drop j=a::G.drop (j+1):=by
  obtain⟨o,C⟩:=LG.1 h;rw[MV o,C]
 rw[e,wT]
def Jw(bB:List Int)(S:List Int)(s:Nat)(zb:Nat->Nat)(K:Nat):List (Nat×tV):=
 (PY S.length).map λ i=>(yK bB (S.getD i 0),if i<s then MI (some ⟨zb i,0,none⟩) K K else MI none 0 0)
theorem uC(bB S:List Int)(s:Nat)(zb:Nat->Nat)(K:Nat):(Jw bB S s zb K).length=S.length:=by simp[Jw]
theorem GU{bB:List Int}{C:Nat}{zb:Nat->Nat}(D:s<S.length):Jw bB S (s+1) (λ i=>if i=s then C else zb i) K=(Jw bB S s zb K).set s (yK bB (S.getD s 0),.slice (some ⟨C,0,none⟩) K K):=by
 refine List.ext_getElem? (λ i=>?_);by_cases e:i=s
 ·subst e;rw[List.getElem?_set_self (by rw[uC];exact D)];unfold Jw;rw[MA,NU D];simp
 ·rw[List.getElem?_set_ne (λ h=>e h.symm)];unfold Jw;rw[MA,MA]
  cases hr:(PY S.length)[i]? with
  | none=>rfl
  | some j=>
   have I:j=i:=by
    obtain⟨J,o⟩:=LG.1 hr;simp at o;exact o.symm
   subst I;simp only[OG];by_cases F:j<s
   ·rw[aB F,aB (by omega),aA e]
   ·rw[aA F,aA (by omega)]
theorem GP:∀(E:List (Nat×tV)) (s:Nat) (t:Nat) (u v:tV),E[s]?=some (t,u)->(Ip E).set (s*2+1) v=Ip (E.set s (t,v)):=by
 intro E
 induction E with
 | nil=>intro s t u v h;simp at h
 | cons e r ih=>
  intro s t u v h;have o:Ip (e::r)=NQ .i64 (e.1:Int)::e.2::Ip r:=by simp[Ip]
  cases s with
  | zero=>
   have C:e=(t,u):=by simpa using h
   subst C;rw[o];simp[Ip]
  | succ j=>
   rw[o,show(j+1)*2+1=(j*2+1)+1+1 by omega,OY,OY,ih j t u v (by simpa using h)];simp[Ip]
theorem Ht:∀(E:List (Nat×tV)) (s:Nat) (t:Nat) (u:tV),E[s]?=some (t,u)->(Ip E)[s*2+1]?=some u/\(Ip E)[s*2]?=some (.int .i64 (t:Int)):=by
 intro E
 induction E with
 | nil=>intro s t u h;simp at h
 | cons e r ih=>
  intro s t u h;have o:Ip (e::r)=NQ .i64 (e.1:Int)::e.2::Ip r:=by simp[Ip]
  cases s with
  | zero=>
   have C:e=(t,u):=by simpa using h
   subst C;rw[o];simp
  | succ j=>
   rw[o,show(j+1)*2+1=(j*2+1)+1+1 by omega,show(j+1)*2=j*2+1+1 by omega];simpa using ih j t u (by simpa using h)
theorem Qa{w:tW}{xs:List tV}(h:w.ownsRow aH e size (.slice (some ⟨g,0,none⟩) n aJ) n xs)(i:Nat)(u:tV):(w.setCell ⟨g,i,none⟩ u).ownsRow aH e size (.slice (some ⟨g,0,none⟩) n aJ) n (xs.set i u):=by
 refine⟨by rw[OH];exact h.1,?_⟩;rcases h.2 with⟨U,_⟩|⟨X,Q,D,V,J,hg,F,o,I,C⟩
 ·cases U
 ·cases V
  refine .inr ⟨g,aJ,D.setIfInBounds i u,rfl,J,?_,F,o,by rw[Array.size_setIfInBounds];exact I,?_⟩
  ·unfold MG;simp only[Array.getElem?_modify,hg];simp
  ·rw[Array.toList_setIfInBounds,List.take_set,C]
theorem wG(g i:Nat):(⟨g,0,none⟩:Addr).add i=⟨g,i,none⟩:=by
 by_cases h:i=0
 ·subst h;simp[Addr.add]
 ·simp[Addr.add,h]
theorem Cm{α:Type}(f:α->List tV)(m:Nat)(D:∀x,(f x).length=m):∀(l:List α)(k:Nat)(x:α)(j:Nat)(v:tV),l[k]?=some x->(f x)[j]?=some v->(l.flatMap f)[k*m+j]?=some v:=by
 intro l
 induction l with
 | nil=>intro k x j v h;simp at h
 | cons a r ih=>
  intro k x j v h C;rw[OK]
  cases k with
  | zero=>
   have e:=sJ h
   subst e;have o:=(LG.1 C).1;rw[PT,LR,LQ o];exact C
  | succ i=>
   rw[LS (by rw[D];rw[PW];omega),D,show(i+1)*m+j-m=i*m+j by rw[PW];omega];exact ih i x j v (by simpa using h) C
def uA(w:tW)(g:Nat)(aX:List ((Nat->Bool)×Int×Int)):Prop:=∀k x,aX[k]?=some x->w.rangeAt g (k*6) (nI x)
theorem uA.below{w w':tW}{aX:List ((Nat->Bool)×Int×Int)}(h:uA w g aX)(C:Below B w w')(hg:g<B):uA w' g aX:=λ k x o=>fY (h k x o) (C.block g hg)
def vS(f:Nat->Bool):Nat->Nat->Nat
 | 0,c=>c
 | k+1,c=>if f k=true/\vS f k c<k+1 then k+1 else vS f k c
def Q9(x:(Nat->Bool)×Int×Int)(c:Nat):Nat:=if((vS x.1 4 c:Nat):Int)<x.2.1-1 then(x.2.1-1).toNat else vS x.1 4 c
def iP:List ((Nat->Bool)×Int×Int)->Nat->Nat
 | [],c=>c
 | x::r,c=>iP r (Q9 x c)
theorem Bx{aX:List ((Nat->Bool)×Int×Int)}{x:(Nat->Bool)×Int×Int}(h:aX[k]?=some x)(c:Nat):iP (aX.drop k) c=iP (aX.drop (k+1)) (Q9 x c):=by
 have e:aX.drop k=x::aX.drop (k+1):=by
  obtain⟨o,C⟩:=LG.1 h;rw[MV o,C]
 rw[e,iP]
def G4(f:Nat->Bool)(fr:Int)(bE:Nat):Nat->Int->Int
 | 0,b=>b
 | k+1,b=>if f k=true/\k=bE then An (G4 f fr bE k b) fr else G4 f fr bE k b
def rM(fi:Nat->Int)(bE:Nat):List ((Nat->Bool)×Int×Int)->Nat->Int->Int
 | [],_,b=>b
 | x::l,r,b=>rM fi bE l (r+1) (G4 x.1 (fi r) bE 4 b)
theorem Km{fi:Nat->Int}{bE:Nat}{aX:List ((Nat->Bool)×Int×Int)}{x:(Nat->Bool)×Int×Int}(h:aX[k]?=some x)(b:Int):rM fi bE (aX.drop k) k b=rM fi bE (aX.drop (k+1)) (k+1) (G4 x.1 (fi k) bE 4 b):=by
 have e:aX.drop k=x::aX.drop (k+1):=by
  obtain⟨o,C⟩:=LG.1 h;rw[MV o,C]
 rw[e,rM]
def yQ(w:tW)(g:Nat)(aW:List (Nat->Bool)):Prop:=∀k f,aW[k]?=some f->w.rangeAt g (k*256) (gQ f)
theorem yQ.below{w w':tW}{aW:List (Nat->Bool)}(h:yQ w g aW)(C:Below B w w')(hg:g<B):yQ w' g aW:=λ k x o=>fY (h k x o) (C.block g hg)
def Er(b:Nat):List (Nat->Bool)->Nat->Int->Int
 | [],_,a=>a
 | f::r,p,a=>Er b r (p+1) (if f b=true then An a (sK p)else a)
def G2(aW:List (Nat->Bool))(b:Nat):Int:=Er b aW 0 0
theorem Wi{aW:List (Nat->Bool)}{f:Nat->Bool}(h:aW[k]?=some f)(a:Int):Er b (aW.drop k) k a=Er b (aW.drop (k+1)) (k+1) (if f b=true then An a (sK k)else a):=by
 have e:aW.drop k=f::aW.drop (k+1):=by
  obtain⟨o,C⟩:=LG.1 h;rw[MV o,C]
 rw[e,Er]
def U9(al:Nat->Int):Nat->Nat->List Nat->List Int->List Nat×List Int
 | 0,_,bG,P=>(bG,P)
 | d+1,b,bG,P=>U9 al d (b+1) (bG++[jT P (al b)]) (if jT P (al b)=P.length then P++[al b]else P)
def qG(aW:List (Nat->Bool)):List Nat×List Int:=U9 (G2 aW) 256 0 [] []
def uY(bG:List Nat)(vpl:tV):List tV:=pA bG++[vpl]
theorem P4(bG:List Nat)(vpl:tV)(h:bG.length=256):(uY bG vpl).length=257:=by simp[uY,nJ,h]
theorem o8(bG:List Nat)(vpl:tV)(k:Nat)(h:k<bG.length):(uY bG vpl)[k]?=some (.int .i64 (bG[k]:Int)):=by
 unfold uY;rw[LQ (by rw[nJ];exact h),P8 _ _ h]
theorem Ma(bG:List Nat)(vpl:tV)(h:bG.length=256):(uY bG vpl)[256]?=some vpl:=by
 unfold uY;rw[LS (by rw[nJ,h];exact lR),nJ,h];rfl
theorem Gx(bG:List Nat)(vpl:tV)(k x:Nat)(h:k<bG.length):(uY bG vpl).set k (.int .i64 (x:Int))=uY (bG.set k x) vpl:=by
 unfold uY;rw[List.set_append_left _ _ (by rw[nJ];exact h)];simp[pA,List.map_set]
theorem Ku(bG:List Nat)(vpl u:tV)(h:bG.length=256):(uY bG vpl).set 256 u=uY bG u:=by
 unfold uY;rw[List.set_append_right _ _ (by rw[nJ,h];exact lR),nJ,h];rfl
theorem z5(P:List Int)(x:Int):jT P x<=P.length:=by
 by_cases h:x∈P
 ·exact MU (Ci h)
 ·rw[Bm h];exact lR
abbrev qQ:=Int×Int×Bool
def nC(p:qQ):List tV:= [.int .i64 p.1,.int .i64 p.2.1,.bool p.2.2]
def qP:qQ:=(0,0,false)
def F6(w:tW)(g:Nat)(aV:List (Int×Int×Int)):Prop:=∀k x,aV[k]?=some x->w.rangeAt g (k*3) [.int .i64 x.1,.int .i64 x.2.1,.int .i64 x.2.2]
theorem F6.below{w w':tW}(h:F6 w g aV)(C:Below B w w')(hg:g<B):F6 w' g aV:=λ k x o=>fY (h k x o) (C.block g hg)
def Ix(aV:List (Int×Int×Int)):Prop:=∀(k:Nat)(x:Int×Int×Int),aV[k]?=some x->0<=x.1/\x.1<=5/\(x.1=0->0<=x.2.1/\x.2.1<10)/\(x.1≠0->0<=x.2.1/\x.2.1<k/\0<=x.2.2/\x.2.2<k)
def oV(ps:Nat->qQ)(x:Int×Int×Int)(aG:Nat->Int):qQ×(Nat->Int):=
 if x.1=0 then oL x.1 x.2.1 qP qP aG else oL x.1 x.2.1 (ps x.2.1.toNat) (ps x.2.2.toNat) aG
def jJ:List (Int×Int×Int)->Nat->(Nat->qQ)->(Nat->Int)->(Nat->qQ)×(Nat->Int)
 | [],_,ps,aG=>(ps,aG)
 | x::l,k,ps,aG=>jJ l (k+1) (λ i=>if i=k then(oV ps x aG).1 else ps i) (oV ps x aG).2
theorem Rh{x:Int×Int×Int}(h:aV[k]?=some x)(ps:Nat->qQ)(aG:Nat->Int):jJ (aV.drop k) k ps aG=jJ (aV.drop (k+1)) (k+1) (λ i=>if i=k then(oV ps x aG).1 else ps i) (oV ps x aG).2:=by
 have e:aV.drop k=x::aV.drop (k+1):=by
  obtain⟨o,C⟩:=LG.1 h;rw[MV o,C]
 rw[e,jJ]
def vW(w:tW)(pb n:Nat)(ps:Nat->qQ):Prop:=∀j,j<n->w.rangeAt pb (j*3) (nC (ps j))/\w.there pb (j*3) 3
theorem vW.block{w w':tW}{ps:Nat->qQ}(h:vW w pb n ps)(o:w'.heap[pb]?=w.heap[pb]?):vW w' pb n ps:=λ j C=>⟨fY (h j C).1 o,gK (h j C).2 o⟩
theorem vW.set{w:tW}{ps:Nat->qQ}(h:vW w pb n ps){k:Nat}(C:k<n)(p:qQ):vW (w.setCells pb (k*3) (nC p)) pb n (λ i=>if i=k then p else ps i):=λ j o=>by
 refine⟨?_,OV (h j o).2 _ _ _⟩;by_cases e:j=k
 ·subst e;simp only[aB];exact LM w pb (j*3) (nC p) (h j o).2
 ·simp only[aA e];exact World.rangeAt_setCells_apart (h j o).1 _ _ _ (.inr (by show j*3+3<=k*3\/k*3+3<=j*3;omega))
def Tz(aG:Nat->Int)(aP:Int)(G:List Int)(bB:List Int):Nat×(Nat->Nat)×(Nat->Nat->Int):=
 ((jF aG aP G).1.length,(λ s=>yK bB ((jF aG aP G).1.getD s 0)),(λ s k=>((jF aG aP G).2.getD s []).getD k 0))
def Ir(aG:Nat->Int)(aP:Int)(G:List Int)(bB:List Int):Option (List (Nat×List Int)):=
 yZ (Tz aG aP G bB).1 (Tz aG aP G bB).2.1 (Tz aG aP G bB).2.2 G.length
def xX(cs:Nat->Option (List (Nat×List Int))):Nat->Nat->List (List (Nat×List Int))->Option (List (List (Nat×List Int)))
 | 0,_,aS=>some aS
 | d+1,c,aS=>match cs c with
  | none=>none
  | some l=>xX cs d (c+1) (aS++[l])
theorem Ow{aG:Nat->Int}:∀f s S R,pZ S->R.length=s->s<=S.length->s+f=1025->(∀r∈R,r.length=G.length/\∀y∈r,y=(-1:Int)\/(0<=y/\y<(S.length:Int)))->
  pZ (oA aG aP G f s S R).1/\(oA aG aP G f s S R).2.length=(oA aG aP G f s S R).1.length/\∀r∈(oA aG aP G f s S R).2,r.length=G.length/\∀y∈r,y=(-1:Int)\/(0<=y/\y<((oA aG aP G f s S R).1.length:Int)):=by
 intro f
 induction f with
 | zero=>intro s S R o I V X D;have:=yN o;exact⟨o,by omega,D⟩
 | succ d ih=>
  intro s S R o I V X D;rw[oA];by_cases C:s<S.length
  ·rw[aB C];obtain⟨Q,Z,k3,J,U⟩:=Uc (ahead:=kZ aG aP S s) G [] S o (λ y F=>absurd F (LU));refine ih _ _ _ Q (by simp[I]) (by omega) (by omega) (λ r Y=>?_);rcases LN.1 Y with q|q
   ·refine⟨(D r q).1,λ y F=>?_⟩;rcases(D r q).2 y F with e|e
    ·exact .inl e
    ·exact .inr ⟨e.1,by omega⟩
   ·rw[LH]at q;rw[q];exact⟨by rw[J];simp,U⟩
  ·rw[aA C];exact⟨o,by simp only;omega,D⟩
theorem tU(aG:Nat->Int)(aP:Int)(G:List Int):pZ (jF aG aP G).1/\(jF aG aP G).2.length=(jF aG aP G).1.length/\∀r∈(jF aG aP G).2,r.length=G.length/\∀y∈r,y=(-1:Int)\/(0<=y/\y<((jF aG aP G).1.length:Int)):=
 Ow 1025 0 [0] [] ⟨rfl,by simp,λ x o=>by simp at o;omega⟩ rfl (by simp) rfl (λ r C=>absurd C (LU))
theorem BI(aG:Nat->Int)(aP:Int)(G:List Int)(i k:Nat)(hi:i<(jF aG aP G).1.length)(J:k<G.length):
  ((jF aG aP G).2.getD i []).getD k 0= -1\/(0<=((jF aG aP G).2.getD i []).getD k 0/\((jF aG aP G).2.getD i []).getD k 0<(jF aG aP G).1.length):=by
 obtain⟨_,Q,F⟩:=tU aG aP G;have C:i<(jF aG aP G).2.length:=by omega
 obtain⟨U,D⟩:=F _ (LZ C);have e:(jF aG aP G).2.getD i []=(jF aG aP G).2[i]:=by rw[LC,LD C];rfl
 rw[e];have o:k<((jF aG aP G).2[i]).length:=by omega
 have I:((jF aG aP G).2[i]).getD k 0=((jF aG aP G).2[i])[k]:=by rw[LC,LD o];rfl
 rw[I];exact D _ (LZ o)
section
def sH(tr:Nat->Nat->Int):Nat->List Nat->Option Nat
 | p,[]=>some p
 | p,b::w=>if tr p b= -1 then none else sH tr (tr p b).toNat w
def jM(mk:Nat->Nat)(tr:Nat->Nat->Int)(p:Nat)(w:List Nat):Nat:=match sH tr p w with
 | none=>0
 | some q=>mk q
def lF(L:Nat)(w:List Nat):Prop:=∀b∈w,b<L
theorem R2(tr:Nat->Nat->Int):∀(u v:List Nat)(p:Nat),sH tr p (u++v)=match sH tr p u with
  | none=>none
  | some q=>sH tr q v
 | [],v,p=>rfl
 | b::u,v,p=>by
  rw[NE,sH,sH];by_cases h:tr p b= -1
  ·rw[aB h,aB h]
  ·rw[aA h,aA h];exact R2 tr u v _
theorem X3{tr:Nat->Nat->Int}(h:sH tr p u=some q):sH tr p (u++[b])=if tr q b= -1 then none else some (tr q b).toNat:=by
 rw[R2,h];rfl
theorem A7{mk:Nat->Nat}{tr:Nat->Nat->Int}(h:sH tr p u=some q):jM mk tr p (u++v)=jM mk tr q v:=by
 unfold jM;rw[R2,h]
theorem iT{mk:Nat->Nat}{tr:Nat->Nat->Int}(h:tr p b≠ -1):jM mk tr p (b::v)=jM mk tr (tr p b).toNat v:=by
 unfold jM;rw[sH,aA h]
theorem lS{mk:Nat->Nat}{tr:Nat->Nat->Int}(h:tr p b= -1):jM mk tr p (b::v)=0:=by
 unfold jM;rw[sH,aB h]
theorem Zq(mk:Nat->Nat)(tr:Nat->Nat->Int)(p:Nat):jM mk tr p []=mk p:=rfl
theorem zX(h:lF L u)(k:lF L v):lF L (u++v):=λ b C=>by
 rcases LN.1 C with o|o
 ·exact h b o
 ·exact k b o
theorem Mb(h:b<L):lF L [b]:=λ c o=>by rw[LH]at o;rw[o];exact h
theorem pL(h:b<L)(k:lF L v):lF L (b::v):=λ c C=>by
 rcases NR.1 C with o|o
 ·rw[o];exact h
 ·exact k c o
theorem wK(L:Nat):lF L []:=λ _ h=>absurd h LU
structure oT(n L:Nat)(tr:Nat->Nat->Int):Prop where
 pos:0<n
 rng:∀p b,p<n->b<L->tr p b= -1\/(0<=tr p b/\tr p b<(n:Int))
structure Gg(n L:Nat)(tr:Nat->Nat->Int):Prop where
 d1:∀p b q:Nat,p<n->b<L->0<q->(q:Int)<=tr p b->∃p' b':Nat,b'<L/\(p'<p\/(p'=p/\b'<=b))/\tr p' b'=(q:Int)
 d2:∀q:Nat,0<q->q<n->∃p b:Nat,p<q/\b<L/\tr p b=(q:Int)
def Ck(n L:Nat)(mk:Nat->Nat)(tr:Nat->Nat->Int):Prop:=∀p b,p<n->b<L->tr p b≠ -1->∃z,lF L z/\jM mk tr (tr p b).toNat z≠0
def BP(n L:Nat)(mk:Nat->Nat)(tr:Nat->Nat->Int):Prop:=∀p q,p<n->q<n->p≠q->∃z,lF L z/\jM mk tr p z≠jM mk tr q z
structure uF(n L:Nat)(mk:Nat->Nat)(tr:Nat->Nat->Int):Prop where
 au:oT n L tr
 od:Gg n L tr
 li:Ck n L mk tr
 ap:BP n L mk tr
theorem vM{tr:Nat->Nat->Int}(h:oT n L tr):∀(w:List Nat)(p q:Nat),p<n->lF L w->sH tr p w=some q->q<n
 | [],p,q,hp,_,o=>by rw[sH]at o;injection o with o;omega
 | b::w,p,q,hp,hl,o=>by
  rw[sH]at o;by_cases e:tr p b= -1
  ·rw[aB e]at o;cases o
  ·rw[aA e]at o;rcases h.rng p b hp (hl b ML)with C|C
   ·exact absurd C e
   ·exact vM h w _ q (by omega) (λ c D=>hl c (MM _ D)) o
def tZ(L:Nat)(t1 t2:Nat->Nat->Int)(p q:Nat):Prop:=∃u,lF L u/\sH t1 0 u=some p/\sH t2 0 u=some q
section
variable {n1 n2 L:Nat}{m1 m2:Nat->Nat}{t1 t2:Nat->Nat->Int}
theorem tZ.swap(h:tZ L t1 t2 p q):tZ L t2 t1 q p:=by obtain⟨u,o,C,D⟩:=h;exact⟨u,o,D,C⟩
theorem tZ.obs(D:∀w,lF L w->jM m1 t1 0 w=jM m2 t2 0 w){p q:Nat}(h:tZ L t1 t2 p q)(z:List Nat)(I:lF L z):jM m1 t1 p z=jM m2 t2 q z:=by
 obtain⟨u,o,C,F⟩:=h;rw[<-A7 C,<-A7 F];exact D _ (zX o I)
theorem tZ.right(U:∀w,lF L w->jM m1 t1 0 w=jM m2 t2 0 w)(C:oT n2 L t2)(Y:BP n2 L m2 t2){p q o:Nat}(h:tZ L t1 t2 p q)(k:tZ L t1 t2 p o):q=o:=by
 by_cases e:q=o
 ·exact e
 ·obtain⟨u,J,Z,Q⟩:=h;obtain⟨v,v1,v2,V⟩:=k;have X:=vM C u 0 q C.pos J Q;have F:=vM C v 0 o C.pos v1 V;obtain⟨z,I,D⟩:=Y q o X F e;exact absurd ((tZ.obs U ⟨u,J,Z,Q⟩ z I).symm.trans (tZ.obs U ⟨v,v1,v2,V⟩ z I)) D
theorem tZ.left(F:∀w,lF L w->jM m1 t1 0 w=jM m2 t2 0 w)(C:oT n1 L t1)(a1:BP n1 L m1 t1){p o q:Nat}(h:tZ L t1 t2 p q)(k:tZ L t1 t2 o q):p=o:=
 tZ.right (λ w D=>(F w D).symm) C a1 h.swap k.swap
theorem tZ.step(Z:∀w,lF L w->jM m1 t1 0 w=jM m2 t2 0 w)(U:oT n1 L t1)(l1:Ck n1 L m1 t1){p q b:Nat}(h:tZ L t1 t2 p q)(I:b<L)(C:t1 p b≠ -1):
  t2 q b≠ -1/\tZ L t1 t2 (t1 p b).toNat (t2 q b).toNat:=by
 obtain⟨u,D,J,Q⟩:=h;have X:=vM U u 0 p U.pos D J;obtain⟨z,Y,F⟩:=l1 p b X I C;have o:=tZ.obs Z ⟨u,D,J,Q⟩ (b::z) (pL I Y);rw[iT C]at o;have V:t2 q b≠ -1:=λ e=>by rw[lS e]at o;exact F o
 refine⟨V,u++[b],zX D (Mb I),?_,?_⟩
 ·rw[X3 J,aA C]
 ·rw[X3 Q,aA V]
theorem Tb(P:Nat->Nat->Prop):∀(p b:Nat),P p b->∃D o,P D o/\(D<p\/(D=p/\o<=b))/\∀x y,(x<D\/(x=D/\y<o))->¬P x y:=by
 have X:∀(q:Nat),(∀x y,x<q->¬P x y)->∀b,P q b->∃o,P q o/\o<=b/\∀y,y<o->¬P q y:=by
  intro q _ b
  induction b using OQ with
  | ind b ih=>
   intro h;by_cases e:∃y,y<b/\P q y
   ·obtain⟨y,Q,C⟩:=e;obtain⟨o,F,V,J⟩:=ih y Q C;exact⟨o,F,by omega,J⟩
   ·exact⟨b,h,lR,λ y Q C=>e ⟨y,Q,C⟩⟩
 intro p
 induction p using OQ with
 | ind p ih=>
  intro b h;by_cases e:∃x y,x<p/\P x y
  ·obtain⟨x,y,I,C⟩:=e;obtain⟨D,o,F,V,J⟩:=ih x I y C;exact⟨D,o,F,.inl (by omega),J⟩
  ·obtain⟨o,F,V,J⟩:=X p (λ x y I C=>e ⟨x,y,I,C⟩) b h;refine⟨p,o,F,.inr ⟨rfl,V⟩,λ x y U C=>?_⟩;rcases U with I|⟨rfl,Q⟩
   ·exact e ⟨x,y,I,C⟩
   ·exact J y Q C
theorem T1(Y:uF n1 L m1 t1)(Q:uF n2 L m2 t2)(hs:∀w,lF L w->jM m1 t1 0 w=jM m2 t2 0 w):∀p,p<n1->tZ L t1 t2 p p:=by
 intro p
 induction p using OQ with
 | ind p ih=>
  intro hp;by_cases h0:p=0
  ·subst h0;exact⟨[],wK L,rfl,rfl⟩
  ·obtain⟨x,y,hx,hy,bM⟩:=Y.od.d2 p (by omega) hp;obtain⟨D,b,⟨X,aT⟩,eN,V⟩:=Tb (λ x y=>y<L/\t1 x y=(p:Int)) x y ⟨hy,bM⟩;have aR:D<p:=by omega
   have r1:=ih D aR (by omega);have bK:t1 D b≠ -1:=by rw[aT];omega
   obtain⟨cP,C⟩:=tZ.step hs Y.au Y.li r1 X bK;rw[aT]at C;simp only[MJ]at C;have U:D<n2:=by obtain⟨u,u1,u2,u3⟩:=r1;exact vM Q.au u 0 D Q.au.pos u1 u3
   have bS:=Q.au.rng D b U X;generalize hq:(t2 D b).toNat=q at C;have cN:t2 D b=(q:Int):=by rcases bS with h|h<;>omega
   rcases NY q p with F|F|F
   ·have:=tZ.left hs Y.au Y.ap C (ih q F (by omega));omega
   ·subst F;exact C
   ·obtain⟨J,b2,I,bT,Z⟩:=Q.od.d1 D b p U X (by omega) (by omega);have eM:¬(J=D/\b2=b):=by rintro⟨rfl,rfl⟩;omega
    have aL:J<p:=by omega
    have r2:=ih J aL (by omega);have bC:t2 J b2≠ -1:=by rw[Z];omega
    obtain⟨eL,o⟩:=tZ.step (λ w hw=>(hs w hw).symm) Q.au Q.li r2.swap I bC;rw[Z]at o;simp only[MJ]at o;have bO:=Y.au.rng J b2 (by omega) I;generalize hq3:(t1 J b2).toNat=p3 at o;have aO:t1 J b2=(p3:Int):=by rcases bO with h|h<;>omega
    rcases NY p3 p with h3|h3|h3
    ·have:=tZ.left (λ w hw=>(hs w hw).symm) Q.au Q.ap o (ih p3 h3 (by omega)).swap;omega
    ·subst h3;exact absurd ⟨I,aO⟩ (V J b2 (by omega))
    ·obtain⟨p4,b4,aW,cF,bN⟩:=Y.od.d1 J b2 p (by omega) I (by omega) (by omega);exact absurd ⟨aW,bN⟩ (V p4 b4 (by omega))
theorem M1(F:uF n1 L m1 t1)(C:uF n2 L m2 t2)(I:∀w,lF L w->jM m1 t1 0 w=jM m2 t2 0 w):
  n1=n2/\(∀p,p<n1->m1 p=m2 p)/\∀p b,p<n1->b<L->t1 p b=t2 p b:=by
 have o:=T1 F C I;have V:=T1 C F (λ w hw=>(I w hw).symm);have aL:∀p,p<n1->p<n2:=λ p D=>by obtain⟨u,X,_,Z⟩:=o p D;exact vM C.au u 0 p C.au.pos X Z
 have aO:∀p,p<n2->p<n1:=λ p D=>by obtain⟨u,X,_,Z⟩:=V p D;exact vM F.au u 0 p F.au.pos X Z
 have hn:n1=n2:=by
  have:=F.au.pos;have:=C.au.pos;have a:=aL (n1-1) (by omega);have b:=aO (n2-1) (by omega);omega
 refine⟨hn,λ p D=>tZ.obs I (o p D) [] (wK L),λ p b D Q=>?_⟩;by_cases e:t1 p b= -1
 ·by_cases Y:t2 p b= -1
  ·rw[e,Y]
  ·exact absurd e (tZ.step (λ w hw=>(I w hw).symm) C.au C.li (o p D).swap Q Y).1
 ·obtain⟨Y,U⟩:=tZ.step I F.au F.li (o p D) Q e;have J:=F.au.rng p b D Q;have aR:=C.au.rng p b (by omega) Q;have:=tZ.right I C.au C.ap U (o (t1 p b).toNat (by rcases J with h|h<;>omega));rcases J with h|h<;>rcases aR with k|k<;>omega
end
end
section
theorem C9{q:Nat->Nat->Bool}{l:List Nat}:∀d,d<=l.length->gW q l s d=l.length->∀f,l.length-d<=f->f<l.length->q (l.getD f 0) s=false:=by
 intro d
 induction d with
 | zero=>intro _ _ f D C;omega
 | succ k ih=>
  intro F h f D C;rw[gW]at h;by_cases o:q (l.getD (l.length-(k+1)) 0) s=true
  ·rw[aB o]at h;omega
  ·rw[aA o]at h;by_cases e:f=l.length-(k+1)
   ·rw[e];simpa using o
   ·exact ih (by omega) h f (by omega) C
structure PJ(q:Nat->Nat->Bool)(s:Nat)(aK aN:List Nat):Prop where
 pi:PI q s aK aN
 le:∀x,x<s->aN.getD (aK.getD x 0) 0<=x
 mono:∀f f',f<f'->f'<aN.length->aN.getD f 0<aN.getD f' 0
 no:∀f f',f<f'->f'<aN.length->q (aN.getD f 0) (aN.getD f' 0)=false
 zero:0<s->0<aN.length/\aN.getD 0 0=0
theorem Cv{q:Nat->Nat->Bool}:∀d s aK aN,PJ q s aK aN->(kH q d s aK aN).2.length<=100->PJ q (s+d) (kH q d s aK aN).1 (kH q d s aK aN).2:=by
 intro d
 induction d with
 | zero=>intro s aK aN h _;exact h
 | succ k ih=>
  intro s aK aN h J;have V:=Hi (q:=q) 1 s aK aN h.pi;rw[kH]at J ⊢;have D:=h.pi.len;by_cases U:gW q aN s aN.length=aN.length
  ·rw[aB U]at J ⊢;have Y:=C9 (q:=q) (l:=aN) (s:=s) aN.length lR U;by_cases C:100<aN.length+1
   ·rw[aB C]at J;simp at J;omega
   ·rw[aA C]at J ⊢;rw[show s+(k+1)=s+1+k by omega];have I:PI q (s+1) (aK++[aN.length]) (aN++[s]):=by
     have:=V (by rw[kH,aB U,aA C,kH];simp;omega);rw[kH,aB U,aA C,kH]at this;exact this
    refine ih (s+1) _ _ ⟨I,λ x hx=>?_,λ f f' o Q=>?_,λ f f' o Q=>?_,λ _=>?_⟩ J
    ·by_cases e:x=s
     ·subst e;rw[show(aK++[aN.length]).getD x 0=aN.length by have:= @jD aK aN.length;rw[D]at this;exact this,jD];exact lR
     ·have F:x<s:=by omega
      rw[gV (l:=aK) (by rw[D];exact F),gV (h.pi.cl x F).1];exact h.le x F
    ·simp at Q;by_cases e:f'=aN.length
     ·subst e;rw[jD,gV o];exact(h.pi.rep f o).1
     ·rw[gV (by omega),gV (by omega)];exact h.mono f f' o (by omega)
    ·simp at Q;by_cases e:f'=aN.length
     ·subst e;rw[jD,gV o];exact Y f (by omega) o
     ·rw[gV (by omega),gV (by omega)];exact h.no f f' o (by omega)
    ·refine⟨by simp,?_⟩;by_cases e:s=0
     ·subst e;have:aN=[]:=by
       cases aN with
       | nil=>rfl
       | cons a r=>have:=(h.pi.rep 0 (by simp)).1;omega
      rw[this];rfl
     ·have:=h.zero (by omega);rw[gV this.1];exact this.2
  ·rw[aA U]at J ⊢;rw[show s+(k+1)=s+1+k by omega];have X:gW q aN s aN.length<aN.length:=by have:=tF q aN s aN.length;omega
   have I:PI q (s+1) (aK++[gW q aN s aN.length]) aN:=by
    have:=Ho q k (s+1) (aK++[gW q aN s aN.length]) aN;have Z:aN.length<=100:=by
     have hg:∀d s aK aN,aN.length<=(kH q d s aK aN).2.length:=by
      intro d
      induction d with
      | zero=>intro s aK aN;exact lR
      | succ j ihj=>
       intro s aK aN;rw[kH];split
       ·split
        ·simp
        ·have:=ihj (s+1) (aK++[aN.length]) (aN++[s]);simp at this;omega
       ·exact ihj _ _ _
     have:=hg k (s+1) (aK++[gW q aN s aN.length]) aN;omega
    have:=V (by rw[kH,aA U,kH];exact Z);rw[kH,aA U,kH]at this;exact this
   refine ih (s+1) _ _ ⟨I,λ x hx=>?_,h.mono,h.no,λ _=>?_⟩ J
   ·by_cases e:x=s
    ·subst e;rw[show(aK++[gW q aN x aN.length]).getD x 0=gW q aN x aN.length by have:= @jD aK (gW q aN x aN.length);rw[D]at this;exact this];exact MU (h.pi.rep _ X).1
    ·have F:x<s:=by omega
     rw[gV (by rw[D];exact F)];exact h.le x F
   ·have:0<s:=by have:=(h.pi.rep _ X).1;omega
    exact h.zero this
theorem BE{q:Nat->Nat->Bool}(h:(kX n q).2.length<=100):PJ q n (kX n q).1 (kX n q).2:=by
 have:=Cv (q:=q) n 0 [] [] ⟨⟨rfl,λ x C=>by omega,λ f o=>by simp at o⟩,λ x C=>by omega,λ f f' _ o=>by simp at o,λ f f' _ o=>by simp at o,λ h=>by omega⟩ h;rw[LR]at this;exact this
theorem PJ.part{q:Nat->Nat->Bool}{aK aN:List Nat}(h:PJ q s aK aN)(J:∀x,q x x=true)(I:∀x y,q x y=true->q y x=true)(F:∀x y z,q x y=true->q y z=true->q x z=true){x y:Nat}(Q:x<s)(V:y<s):
  aK.getD x 0=aK.getD y 0↔q x y=true:=by
 have D:q (aN.getD (aK.getD x 0) 0) x=true:=by
  rcases(h.pi.cl x Q).2 with e|e
  ·rw[e];exact J x
  ·exact e
 have U:q (aN.getD (aK.getD y 0) 0) y=true:=by
  rcases(h.pi.cl y V).2 with e|e
  ·rw[e];exact J y
  ·exact e
 constructor
 ·intro e;rw[e]at D;exact F _ _ _ (I _ _ D) U
 ·intro e;have C:=F _ _ _ (F _ _ _ D e) (I _ _ U);rcases NY (aK.getD x 0) (aK.getD y 0)with o|o|o
  ·have:=h.no _ _ o (h.pi.cl y V).1;rw[C]at this;cases this
  ·exact o
  ·have:=h.no _ _ o (h.pi.cl x Q).1;rw[I _ _ C]at this;cases this
def sY(tk:Nat->Nat)(nx:Nat->Nat->Int)(K:Nat):Nat->Nat->Nat->Prop
 | 0,_,_=>True
 | r+1,s,t=>sY tk nx K r s t/\tk s=tk t/\∀g,g<K->(nx s g= -1↔nx t g= -1)/\(nx s g≠ -1->sY tk nx K r (nx s g).toNat (nx t g).toNat)
section
variable {tk:Nat->Nat}{nx:Nat->Nat->Int}{K:Nat}
theorem sY.symm:∀{r s t:Nat},sY tk nx K r s t->sY tk nx K r t s
 | 0,_,_,_=>trivial
 | _+1,_,_,h=>⟨sY.symm h.1,h.2.1.symm,λ g hg=>⟨(h.2.2 g hg).1.symm,λ e=>sY.symm ((h.2.2 g hg).2 (λ o=>e ((h.2.2 g hg).1.1 o)))⟩⟩
theorem sY.trans:∀{r s t u:Nat},sY tk nx K r s t->sY tk nx K r t u->sY tk nx K r s u
 | 0,_,_,_,_,_=>trivial
 | _+1,_,_,_,h,k=>⟨sY.trans h.1 k.1,h.2.1.trans k.2.1,λ g hg=>⟨(h.2.2 g hg).1.trans (k.2.2 g hg).1,λ e=>sY.trans ((h.2.2 g hg).2 e) ((k.2.2 g hg).2 (λ o=>e ((h.2.2 g hg).1.2 o)))⟩⟩
theorem Ya(F:∀s g,s<n->g<K->nx s g= -1\/(0<=nx s g/\nx s g<(n:Int))){bA:List Nat}{r:Nat}(I:∀s t,s<n->t<n->(bA.getD s 0=bA.getD t 0↔sY tk nx K r s t)){s t:Nat}(U:s<n)(J:t<n):
  iS (iY bA) tk nx K s t=true↔sY tk nx K (r+1) s t:=by
 have C:∀g,g<K->(pG (iY bA) (nx s g)=pG (iY bA) (nx t g)↔((nx s g= -1↔nx t g= -1)/\(nx s g≠ -1->sY tk nx K r (nx s g).toNat (nx t g).toNat))):=λ g hg=>by
  unfold pG iY;by_cases o:nx s g= -1<;>by_cases D:nx t g= -1
  ·rw[aB o,aB D];simp[o,D]
  ·rw[aB o,aA D];simp only[o,D];constructor
   ·intro h;omega
   ·intro h;exact absurd (h.1.1 trivial) id
  ·rw[aA o,aB D];simp only[o,D];constructor
   ·intro h;omega
   ·intro h;exact absurd (h.1.2 trivial) id
  ·rw[aA o,aA D];have Z:=F s g U hg;have Y:=F t g J hg;have:=I (nx s g).toNat (nx t g).toNat (by omega) (by omega);constructor
   ·intro h;exact⟨by simp[o,D],λ _=>this.1 (by omega)⟩
   ·intro h;have:=this.2 (h.2 o);omega
 unfold iS Bw;simp only[NM,aE];rw[show iY bA s=((bA.getD s 0:Nat):Int) from rfl,show iY bA t=((bA.getD t 0:Nat):Int) from rfl];constructor
 ·rintro⟨X,Q,V⟩;exact⟨(I s t U J).1 (by omega),Q,λ g hg=>(C g hg).1 (V g hg)⟩
 ·rintro⟨X,Q,V⟩;exact⟨by have:=(I s t U J).2 X;omega,Q,λ g hg=>(C g hg).2 (V g hg)⟩
end
theorem y7(k:Nat)(g:Nat->Nat)(U:∀y,y<k->∃x,x<k/\g x=y)(_hg:∀x,x<k->g x<k):∀i j,i<k->j<k->g i=g j->i=j:=by
 intro i j hi hj he;by_cases e:i=j
 ·exact e
 ·exfalso;have V:∃h:Nat->Nat,∀y,y<k->h y<k/\g (h y)=y:=⟨λ y=>if D:y<k then Classical.choose (U y D)else 0,λ y D=>by simp only[dif_pos D];exact Classical.choose_spec (U y D)⟩
  obtain⟨h,J⟩:=V;obtain⟨I,aL,o⟩:∃I,I<k/\∀y,y<k->h y≠I:=by
   by_cases e1:h (g i)=i
   ·refine⟨j,hj,λ y D F=>?_⟩;have Z:y=g i:=by rw[<-(J y D).2,F,he]
    rw[Z,e1]at F;exact e F
   ·refine⟨i,hi,λ y D F=>?_⟩;have Z:y=g i:=by rw[<-(J y D).2,F]
    rw[Z]at F;exact e1 F
  have:=Oy (k-1) k (λ y=>if h y<I then h y else h y-1) (λ y D=>by
   have h1:=(J y D).1;have h2:=o y D;by_cases c:h y<I
   ·simp only[aB c];omega
   ·simp only[aA c];omega) (λ a b ha hb C=>by
   have a1:=o a ha;have b1:=o b hb;have Q:h a=h b:=by
    by_cases X:h a<I<;>by_cases Y:h b<I
    ·simp only[aB X,aB Y]at C;exact C
    ·simp only[aB X,aA Y]at C;omega
    ·simp only[aA X,aB Y]at C;omega
    ·simp only[aA X,aA Y]at C;omega
   rw[<-(J a ha).2,<-(J b hb).2,Q])
  omega
structure kG(n:Nat)(tk:Nat->Nat)(nx:Nat->Nat->Int)(K:Nat)(aK aN:List Nat)(r:Nat):Prop where
 pj:∃q,PJ q n aK aN
 few:aN.length<=100
 rd:r<=aN.length
 cls:∀s t,s<n->t<n->(aK.getD s 0=aK.getD t 0↔sY tk nx K r s t)
 stb:∀s t,s<n->t<n->sY tk nx K r s t->sY tk nx K (r+1) s t
def GJ(n:Nat)(tk:Nat->Nat)(nx:Nat->Nat->Int)(K:Nat):Prop:=∃(f:Nat->Nat)(r:Nat),(∀i,i<101->f i<n)/\∀i j,i<101->j<101->i≠j->¬sY tk nx K r (f i) (f j)
theorem Jz(o:Nat->Int)(tk:Nat->Nat)(nx:Nat->Nat->Int)(K x:Nat):iS o tk nx K x x=true:=by
 unfold iS Bw;simp
theorem Ld{o:Nat->Int}{tk:Nat->Nat}{nx:Nat->Nat->Int}{x y:Nat}(h:iS o tk nx K x y=true):iS o tk nx K y x=true:=by
 unfold iS Bw at*;simp only[NM,aE]at*;exact⟨h.1.symm,h.2.1.symm,λ g hg=>(h.2.2 g hg).symm⟩
theorem Il{o:Nat->Int}{tk:Nat->Nat}{nx:Nat->Nat->Int}{x y z:Nat}(h:iS o tk nx K x y=true)(k:iS o tk nx K y z=true):iS o tk nx K x z=true:=by
 unfold iS Bw at*;simp only[NM,aE]at*;exact⟨h.1.trans k.1,h.2.1.trans k.2.1,λ g hg=>(h.2.2 g hg).trans (k.2.2 g hg)⟩
theorem Sc{q:Nat->Nat->Bool}:∀d s aK aN,PJ q s aK aN->aN.length<=100->100<(kH q d s aK aN).2.length->
  ∃f:Nat->Nat,(∀i,i<101->f i<s+d)/\∀i j,i<j->j<101->q (f i) (f j)=false:=by
 intro d
 induction d with
 | zero=>intro s aK aN _ Q F;rw[kH]at F;simp only at F;omega
 | succ k ih=>
  intro s aK aN h I J;by_cases C:gW q aN s aN.length=aN.length
  ·have U:=C9 (q:=q) (l:=aN) (s:=s) aN.length lR C;by_cases o:100<aN.length+1
   ·have e:aN.length=100:=by omega
    refine⟨λ i=>if i<100 then aN.getD i 0 else s,λ i hi=>?_,λ i j V D=>?_⟩
    ·simp only;split
     ·have:=(h.pi.rep i (by omega)).1;omega
     ·omega
    ·simp only[aB (show i<100 by omega)];split
     ·exact h.no i j V (by omega)
     ·exact U i (by omega) (by omega)
   ·have D:=Cv 1 s aK aN h (by rw[kH,aB C,aA o,kH];simp;omega);rw[kH,aB C,aA o,kH]at D;rw[kH,aB C,aA o]at J;obtain⟨f,Q,F⟩:=ih (s+1) _ _ D (by simp;omega) J;exact⟨f,λ i hi=>by have:=Q i hi;omega,F⟩
  ·have D:=Cv 1 s aK aN h (by rw[kH,aA C,kH];exact I);rw[kH,aA C,kH]at D;rw[kH,aA C]at J;obtain⟨f,Q,F⟩:=ih (s+1) _ _ D I J;exact⟨f,λ i hi=>by have:=Q i hi;omega,F⟩
theorem Pn{tk:Nat->Nat}{nx:Nat->Nat->Int}(hn:0<n)(aO:∀s g,s<n->g<K->nx s g= -1\/(0<=nx s g/\nx s g<(n:Int))):∀(f:Nat)(bA:List Nat)(o r:Nat),
  (∀s t,s<n->t<n->(bA.getD s 0=bA.getD t 0↔sY tk nx K r s t))->r<=o->o<=100->101<=f+o->(o=0->r=0)->(0<o->Ba n bA o/\∀s,s<n->bA.getD s 0<o)->
  (∀x,tQ n tk nx K f bA o=some x->∃r',kG n tk nx K x.1 x.2 r')/\(tQ n tk nx K f bA o=none->GJ n tk nx K):=by
 intro f
 induction f with
 | zero=>intro bA o r _ _ h1 h2;omega
 | succ k ih=>
  intro bA o r hp hr hc hf h0 aR;rw[tQ];have hq:∀s t,s<n->t<n->(iS (iY bA) tk nx K s t=true↔sY tk nx K (r+1) s t):=λ s t C I=>Ya aO hp C I
  by_cases Q:100<(kX n (iS (iY bA) tk nx K)).2.length
  ·rw[aB Q];refine⟨λ x Z=>(by cases Z),λ _=>?_⟩;obtain⟨g,g1,g2⟩:=Sc (q:=iS (iY bA) tk nx K) n 0 [] [] ⟨⟨rfl,λ x Z=>by omega,λ f hf=>by simp at hf⟩,λ x Z=>by omega,λ f f' _ hf=>by simp at hf,λ f f' _ hf=>by simp at hf,λ h=>by omega⟩ (by simp) Q;refine⟨g,r+1,λ i hi=>by have:=g1 i hi;omega,λ i j hi hj aW X=>?_⟩;have gi:g i<n:=by have:=g1 i hi;omega
   have gj:g j<n:=by have:=g1 j hj;omega
   rcases OZ aW with U|U
   ·have:=g2 i j U hj;rw[(hq _ _ gi gj).2 X]at this;cases this
   ·have:=g2 j i U hi;rw[(hq _ _ gj gi).2 X.symm]at this;cases this
  ·rw[aA Q];have J:=BE (n:=n) (q:=iS (iY bA) tk nx K) (by omega);have D:∀s t,s<n->t<n->((kX n (iS (iY bA) tk nx K)).1.getD s 0=(kX n (iS (iY bA) tk nx K)).1.getD t 0↔sY tk nx K (r+1) s t):=λ s t C I=>
    (J.part (Jz _ _ _ _) (λ _ _ h=>Ld h) (λ _ _ _ h k=>Il h k) C I).trans (hq s t C I)
   have bC:0<(kX n (iS (iY bA) tk nx K)).2.length:=(J.zero hn).1;have V:=λ s (C:s<n)=>(J.pi.cl s C).1
   generalize hP:kX n (iS (iY bA) tk nx K)=P at*;by_cases X:P.2.length=o
   ·rw[aB X];refine⟨λ x Z=>?_,λ h=>(by cases h)⟩;injection Z with Z;subst Z;obtain⟨ho,U⟩:=aR (by omega);have F:∀s,s<n->bA.getD (P.2.getD (P.1.getD s 0) 0) 0=bA.getD s 0:=λ s C=>by
     rcases(J.pi.cl s C).2 with e|e
     ·rw[e]
     ·have:=A8 e;exact this
    have aL:=y7 o (λ f=>bA.getD (P.2.getD f 0) 0) (λ y hy=>by
      obtain⟨s,C,e⟩:=ho.2 y hy;refine⟨P.1.getD s 0,by rw[<-X];exact V s C,?_⟩;rw[F s C,e]) (λ f hf=>U _ (J.pi.rep f (by omega)).1)
    have Y:∀s t,s<n->t<n->sY tk nx K r s t->sY tk nx K (r+1) s t:=λ s t C I hE=>by
     refine(D s t C I).1 (aL _ _ (by rw[<-X];exact V s C) (by rw[<-X];exact V t I) ?_);rw[F s C,F t I];exact(hp s t C I).2 hE
    exact⟨r,⟨_,J⟩,by omega,by omega,λ s t C I=>⟨λ h=>((D s t C I).1 h).1,λ h=>(D s t C I).2 (Y s t C I h)⟩,Y⟩
   ·rw[aA X];have aT:o<=P.2.length:=by
     by_cases c0:o=0
     ·omega
     ·have:=Dm (aR (by omega)).1 (λ s t h=>A8 (tk:=tk) (nx:=nx) (K:=K) h) (by rw[hP];omega);rw[hP]at this;exact this
    refine ih P.1 P.2.length (r+1) D (by omega) (by omega) (by omega) (λ h=>by omega) (λ _=>⟨?_,V⟩);have:=Q8 (n:=n) (q:=iS (iY bA) tk nx K) (by rw[hP];omega);rw[hP]at this;exact this
theorem Jp{tk:Nat->Nat}{nx:Nat->Nat->Int}(hn:0<n)(o:∀s g,s<n->g<K->nx s g= -1\/(0<=nx s g/\nx s g<(n:Int))):
  (∀x,tQ n tk nx K 102 (MD n 0) 0=some x->∃r',kG n tk nx K x.1 x.2 r')/\(tQ n tk nx K 102 (MD n 0) 0=none->GJ n tk nx K):=
 Pn hn o 102 (MD n 0) 0 0 (λ s t C D=>by simp[sY,LC,C,D]) lR (by omega) (by omega) (λ _=>rfl) (λ h=>by omega)
end
section
section
variable {n K r:Nat}{tk:Nat->Nat}{nx:Nat->Nat->Int}{aK aN:List Nat}
def KE(tk:Nat->Nat)(aN:List Nat):Nat->Nat:=λ p=>tk (aN.getD p 0)
def Gm(nx:Nat->Nat->Int)(aK aN:List Nat):Nat->Nat->Int:=λ p g=>pG (iY aK) (nx (aN.getD p 0) g)
theorem kG.more(h:kG n tk nx K aK aN r)(I:oT n K nx):∀k s t,s<n->t<n->sY tk nx K r s t->sY tk nx K k s t:=by
 intro k
 induction k with
 | zero=>intro s t _ _ _;trivial
 | succ j ih=>
  intro s t D C J;have o:=h.stb s t D C J;refine⟨ih s t D C J,o.2.1,λ g hg=>⟨(o.2.2 g hg).1,λ e=>?_⟩⟩;have Q:=I.rng s g D hg;have F:nx t g≠ -1:=λ F=>e ((o.2.2 g hg).1.2 F)
  have U:=I.rng t g C hg;exact ih _ _ (by omega) (by omega) ((o.2.2 g hg).2 e)
theorem kG.bisim(h:kG n tk nx K aK aN r)(I:oT n K nx){s t:Nat}(D:s<n)(C:t<n)(J:aK.getD s 0=aK.getD t 0):
  tk s=tk t/\∀g,g<K->(nx s g= -1↔nx t g= -1)/\(nx s g≠ -1->aK.getD (nx s g).toNat 0=aK.getD (nx t g).toNat 0):=by
 have o:=h.stb s t D C ((h.cls s t D C).1 J);refine⟨o.2.1,λ g hg=>⟨(o.2.2 g hg).1,λ e=>?_⟩⟩;have Q:=I.rng s g D hg;have F:nx t g≠ -1:=λ F=>e ((o.2.2 g hg).1.2 F)
 have U:=I.rng t g C hg;exact(h.cls _ _ (by omega) (by omega)).2 ((o.2.2 g hg).2 e)
theorem kG.obs(h:kG n tk nx K aK aN r)(o:oT n K nx):∀(z:List Nat)(s t:Nat),s<n->t<n->lF K z->aK.getD s 0=aK.getD t 0->jM tk nx s z=jM tk nx t z
 | [],s,t,hs,ht,_,he=>(h.bisim o hs ht he).1
 | b::z,s,t,hs,ht,hl,he=>by
  have C:=hl b ML;obtain⟨F,I⟩:=(h.bisim o hs ht he).2 b C;by_cases e:nx s b= -1
  ·rw[lS e,lS (F.1 e)]
  ·have D:nx t b≠ -1:=λ D=>e (F.2 D)
   have Q:=o.rng s b hs C;have U:=o.rng t b ht C;rw[iT e,iT D];exact kG.obs h o z _ _ (by omega) (by omega) (λ c J=>hl c (MM _ J)) (I e)
theorem Cj(Z:oT n K nx)(U:Ck n K tk nx):∀k s t,s<n->t<n->¬sY tk nx K k s t->∃z,lF K z/\jM tk nx s z≠jM tk nx t z:=by
 intro k
 induction k with
 | zero=>intro s t _ _ h;exact absurd trivial h
 | succ j ih=>
  intro s t J I h;by_cases V:sY tk nx K j s t
  ·by_cases X:tk s=tk t
   ·have h3:∃g,g<K/\¬((nx s g= -1↔nx t g= -1)/\(nx s g≠ -1->sY tk nx K j (nx s g).toNat (nx t g).toNat)):=by
     apply MQ;intro hc;exact h ⟨V,X,λ g hg=>MQ λ Q=>hc ⟨g,hg,Q⟩⟩
    obtain⟨g,hg,Y⟩:=h3;have r1:=Z.rng s g J hg;have r2:=Z.rng t g I hg;by_cases C:nx s g= -1<;>by_cases D:nx t g= -1
    ·exact absurd ⟨by simp[C,D],λ e=>absurd C e⟩ Y
    ·obtain⟨z,F,o⟩:=U t g I hg D;exact⟨g::z,pL hg F,by rw[lS C,iT D];exact λ e=>o e.symm⟩
    ·obtain⟨z,F,o⟩:=U s g J hg C;exact⟨g::z,pL hg F,by rw[iT C,lS D];exact o⟩
    ·have h5:¬sY tk nx K j (nx s g).toNat (nx t g).toNat:=λ hE=>Y ⟨by simp[C,D],λ _=>hE⟩
     obtain⟨z,F,o⟩:=ih _ _ (by omega) (by omega) h5;exact⟨g::z,pL hg F,by rw[iT C,iT D];exact o⟩
   ·exact⟨[],wK K,X⟩
  ·exact ih s t J I V
theorem kG.first_lt(h:kG n tk nx K aK aN r){p:Nat}(o:p<aN.length):aN.getD p 0<n/\aK.getD (aN.getD p 0) 0=p:=by
 obtain⟨q,C⟩:=h.pj;exact C.pi.rep p o
theorem kG.fin_lt(h:kG n tk nx K aK aN r){s:Nat}(C:s<n):aK.getD s 0<aN.length:=by
 obtain⟨q,o⟩:=h.pj;exact(o.pi.cl s C).1
theorem kG.first_le(h:kG n tk nx K aK aN r){s:Nat}(C:s<n):aN.getD (aK.getD s 0) 0<=s:=by
 obtain⟨q,o⟩:=h.pj;exact o.le s C
theorem kG.mono(h:kG n tk nx K aK aN r){p q:Nat}(o:p<q)(D:q<aN.length):aN.getD p 0<aN.getD q 0:=by
 obtain⟨F,C⟩:=h.pj;exact C.mono p q o D
theorem kG.mono_le(h:kG n tk nx K aK aN r){p q:Nat}(C:p<=q)(o:q<aN.length):aN.getD p 0<=aN.getD q 0:=by
 by_cases e:p=q
 ·rw[e];exact lR
 ·exact MU (h.mono (by omega) o)
theorem kG.zero(h:kG n tk nx K aK aN r)(hn:0<n):0<aN.length/\aN.getD 0 0=0:=by
 obtain⟨q,o⟩:=h.pj;exact o.zero hn
theorem sO(h:nx (aN.getD p 0) g= -1):Gm nx aK aN p g= -1:=by unfold Gm pG;rw[aB h]
theorem sM(h:nx (aN.getD p 0) g≠ -1):Gm nx aK aN p g=((aK.getD (nx (aN.getD p 0) g).toNat 0:Nat):Int):=by unfold Gm pG iY;rw[aA h]
theorem kG.qobs(h:kG n tk nx K aK aN r)(F:oT n K nx):∀(z:List Nat)(p:Nat),p<aN.length->lF K z->jM (KE tk aN) (Gm nx aK aN) p z=jM tk nx (aN.getD p 0) z
 | [],p,_,_=>rfl
 | b::z,p,hp,hl=>by
  have Q:=hl b ML;have U:=(h.first_lt hp).1;by_cases e:nx (aN.getD p 0) b= -1
  ·rw[lS e,lS (sO e)]
  ·have V:=F.rng _ b U Q;have C:(nx (aN.getD p 0) b).toNat<n:=by omega
   have I:=sM (aK:=aK) e;have D:Gm nx aK aN p b≠ -1:=by rw[I];omega
   have o:lF K z:=λ c J=>hl c (MM _ J)
   rw[iT e,iT D,I];simp only[MJ];rw[kG.qobs h F z _ (h.fin_lt C) o];exact h.obs F z _ _ (h.first_lt (h.fin_lt C)).1 C o (h.first_lt (h.fin_lt C)).2
theorem kG.occ(h:kG n tk nx K aK aN r)(ha:oT n K nx)(ho:Gg n K nx){q s g:Nat}(hq:q<aN.length)(aO:0<q)(hs:s<n)(hg:g<K)(he:nx s g=((aN.getD q 0:Nat):Int)):
  ∃p o,o<K/\p<aN.length/\(aN.getD p 0<s\/(aN.getD p 0=s/\o<=g))/\Gm nx aK aN p o=(q:Int):=by
 have Z:0<aN.getD q 0:=by
  have:=h.mono aO hq;omega
 obtain⟨I,o,⟨F,X⟩,aW,U⟩:=Tb (λ x y=>y<K/\nx x y=((aN.getD q 0:Nat):Int)) s g ⟨hg,he⟩;have Q:I<n:=by omega
 have bM:=h.first_le Q;have V:=h.fin_lt Q;have D:=h.first_lt V;have aT:nx I o≠ -1:=by rw[X];omega
 have hb:=(h.bisim ha D.1 Q D.2).2 o F;have J:nx (aN.getD (aK.getD I 0) 0) o≠ -1:=λ e=>aT (hb.1.1 e)
 have C:=hb.2 J;rw[X,MJ,(h.first_lt hq).2]at C;have aR:aN.getD (aK.getD I 0) 0=I:=by
  apply MQ;intro bN;have r1:=ha.rng _ o D.1 F;have hx:(nx (aN.getD (aK.getD I 0) 0) o).toNat<n:=by omega
  have bC:=h.first_le hx;rw[C]at bC;obtain⟨a,b,Y,bK,aL⟩:=ho.d1 (aN.getD (aK.getD I 0) 0) o (aN.getD q 0) D.1 F Z (by omega);exact U a b (by omega) ⟨Y,aL⟩
 refine⟨aK.getD I 0,o,F,V,by rw[aR];exact aW,?_⟩;rw[sM J,C]
theorem kG.canon(h:kG n tk nx K aK aN r)(Q:oT n K nx)(ho:Gg n K nx)(hl:Ck n K tk nx):uF aN.length K (KE tk aN) (Gm nx aK aN):=by
 have U:=h.zero Q.pos;have bO:oT aN.length K (Gm nx aK aN):=⟨U.1,λ p g o hg=>by
  have hf:=(h.first_lt o).1;by_cases e:nx (aN.getD p 0) g= -1
  ·exact .inl (sO e)
  ·right;have r1:=Q.rng _ g hf hg;have:=h.fin_lt (s:=(nx (aN.getD p 0) g).toNat) (by omega);rw[sM e];omega⟩
 have Y:∀p q,p<aN.length->q<aN.length->aN.getD p 0<aN.getD q 0->p<q:=λ p q o _ C=>by
  apply MQ;intro hc;have:=h.mono_le (p:=q) (q:=p) (by omega) o;omega
 refine⟨bO,⟨λ p b q o hb J bC=>?_,λ q J V=>?_⟩,λ p b o hb aO=>?_,λ p q o V aO=>?_⟩
 ·have hf:=(h.first_lt o).1;have e:nx (aN.getD p 0) b≠ -1:=λ e=>by rw[sO e]at bC;omega
  have r1:=Q.rng _ b hf hb;have hx:(nx (aN.getD p 0) b).toNat<n:=by omega
  rw[sM e]at bC;have bM:=h.fin_lt hx;have aW:q<aN.length:=by omega
  have h1:=h.mono_le (p:=q) (q:=aK.getD (nx (aN.getD p 0) b).toNat 0) (by omega) bM;have h2:=h.first_le hx;have h3:=h.mono J aW;obtain⟨s',g',aR,bK,aL⟩:=ho.d1 (aN.getD p 0) b (aN.getD q 0) hf hb (by omega) (by omega);obtain⟨p',Z,I,F,D,aT⟩:=h.occ Q ho aW J (by omega) aR aL;refine⟨p',Z,I,?_,aT⟩;rcases D with C|⟨cP,cF⟩
  ·exact .inl (Y p' p F o (by omega))
  ·rcases bK with C|⟨bT,bS⟩
   ·exact .inl (Y p' p F o (by omega))
   ·by_cases e3:p'=p
    ·exact .inr ⟨e3,by omega⟩
    ·exfalso;rcases OZ e3 with C|C
     ·have:=h.mono C o;omega
     ·have:=h.mono C F;omega
 ·have h3:=h.mono J V;have bN:=(h.first_lt V).1;obtain⟨s',g',cN,aR,aL⟩:=ho.d2 (aN.getD q 0) (by omega) bN;obtain⟨p',Z,I,F,D,aT⟩:=h.occ Q ho V J (by omega) aR aL;exact⟨p',Z,Y p' q F V (by omega),I,aT⟩
 ·have hf:=(h.first_lt o).1;have e:nx (aN.getD p 0) b≠ -1:=λ e=>aO (sO e)
  obtain⟨z,U,X⟩:=hl _ b hf hb e;have r1:=Q.rng _ b hf hb;have hx:(nx (aN.getD p 0) b).toNat<n:=by omega
  refine⟨z,U,?_⟩;rw[sM e,MJ,h.qobs Q z _ (h.fin_lt hx) U,h.obs Q z _ _ (h.first_lt (h.fin_lt hx)).1 hx U (h.first_lt (h.fin_lt hx)).2];exact X
 ·have fp:=h.first_lt o;have fq:=h.first_lt V;have hE:¬sY tk nx K r (aN.getD p 0) (aN.getD q 0):=λ hE=>by
   have:=(h.cls _ _ fp.1 fq.1).2 hE;rw[fp.2,fq.2]at this;exact aO this
  obtain⟨z,U,X⟩:=Cj Q hl r _ _ fp.1 fq.1 hE;exact⟨z,U,by rw[h.qobs Q z p o U,h.qobs Q z q V U];exact X⟩
theorem kG.qrounds(h:kG n tk nx K aK aN r)(ha:oT n K nx):∀k p q,p<aN.length->q<aN.length->(sY (KE tk aN) (Gm nx aK aN) K k p q↔sY tk nx K k (aN.getD p 0) (aN.getD q 0)):=by
 intro k
 induction k with
 | zero=>intro p q _ _;exact Iff.rfl
 | succ j ih=>
  intro p q J Q;have fp:=(h.first_lt J).1;have fq:=(h.first_lt Q).1;have C:∀x,x<n->sY tk nx K j (aN.getD (aK.getD x 0) 0) x:=λ x Y=>by
   have V:=h.first_lt (h.fin_lt Y);exact h.more ha j _ _ V.1 Y ((h.cls _ _ V.1 Y).1 V.2)
  have hg:∀g,g<K->(((Gm nx aK aN p g= -1↔Gm nx aK aN q g= -1)/\(Gm nx aK aN p g≠ -1->sY (KE tk aN) (Gm nx aK aN) K j (Gm nx aK aN p g).toNat (Gm nx aK aN q g).toNat))↔
    ((nx (aN.getD p 0) g= -1↔nx (aN.getD q 0) g= -1)/\(nx (aN.getD p 0) g≠ -1->sY tk nx K j (nx (aN.getD p 0) g).toNat (nx (aN.getD q 0) g).toNat))):=λ g o=>by
   have r1:=ha.rng _ g fp o;have r2:=ha.rng _ g fq o;by_cases F:nx (aN.getD p 0) g= -1<;>by_cases I:nx (aN.getD q 0) g= -1
   ·exact⟨λ _=>⟨⟨λ _=>I,λ _=>F⟩,λ h=>absurd F h⟩,λ _=>⟨⟨λ _=>sO I,λ _=>sO F⟩,λ h=>absurd (sO F) h⟩⟩
   ·have:=sM (aK:=aK) I;simp only[sO (aK:=aK) F,F,I];constructor
    ·intro D;have:=D.1.1 trivial;omega
    ·intro D;exact absurd (D.1.1 trivial) id
   ·have:=sM (aK:=aK) F;simp only[sO (aK:=aK) I,F,I];constructor
    ·intro D;have:=D.1.2 trivial;omega
    ·intro D;exact absurd (D.1.2 trivial) id
   ·have U:=sM (aK:=aK) F;have q2:=sM (aK:=aK) I;have x1:(nx (aN.getD p 0) g).toNat<n:=by omega
    have x2:(nx (aN.getD q 0) g).toNat<n:=by omega
    have hi:=ih _ _ (h.fin_lt x1) (h.fin_lt x2);have n1:Gm nx aK aN p g≠ -1:=by rw[U];omega
    have n2:Gm nx aK aN q g≠ -1:=by rw[q2];omega
    rw[U,q2,MJ,MJ];rw[U]at n1;rw[q2]at n2;constructor
    ·intro D;exact⟨⟨λ e=>absurd e F,λ e=>absurd e I⟩,λ _=>((C _ x1).symm.trans (hi.1 (D.2 n1))).trans (C _ x2)⟩
    ·intro D;exact⟨⟨λ e=>absurd e n1,λ e=>absurd e n2⟩,λ _=>hi.2 (((C _ x1).trans (D.2 F)).trans (C _ x2).symm)⟩
  constructor
  ·rintro⟨X,Z,h3⟩;exact⟨(ih p q J Q).1 X,Z,λ g o=>(hg g o).1 (h3 g o)⟩
  ·rintro⟨X,Z,h3⟩;exact⟨(ih p q J Q).2 X,Z,λ g o=>(hg g o).2 (h3 g o)⟩
theorem kG.qapart(h:kG n tk nx K aK aN r)(J:oT n K nx){p q:Nat}(C:p<aN.length)(F:q<aN.length)(o:p≠q):¬sY (KE tk aN) (Gm nx aK aN) K r p q:=λ Q=>by
 have D:=h.first_lt C;have I:=h.first_lt F;have:=(h.cls _ _ D.1 I.1).2 ((h.qrounds J r p q C F).1 Q);rw[D.2,I.2]at this;exact o this
end
end
def Vs(S:List Int)(x v:Int):Prop:=(v= -1/\(x<=0\/1024<=x))\/∃q:Nat,v=(q:Int)/\q<S.length/\S.getD q 0=x/\0<x/\x<1024
theorem Vs.more{v:Int}(h:Vs S x v)(J:S.length<=S'.length)(F:∀i,i<S.length->S'.getD i 0=S.getD i 0):Vs S' x v:=by
 rcases h with h|⟨q,C,D,I,o⟩
 ·exact .inl h
 ·exact .inr ⟨q,C,by omega,(F q D).trans I,o⟩
theorem GQ(S:List Int)(x:Int):Vs (zA S x).2 x (zA S x).1:=by
 unfold zA;split
 ·rename_i h;exact .inl ⟨rfl,h⟩
 ·rename_i h;split
  ·rename_i o;refine .inr ⟨jT S x,rfl,Ci o,?_,by omega,by omega⟩;rw[LC,V2 o];rfl
  ·refine .inr ⟨S.length,rfl,by simp,?_,by omega,by omega⟩;simp
theorem sL{α:Type}{l m:List α}{d:α}{i:Nat}(h:i<l.length):(l++m).getD i d=l.getD i d:=by
 rw[LC,LC,LQ h]
theorem rZ{α:Type}{l:List α}{x d:α}:(l++[x]).getD l.length d=x:=by
 rw[LC,LS lR];simp
theorem Y4{aG:Nat->Int}(h:S'.getD p 0=S.getD p 0):kZ aG aP S' p=kZ aG aP S p:=by unfold kZ;rw[h]
def Ar(K s j p g:Nat):Prop:=g<K/\(p<s\/(p=s/\g<j))
structure SI(aG:Nat->Int)(aP:Int)(G S:List Int)(s j:Nat)(val:Nat->Nat->Int):Prop where
 ok:pZ S
 row:∀p g,Ar G.length s j p g->p<S.length/\Vs S (nS (kZ aG aP S p) (G.getD g 0)) (val p g)
 occ:∀q,0<q->q<S.length->∃p g,Ar G.length s j p g/\p<q/\val p g=(q:Int)
 d1:∀p g,Ar G.length s j p g->∀q:Nat,0<q->(q:Int)<=val p g->∃p' g',Ar G.length s j p' g'/\(p'<p\/(p'=p/\g'<=g))/\val p' g'=(q:Int)
theorem SI.step{aG:Nat->Int}{aW o:Nat->Nat->Int}(h:SI aG aP G S s j aW)(hj:j<G.length)(hs:s<S.length)
  (hv:∀p g,Ar G.length s j p g->o p g=aW p g) (hx:o s j=(zA S (nS (kZ aG aP S s) (G.getD j 0))).1):
  SI aG aP G (zA S (nS (kZ aG aP S s) (G.getD j 0))).2 s (j+1) o:=by
 obtain⟨h1,h2,h3,h4⟩:=Jj h.ok (nS (kZ aG aP S s) (G.getD j 0));have aR:=GQ S (nS (kZ aG aP S s) (G.getD j 0));have F:∀p,p<S.length->kZ aG aP (zA S (nS (kZ aG aP S s) (G.getD j 0))).2 p=kZ aG aP S p:=λ p Y=>Y4 (h3 p Y)
 have D:∀p g,Ar G.length s (j+1) p g->Ar G.length s j p g\/(p=s/\g=j):=λ p g C=>by unfold Ar at*;omega
 have J:∀p g,Ar G.length s j p g->Ar G.length s (j+1) p g:=λ p g C=>by unfold Ar at*;omega
 have I:Ar G.length s (j+1) s j:=⟨hj,.inr ⟨rfl,by omega⟩⟩
 have aO:∀p g,Ar G.length s j p g->(p<s\/(p=s/\g<=j)):=λ p g C=>by unfold Ar at C;omega
 have X:∀q,0<q->q<S.length->∃p g,Ar G.length s (j+1) p g/\p<q/\o p g=(q:Int)/\(p<s\/(p=s/\g<=j)):=λ q U Q=>by
  obtain⟨p,g,a,b,c⟩:=h.occ q U Q;exact⟨p,g,J p g a,b,by rw[hv p g a];exact c,aO p g a⟩
 have V:∀q,0<q->q<(zA S (nS (kZ aG aP S s) (G.getD j 0))).2.length->S.length<=q->q=S.length/\o s j=(q:Int):=λ q U Q bC=>by
  rw[hx];unfold zA at Q⊢;split at Q
  ·simp only at Q;omega
  ·split at Q
   ·simp only at Q;omega
   ·rename_i e1 e2;simp at Q;rw[aA e1,aA e2];exact⟨by omega,by simp only;omega⟩
 refine⟨h1,λ p g C=>?_,λ q U Q=>?_,λ p g C q U aL=>?_⟩
 ·rcases D p g C with Y|⟨rfl,rfl⟩
  ·obtain⟨a,b⟩:=h.row p g Y;rw[hv p g Y,F p a];exact⟨by omega,b.more h2 h3⟩
  ·rw[F p hs,hx];exact⟨by omega,aR⟩
 ·by_cases Z:q<S.length
  ·obtain⟨p,g,a,b,c,_⟩:=X q U Z;exact⟨p,g,a,b,c⟩
  ·obtain⟨e1,e2⟩:=V q U Q (by omega);exact⟨s,j,I,by omega,e2⟩
 ·rcases D p g C with Y|⟨rfl,rfl⟩
  ·rw[hv p g Y]at aL;obtain⟨p',g',a,b,c⟩:=h.d1 p g Y q U aL;exact⟨p',g',J p' g' a,b,by rw[hv p' g' a];exact c⟩
  ·rw[hx]at aL;have aT:q<(zA S (nS (kZ aG aP S p) (G.getD g 0))).2.length:=by rcases h4 with e|e<;>omega
   by_cases Z:q<S.length
   ·obtain⟨p',g',a,_,c,d⟩:=X q U Z;exact⟨p',g',a,d,c⟩
   ·obtain⟨e1,e2⟩:=V q U aT (by omega);exact⟨p,g,I,.inr ⟨rfl,lR⟩,e2⟩
def V6(R:List (List Int))(aS:List Int)(s p g:Nat):Int:=if p<s then(R.getD p []).getD g 0 else aS.getD g 0
theorem FD{aG:Nat->Int}{R:List (List Int)}:∀(d j:Nat)(aS S:List Int),j+d=G.length->aS.length=j->s<S.length->ahead=kZ aG aP S s->SI aG aP G S s j (V6 R aS s)->
  SI aG aP G (wT ahead (G.drop j) aS S).2 s G.length (V6 R (wT ahead (G.drop j) aS S).1 s)/\S.length<=(wT ahead (G.drop j) aS S).2.length:=by
 intro d
 induction d with
 | zero=>
  intro j aS S Q _ _ _ h;have e:j=G.length:=by omega
  subst e;rw[OM,wT];exact⟨h,lR⟩
 | succ k ih=>
  intro j aS S Q o I J h;have C:j<G.length:=by omega
  have hg:G[j]?=some (G.getD j 0):=by rw[LC,LD C];rfl
  rw[Hl hg];obtain⟨V,X,U,Y⟩:=Jj h.ok (nS ahead (G.getD j 0));have F:SI aG aP G (zA S (nS ahead (G.getD j 0))).2 s (j+1) (V6 R (aS++[(zA S (nS ahead (G.getD j 0))).1]) s):=by
   rw[J];refine h.step C I (λ p g D=>?_) ?_
   ·unfold V6;by_cases e:p<s
    ·rw[aB e,aB e]
    ·rw[aA e,aA e,sL (by unfold Ar at D;omega)]
   ·unfold V6;rw[aA (by omega),<-o,rZ]
  have:=ih (j+1) (aS++[(zA S (nS ahead (G.getD j 0))).1]) (zA S (nS ahead (G.getD j 0))).2 (by omega) (by simp[o]) (by omega) (by rw[Y4 (U s I)];exact J) F;exact⟨this.1,by omega⟩
theorem Qr{aG:Nat->Int}:∀f s S R,R.length=s->s<=S.length->s+f=1025->(∀r∈R,r.length=G.length)->SI aG aP G S s 0 (V6 R [] s)->
  SI aG aP G (oA aG aP G f s S R).1 (oA aG aP G f s S R).1.length 0 (V6 (oA aG aP G f s S R).2 [] (oA aG aP G f s S R).1.length):=by
 intro f
 induction f with
 | zero=>
  intro s S R Y h2 h3 Z h;have:=yN h.ok;omega
 | succ d ih=>
  intro s S R Y h2 h3 Z h;rw[oA];by_cases F:s<S.length
  ·rw[aB F];obtain⟨J,k2⟩:=FD (R:=R) (s:=s) (ahead:=kZ aG aP S s) G.length 0 [] S (by omega) rfl F rfl h;rw[PO]at J k2;have I:=(Uc (ahead:=kZ aG aP S s) G [] S h.ok (λ y hy=>absurd hy (LU))).2.2.2.1;refine ih (s+1) _ _ (by simp[Y]) (by omega) (by omega) (λ r hr=>?_) ?_
   ·rcases LN.1 hr with q|q
    ·exact Z r q
    ·rw[LH]at q;rw[q,I];simp
   ·have D:∀p g,Ar G.length s G.length p g->V6 (R++[(wT (kZ aG aP S s) G [] S).1]) [] (s+1) p g=V6 R (wT (kZ aG aP S s) G [] S).1 s p g:=λ p g C=>by
     unfold V6;have hp:p<s+1:=by unfold Ar at C;omega
     rw[aB hp];by_cases e:p<s
     ·rw[aB e,sL (by omega)]
     ·rw[aA e];have e2:p=R.length:=by omega
      rw[e2,rZ]
    have o:∀p g,Ar G.length (s+1) 0 p g↔Ar G.length s G.length p g:=λ p g=>by unfold Ar;omega
    refine⟨J.ok,λ p g C=>?_,λ q V hq=>?_,λ p g C q V Q=>?_⟩
    ·rw[D p g ((o p g).1 C)];exact J.row p g ((o p g).1 C)
    ·obtain⟨p,g,a,b,c⟩:=J.occ q V hq;exact⟨p,g,(o p g).2 a,b,by rw[D p g a];exact c⟩
    ·rw[D p g ((o p g).1 C)]at Q;obtain⟨X,U,a,b,c⟩:=J.d1 p g ((o p g).1 C) q V Q;exact⟨X,U,(o X U).2 a,b,by rw[D X U a];exact c⟩
  ·rw[aA F];have e:s=S.length:=by omega
   subst e;exact h
def wW(aG:Nat->Int)(aP:Int)(G:List Int):Nat:=(jF aG aP G).1.length
def rQ(aG:Nat->Int)(aP:Int)(G:List Int)(s:Nat):Int:=(jF aG aP G).1.getD s 0
def wY(aG:Nat->Int)(aP:Int)(G:List Int)(s g:Nat):Int:=((jF aG aP G).2.getD s []).getD g 0
theorem Bs(aG:Nat->Int)(aP:Int)(G:List Int):SI aG aP G (jF aG aP G).1 (wW aG aP G) 0 (V6 (jF aG aP G).2 [] (wW aG aP G)):=by
 refine Qr 1025 0 [0] [] rfl (by simp) rfl (λ r C=>absurd C LU) ⟨⟨rfl,by simp,λ x D=>by simp at D;omega⟩,λ p g o=>?_,λ q I F=>?_,λ p g o=>?_⟩
 ·unfold Ar at o;omega
 ·simp at F;omega
 ·unfold Ar at o;omega
theorem Bd{aG:Nat->Int}(o:p<wW aG aP G):V6 (jF aG aP G).2 [] (wW aG aP G) p g=wY aG aP G p g:=by
 unfold V6 wY;rw[aB o]
theorem FS(aG:Nat->Int)(aP:Int)(G:List Int){p g:Nat}(o:p<wW aG aP G)(hg:g<G.length):
  Vs (jF aG aP G).1 (nS (if p=0 then aP else Ee aG (rQ aG aP G p)) (G.getD g 0)) (wY aG aP G p g):=by
 have h:=(Bs aG aP G).row p g ⟨hg,.inl o⟩;rw[Bd o]at h;exact h.2
theorem Bt(aG:Nat->Int)(aP:Int)(G:List Int):oT (wW aG aP G) G.length (wY aG aP G):=
 ⟨by
  have:=(tU aG aP G).1.zero;have:=(LG.1 this).1;exact this,λ p g o hg=>BI aG aP G p g o hg⟩
theorem T6(aG:Nat->Int)(aP:Int)(G:List Int):Gg (wW aG aP G) G.length (wY aG aP G):=by
 have h:=Bs aG aP G;refine⟨λ p b q I V F C=>?_,λ q F Q=>?_⟩
 ·rw[<-Bd I]at C;obtain⟨J,U,a,D,c⟩:=h.d1 p b ⟨V,.inl I⟩ q F C;have o:J<wW aG aP G:=by unfold Ar at a;omega
  exact⟨J,U,a.1,D,by rw[<-Bd o];exact c⟩
 ·obtain⟨p,g,a,D,c⟩:=h.occ q F Q;have o:p<wW aG aP G:=by unfold Ar at a;omega
  exact⟨p,g,D,a.1,by rw[<-Bd o];exact c⟩
theorem E4(a:Nat):BitVec.ofInt 64 (a:Int)=BitVec.ofNat 64 a:=by
 apply BitVec.eq_of_toNat_eq;simp[BitVec.toNat_ofNat]
theorem Kz(C:a<2 ^ 62)(o:b<2 ^ 62):nS (a:Int) (b:Int)=((a &&& b:Nat):Int):=by
 have h:(a &&& b)<2 ^ 62:=PA a o;show IntKind.i64.wrap (((BitVec.ofInt 64 (a:Int)) &&& (BitVec.ofInt 64 (b:Int))).toNat:Int)=_;rw[E4,E4,BitVec.toNat_and,BitVec.toNat_ofNat,BitVec.toNat_ofNat,OD (by omega),OD (by omega)];exact IntWalk.i64_in _ (by omega)
theorem Ti(C:a<2 ^ 62)(o:b<2 ^ 62):An (a:Int) (b:Int)=((a ||| b:Nat):Int):=by
 have h:(a ||| b)<2 ^ 62:=PE C o;show IntKind.i64.wrap (((BitVec.ofInt 64 (a:Int)) ||| (BitVec.ofInt 64 (b:Int))).toNat:Int)=_;rw[E4,E4,BitVec.toNat_or,BitVec.toNat_ofNat,BitVec.toNat_ofNat,OD (by omega),OD (by omega)];exact IntWalk.i64_in _ (by omega)
def jA(x:Int):Prop:=0<=x/\x<1024
def nP(x:Int)(p:Nat):Bool:=x.toNat.testBit p
theorem oQ(h:jA x):∃a:Nat,x=(a:Int)/\a<2 ^ 10:=⟨x.toNat,by have:=h.1;omega,by have:=h.1;have:=h.2;omega⟩
theorem sZ:jA 0:=⟨by omega,by omega⟩
theorem uO(h:jA x)(k:jA y):jA (An x y):=by
 obtain⟨a,rfl,C⟩:=oQ h;obtain⟨b,rfl,o⟩:=oQ k;rw[Ti (by omega) (by omega)];have:=PE C o;exact⟨by omega,by omega⟩
theorem Gu(h:jA x)(k:jA y):jA (nS x y):=by
 obtain⟨a,rfl,C⟩:=oQ h;obtain⟨b,rfl,o⟩:=oQ k;rw[Kz (by omega) (by omega)];have:=PA a o;exact⟨by omega,by omega⟩
theorem vA(h:jA x)(k:jA y)(p:Nat):nP (An x y) p=(nP x p||nP y p):=by
 obtain⟨a,rfl,C⟩:=oQ h;obtain⟨b,rfl,o⟩:=oQ k;rw[Ti (by omega) (by omega)];unfold nP;simp
theorem Iy(h:jA x)(k:jA y)(p:Nat):nP (nS x y) p=(nP x p&&nP y p):=by
 obtain⟨a,rfl,C⟩:=oQ h;obtain⟨b,rfl,o⟩:=oQ k;rw[Kz (by omega) (by omega)];unfold nP;simp
theorem uE(p:Nat):nP 0 p=false:=by unfold nP;simp
theorem tR(h:k<10):jA (sK k):=by
 unfold sK;have:=Nat.pow_lt_pow_right (a:=2) (by omega) h;exact⟨Int.natCast_nonneg _,Int.ofNat_lt.2 this⟩
theorem E5(k p:Nat):nP (sK k) p=decide (k=p):=by
 unfold nP sK;rw[MJ,Nat.testBit_two_pow]
theorem Tq(h:jA x){p:Nat}(o:10<=p):nP x p=false:=by
 obtain⟨a,rfl,C⟩:=oQ h;unfold nP;rw[MJ];exact Nat.testBit_lt_two_pow (LO C (Nat.pow_le_pow_right (by omega) o))
theorem DZ(h:jA x)(k:jA y)(o:∀p,nP x p=nP y p):x=y:=by
 obtain⟨a,rfl,D⟩:=oQ h;obtain⟨b,rfl,C⟩:=oQ k;have:a=b:=Nat.eq_of_testBit_eq (λ i=>by have:=o i;unfold nP at this;simpa using this);rw[this]
theorem Ji(h:jA x):0<x↔∃p,nP x p=true:=by
 constructor
 ·intro F;apply MQ;intro D;have:x=0:=DZ h sZ (λ p=>by
   rw[uE]
   cases e:nP x p with
   | false=>rfl
   | true=>exact absurd ⟨p,e⟩ D)
  omega
 ·rintro⟨p,o⟩;have:=h.1;have C:x≠0:=λ e=>by rw[e,uE]at o;cases o
  omega
theorem Py(h:jA x)(k:jA y):nS x y≠0↔∃p,nP x p=true/\nP y p=true:=by
 have C:=Gu h k;have I:=Ji C;constructor
 ·intro J;obtain⟨p,o⟩:=I.1 (by have:=C.1;omega);rw[Iy h k,NM]at o;exact⟨p,o⟩
 ·rintro⟨p,D,F⟩ e;have:nP (nS x y) p=true:=by rw[Iy h k,D,F];rfl
  rw[e,uE]at this;cases this
theorem In(h:jA x){k:Nat}(D:k<10):nS x (sK k)=0↔nP x k=false:=by
 have:=Py h (tR D);constructor
 ·intro e
  cases hx:nP x k with
  | false=>rfl
  | true=>exact absurd e (this.2 ⟨k,hx,by rw[E5];simp⟩)
 ·intro e;apply MQ;intro F;obtain⟨p,o,C⟩:=this.1 F;rw[E5,aE]at C;subst C;rw[e]at o;cases o
theorem Ko{aG:Nat->Int}(hn:∀p,p<10->jA (aG p)){pl:Int}:∀k,k<=10->jA (J0 aG pl k):=by
 intro k
 induction k with
 | zero=>intro _;exact sZ
 | succ j ih=>
  intro h;rw[J0];split
  ·exact ih (by omega)
  ·exact uO (ih (by omega)) (hn j (by omega))
theorem DM{aG:Nat->Int}(hn:∀p,p<10->jA (aG p)){pl:Int}(I:jA pl)(q:Nat):∀k,k<=10->(nP (J0 aG pl k) q=true↔∃p,p<k/\nP pl p=true/\nP (aG p) q=true):=by
 intro k
 induction k with
 | zero=>
  intro _;rw[J0,uE];constructor
  ·intro h;cases h
  ·rintro⟨p,h,_⟩;omega
 | succ j ih=>
  intro h;have hi:=ih (by omega);rw[J0];by_cases e:nS pl (sK j)=0
  ·rw[aB e,hi];have F:=(In I (by omega)).1 e;constructor
   ·rintro⟨p,D,o⟩;exact⟨p,by omega,o⟩
   ·rintro⟨p,D,o,C⟩;refine⟨p,?_,o,C⟩;have:p≠j:=λ e=>by rw[e,F]at o;cases o
    omega
  ·rw[aA e,vA (Ko hn j (by omega)) (hn j (by omega)),NI,hi];have F:nP pl j=true:=by
    cases hx:nP pl j with
    | true=>rfl
    | false=>exact absurd ((In I (by omega)).2 hx) e
   constructor
   ·rintro(⟨p,D,o⟩|o)
    ·exact⟨p,by omega,o⟩
    ·exact⟨j,by omega,F,o⟩
   ·rintro⟨p,D,o,C⟩;by_cases J:p=j
    ·subst J;exact .inr C
    ·exact .inl ⟨p,by omega,o,C⟩
theorem BN{aG:Nat->Int}(hn:∀p,p<10->jA (aG p))(pl:Int):jA (Ee aG pl):=Ko hn 10 lR
theorem IB{aG:Nat->Int}(hn:∀p,p<10->jA (aG p)){pl:Int}(o:jA pl)(q:Nat):nP (Ee aG pl) q=true↔∃p,p<10/\nP pl p=true/\nP (aG p) q=true:=DM hn o q 10 lR
theorem V3{pl:Int}(I:jA pl):∀(l:List Int)(k:Nat),(∀x∈l,jA x)->
  (L5 l pl k=0/\∀x∈l,¬ ∃p,nP pl p=true/\nP x p=true)\/
  ∃r,L5 l pl k=k+r+1/\r<l.length/\(∃p,nP pl p=true/\nP (l.getD r 0) p=true)/\∀r',r'<r->¬ ∃p,nP pl p=true/\nP (l.getD r' 0) p=true:=by
 intro l
 induction l with
 | nil=>intro k _;exact .inl ⟨rfl,λ x C=>absurd C LU⟩
 | cons a l ih=>
  intro k J;rw[L5];have V:=J a ML;by_cases e:nS pl a=0
  ·rw[aB e];have o:¬ ∃p,nP pl p=true/\nP a p=true:=λ h=>(Py I V).2 h e
   rcases ih (k+1) (λ x C=>J x (MM _ C))with⟨Q,U⟩|⟨r,Q,U,X,Y⟩
   ·refine .inl ⟨Q,λ x C=>?_⟩;rcases NR.1 C with D|D
    ·rw[D];exact o
    ·exact U x D
   ·refine .inr ⟨r+1,by omega,by simp;omega,by simpa using X,λ r' F=>?_⟩
    cases r' with
    | zero=>simpa using o
    | succ j=>have:=Y j (by omega);simpa using this
  ·rw[aA e];exact .inr ⟨0,by omega,by simp,by simpa using(Py I V).1 e,λ r' F=>by omega⟩
inductive Rx where
 | pl (f:Nat->Bool)
 | cat (a b:Rx)
 | alt (a b:Rx)
 | opt (a:Rx)
 | plus (a:Rx)
 | star (a:Rx)
inductive uQ (L:List Nat->Prop):List Nat->Prop where
 | one {w:List Nat}:L w->uQ L w
 | more {u v:List Nat}:L u->uQ L v->uQ L (u++v)
def W:Rx->List Nat->Prop
 | .pl f,w=>∃b,w=[b]/\b<256/\f b=true
 | .cat a b,w=>∃u v,w=u++v/\W a u/\W b v
 | .alt a b,w=>W a w\/W b w
 | .opt a,w=>w=[]\/W a w
 | .plus a,w=>uQ (W a) w
 | .star a,w=>w=[]\/uQ (W a) w
def Rx.np:Rx->Nat
 | .pl _=>1
 | .cat a b=>a.np+b.np
 | .alt a b=>a.np+b.np
 | .opt a=>a.np
 | .plus a=>a.np
 | .star a=>a.np
def Rx.nul:Rx->Bool
 | .pl _=>false
 | .cat a b=>a.nul&&b.nul
 | .alt a b=>a.nul||b.nul
 | .opt _=>true
 | .plus a=>a.nul
 | .star _=>true
def Rx.fst:Rx->Nat->Nat->Prop
 | .pl _,k,p=>p=k
 | .cat a b,k,p=>a.fst k p\/(a.nul=true/\b.fst (k+a.np) p)
 | .alt a b,k,p=>a.fst k p\/b.fst (k+a.np) p
 | .opt a,k,p=>a.fst k p
 | .plus a,k,p=>a.fst k p
 | .star a,k,p=>a.fst k p
def Rx.lst:Rx->Nat->Nat->Prop
 | .pl _,k,p=>p=k
 | .cat a b,k,p=>(a.lst k p/\b.nul=true)\/b.lst (k+a.np) p
 | .alt a b,k,p=>a.lst k p\/b.lst (k+a.np) p
 | .opt a,k,p=>a.lst k p
 | .plus a,k,p=>a.lst k p
 | .star a,k,p=>a.lst k p
def Rx.fol:Rx->Nat->Nat->Nat->Prop
 | .pl _,_,_,_=>False
 | .cat a b,k,p,q=>a.fol k p q\/b.fol (k+a.np) p q\/(a.lst k p/\b.fst (k+a.np) q)
 | .alt a b,k,p,q=>a.fol k p q\/b.fol (k+a.np) p q
 | .opt a,k,p,q=>a.fol k p q
 | .plus a,k,p,q=>a.fol k p q\/(a.lst k p/\a.fst k q)
 | .star a,k,p,q=>a.fol k p q\/(a.lst k p/\a.fst k q)
def Rx.rest:Rx->Nat->Nat->List Nat->Prop
 | .pl _,k,p,v=>p=k/\v=[]
 | .cat a b,k,p,v=>(∃v1 v2,v=v1++v2/\a.rest k p v1/\W b v2)\/b.rest (k+a.np) p v
 | .alt a b,k,p,v=>a.rest k p v\/b.rest (k+a.np) p v
 | .opt a,k,p,v=>a.rest k p v
 | .plus a,k,p,v=>∃v1 v2,v=v1++v2/\a.rest k p v1/\(v2=[]\/uQ (W a) v2)
 | .star a,k,p,v=>∃v1 v2,v=v1++v2/\a.rest k p v1/\(v2=[]\/uQ (W a) v2)
def Rx.says(A:Nat->Nat->Bool):Rx->Nat->Prop
 | .pl f,k=>∀b,b<256->A k b=f b
 | .cat a b,k=>a.says A k/\b.says A (k+a.np)
 | .alt a b,k=>a.says A k/\b.says A (k+a.np)
 | .opt a,k=>a.says A k
 | .plus a,k=>a.says A k
 | .star a,k=>a.says A k
theorem Rx.np_pos:∀r:Rx,0<r.np
 | .pl _=>PX
 | .cat a b=>by have:=a.np_pos;show 0<a.np+b.np;omega
 | .alt a b=>by have:=a.np_pos;show 0<a.np+b.np;omega
 | .opt a=>a.np_pos
 | .plus a=>a.np_pos
 | .star a=>a.np_pos
theorem Rx.fst_in:∀(r:Rx)(k p:Nat),r.fst k p->k<=p/\p<k+r.np
 | .pl _,k,p,h=>by have h:p=k:=h;show k<=p/\p<k+1;omega
 | .cat a b,k,p,h=>by
  show k<=p/\p<k+(a.np+b.np);rcases h with h|⟨_,h⟩
  ·have:=a.fst_in k p h;omega
  ·have:=b.fst_in _ p h;omega
 | .alt a b,k,p,h=>by
  show k<=p/\p<k+(a.np+b.np);rcases h with h|h
  ·have:=a.fst_in k p h;omega
  ·have:=b.fst_in _ p h;omega
 | .opt a,k,p,h=>a.fst_in k p h
 | .plus a,k,p,h=>a.fst_in k p h
 | .star a,k,p,h=>a.fst_in k p h
theorem Rx.lst_in:∀(r:Rx)(k p:Nat),r.lst k p->k<=p/\p<k+r.np
 | .pl _,k,p,h=>by have h:p=k:=h;show k<=p/\p<k+1;omega
 | .cat a b,k,p,h=>by
  show k<=p/\p<k+(a.np+b.np);rcases h with⟨h,_⟩|h
  ·have:=a.lst_in k p h;omega
  ·have:=b.lst_in _ p h;omega
 | .alt a b,k,p,h=>by
  show k<=p/\p<k+(a.np+b.np);rcases h with h|h
  ·have:=a.lst_in k p h;omega
  ·have:=b.lst_in _ p h;omega
 | .opt a,k,p,h=>a.lst_in k p h
 | .plus a,k,p,h=>a.lst_in k p h
 | .star a,k,p,h=>a.lst_in k p h
theorem Rx.fol_in:∀(r:Rx)(k p q:Nat),r.fol k p q->(k<=p/\p<k+r.np)/\(k<=q/\q<k+r.np)
 | .pl _,k,p,q,h=>False.elim h
 | .cat a b,k,p,q,h=>by
  show(k<=p/\p<k+(a.np+b.np))/\(k<=q/\q<k+(a.np+b.np));rcases h with h|h|⟨h,o⟩
  ·have:=a.fol_in k p q h;omega
  ·have:=b.fol_in _ p q h;omega
  ·have:=a.lst_in k p h;have:=b.fst_in _ q o;omega
 | .alt a b,k,p,q,h=>by
  show(k<=p/\p<k+(a.np+b.np))/\(k<=q/\q<k+(a.np+b.np));rcases h with h|h
  ·have:=a.fol_in k p q h;omega
  ·have:=b.fol_in _ p q h;omega
 | .opt a,k,p,q,h=>a.fol_in k p q h
 | .plus a,k,p,q,h=>by
  rcases h with h|⟨h,o⟩
  ·exact a.fol_in k p q h
  ·exact⟨a.lst_in k p h,a.fst_in k q o⟩
 | .star a,k,p,q,h=>by
  rcases h with h|⟨h,o⟩
  ·exact a.fol_in k p q h
  ·exact⟨a.lst_in k p h,a.fst_in k q o⟩
theorem Rx.rest_in:∀(r:Rx)(k p:Nat)(v:List Nat),r.rest k p v->k<=p/\p<k+r.np
 | .pl _,k,p,v,h=>by have h:p=k:=h.1;show k<=p/\p<k+1;omega
 | .cat a b,k,p,v,h=>by
  show k<=p/\p<k+(a.np+b.np);rcases h with⟨v1,_,_,h,_⟩|h
  ·have:=a.rest_in k p v1 h;omega
  ·have:=b.rest_in _ p v h;omega
 | .alt a b,k,p,v,h=>by
  show k<=p/\p<k+(a.np+b.np);rcases h with h|h
  ·have:=a.rest_in k p v h;omega
  ·have:=b.rest_in _ p v h;omega
 | .opt a,k,p,v,h=>a.rest_in k p v h
 | .plus a,k,p,v,h=>by obtain⟨v1,_,_,h,_⟩:=h;exact a.rest_in k p v1 h
 | .star a,k,p,v,h=>by obtain⟨v1,_,_,h,_⟩:=h;exact a.rest_in k p v1 h
theorem BV{L:List Nat->Prop}:∀{w:List Nat},uQ L w->w=[]->L []:=by
 intro w h
 induction h with
 | one h=>intro e;rw[e]at h;exact h
 | more hu _ ih=>intro e;rw[ND]at e;rw[e.1]at hu;exact hu
theorem S8{L:List Nat->Prop}:∀{w:List Nat},uQ L w->∀b v,w=b::v->∃v1 v2,v=v1++v2/\L (b::v1)/\(v2=[]\/uQ L v2):=by
 intro w h
 induction h with
 | one h=>intro b v e;rw[e]at h;exact⟨v,[],(MS v).symm,h,.inl rfl⟩
 | @more u x hu hx ih=>
  intro b v e
  cases u with
  | nil=>exact ih b v e
  | cons c u'=>
   rw[NE]at e;injection e with o C;subst o;exact⟨u',x,C.symm,hu,.inr hx⟩
theorem Iv{L:List Nat->Prop}(h:L u)(k:v=[]\/uQ L v):uQ L (u++v):=by
 rcases k with rfl|k
 ·rw[MS];exact .one h
 ·exact .more h k
theorem Rx.nul_iff:∀r:Rx,r.nul=true↔W r []
 | .pl f=>by
  constructor
  ·intro h;cases h
  ·rintro⟨b,h,_⟩;cases h
 | .cat a b=>by
  show(a.nul&&b.nul)=true↔_;rw[NM,a.nul_iff,b.nul_iff];constructor
  ·rintro⟨o,C⟩;exact⟨[],[],rfl,o,C⟩
  ·rintro⟨u,v,e,o,C⟩;have:=ND.1 e.symm;rw[this.1]at o;rw[this.2]at C;exact⟨o,C⟩
 | .alt a b=>by
  show(a.nul||b.nul)=true↔(W a []\/W b []);rw[NI,a.nul_iff,b.nul_iff]
 | .opt a=>⟨λ _=> .inl rfl,λ _=>rfl⟩
 | .plus a=>by
  show a.nul=true↔uQ (W a) [];rw[a.nul_iff];exact⟨λ h=> .one h,λ h=>BV h rfl⟩
 | .star a=>⟨λ _=> .inl rfl,λ _=>rfl⟩
theorem Rx.begins{A:Nat->Nat->Bool}:∀(r:Rx)(k:Nat),r.says A k->∀b v,(W r (b::v)↔∃p,r.fst k p/\b<256/\A p b=true/\r.rest k p v)
 | .pl f,k,hA,b,v=>by
  constructor
  ·rintro⟨c,e,I,F⟩;injection e with U V;subst U;exact⟨k,rfl,I,by rw[hA b I];exact F,rfl,V⟩
  ·rintro⟨p,e,I,F,_,Y⟩;have e:p=k:=e;subst e;exact⟨b,by rw[Y],I,by rw[<-hA b I];exact F⟩
 | .cat x y,k,hA,b,v=>by
  have J:=x.begins k hA.1 b;have Q:=y.begins (k+x.np) hA.2 b;constructor
  ·rintro⟨u,w,e,I,F⟩
   cases u with
   | nil=>
    rw[OR]at e;rw[<-e]at F;obtain⟨p,a1,C,D,o⟩:=(Q v).1 F;exact⟨p,.inr ⟨x.nul_iff.2 I,a1⟩,C,D,.inr o⟩
   | cons c u'=>
    rw[NE]at e;injection e with U V;subst U;obtain⟨p,a1,C,D,o⟩:=(J u').1 I;exact⟨p,.inl a1,C,D,.inl ⟨u',w,V,o,F⟩⟩
  ·rintro⟨p,a1,C,D,o⟩;rcases o with⟨v1,v2,e,I,F⟩|h
   ·rcases a1 with a1|⟨_,a1⟩
    ·exact⟨b::v1,v2,by rw[e];rfl,(J v1).2 ⟨p,a1,C,D,I⟩,F⟩
    ·exfalso;have:=y.fst_in _ p a1;have:=x.rest_in k p v1 I;omega
   ·rcases a1 with a1|⟨X,a1⟩
    ·exfalso;have:=x.fst_in _ p a1;have:=y.rest_in _ p v h;omega
    ·exact⟨[],b::v,rfl,x.nul_iff.1 X,(Q v).2 ⟨p,a1,C,D,h⟩⟩
 | .alt x y,k,hA,b,v=>by
  have J:=x.begins k hA.1 b v;have Q:=y.begins (k+x.np) hA.2 b v;constructor
  ·rintro(h|h)
   ·obtain⟨p,a1,C,D,o⟩:=J.1 h;exact⟨p,.inl a1,C,D,.inl o⟩
   ·obtain⟨p,a1,C,D,o⟩:=Q.1 h;exact⟨p,.inr a1,C,D,.inr o⟩
  ·rintro⟨p,a1,C,D,o⟩;rcases a1 with a1|a1<;>rcases o with o|o
   ·exact .inl (J.2 ⟨p,a1,C,D,o⟩)
   ·exfalso;have:=x.fst_in _ p a1;have:=y.rest_in _ p v o;omega
   ·exfalso;have:=y.fst_in _ p a1;have:=x.rest_in _ p v o;omega
   ·exact .inr (Q.2 ⟨p,a1,C,D,o⟩)
 | .opt x,k,hA,b,v=>by
  have J:=x.begins k hA b v;constructor
  ·rintro(h|h)
   ·cases h
   ·exact J.1 h
  ·intro h;exact .inr (J.2 h)
 | .plus x,k,hA,b,v=>by
  have J:=x.begins k hA b;constructor
  ·intro h;obtain⟨v1,v2,e,I,F⟩:=S8 h b v rfl;obtain⟨p,a1,C,D,o⟩:=(J v1).1 I;exact⟨p,a1,C,D,v1,v2,e,o,F⟩
  ·rintro⟨p,a1,C,D,v1,v2,e,o,F⟩;have:=Iv (L:=W x) ((J v1).2 ⟨p,a1,C,D,o⟩) F;rw[e];exact this
 | .star x,k,hA,b,v=>by
  have J:=x.begins k hA b;constructor
  ·rintro(h|h)
   ·cases h
   ·obtain⟨v1,v2,e,I,F⟩:=S8 h b v rfl;obtain⟨p,a1,C,D,o⟩:=(J v1).1 I;exact⟨p,a1,C,D,v1,v2,e,o,F⟩
  ·rintro⟨p,a1,C,D,v1,v2,e,o,F⟩;have:=Iv (L:=W x) ((J v1).2 ⟨p,a1,C,D,o⟩) F;rw[e];exact .inr this
theorem Rx.ends:∀(r:Rx)(k p:Nat),r.rest k p []↔r.lst k p
 | .pl _,k,p=>⟨λ h=>h.1,λ h=>⟨h,rfl⟩⟩
 | .cat a b,k,p=>by
  constructor
  ·rintro(⟨v1,v2,e,o,C⟩|h)
   ·have D:=ND.1 e.symm;rw[D.1]at o;rw[D.2]at C;exact .inl ⟨(a.ends k p).1 o,b.nul_iff.2 C⟩
   ·exact .inr ((b.ends _ p).1 h)
  ·rintro(⟨o,C⟩|h)
   ·exact .inl ⟨[],[],rfl,(a.ends k p).2 o,b.nul_iff.1 C⟩
   ·exact .inr ((b.ends _ p).2 h)
 | .alt a b,k,p=>by
  constructor
  ·rintro(h|h)
   ·exact .inl ((a.ends k p).1 h)
   ·exact .inr ((b.ends _ p).1 h)
  ·rintro(h|h)
   ·exact .inl ((a.ends k p).2 h)
   ·exact .inr ((b.ends _ p).2 h)
 | .opt a,k,p=>a.ends k p
 | .plus a,k,p=>by
  constructor
  ·rintro⟨v1,v2,e,o,_⟩;rw[(ND.1 e.symm).1]at o;exact(a.ends k p).1 o
  ·intro h;exact⟨[],[],rfl,(a.ends k p).2 h,.inl rfl⟩
 | .star a,k,p=>by
  constructor
  ·rintro⟨v1,v2,e,o,_⟩;rw[(ND.1 e.symm).1]at o;exact(a.ends k p).1 o
  ·intro h;exact⟨[],[],rfl,(a.ends k p).2 h,.inl rfl⟩
theorem Ga{A:Nat->Nat->Bool}(x:Rx)(k:Nat)(Q:x.says A k)(V:∀p b v,x.rest k p (b::v)↔∃q,x.fol k p q/\b<256/\A q b=true/\x.rest k q v)(p b:Nat)(v:List Nat):
  (∃v1 v2,b::v=v1++v2/\x.rest k p v1/\(v2=[]\/uQ (W x) v2))↔∃q,(x.fol k p q\/(x.lst k p/\x.fst k q))/\b<256/\A q b=true/\∃v1 v2,v=v1++v2/\x.rest k q v1/\(v2=[]\/uQ (W x) v2):=by
 constructor
 ·rintro⟨v1,v2,e,U,o⟩
  cases v1 with
  | nil=>
   rw[OR]at e;rcases o with o|o
   ·rw[o]at e;cases e
   ·obtain⟨w1,w2,J,Z,g2⟩:=S8 o b v e.symm;obtain⟨q,a1,C,D,F⟩:=(x.begins k Q b w1).1 Z;exact⟨q,.inr ⟨(x.ends k p).1 U,a1⟩,C,D,w1,w2,J,F,g2⟩
  | cons c v1'=>
   rw[NE]at e;injection e with X J;subst X;obtain⟨q,a1,C,D,F⟩:=(V p b v1').1 U;exact⟨q,.inl a1,C,D,v1',v2,J,F,o⟩
 ·rintro⟨q,I,C,D,v1,v2,e,F,o⟩;rcases I with I|⟨Y,hf⟩
  ·exact⟨b::v1,v2,by rw[e];rfl,(V p b v1).2 ⟨q,I,C,D,F⟩,o⟩
  ·refine⟨[],b::v,rfl,(x.ends k p).2 Y,.inr ?_⟩;have:=Iv (L:=W x) ((x.begins k Q b v1).2 ⟨q,hf,C,D,F⟩) o;rw[e];exact this
theorem Rx.goes{A:Nat->Nat->Bool}:∀(r:Rx)(k:Nat),r.says A k->∀p b v,(r.rest k p (b::v)↔∃q,r.fol k p q/\b<256/\A q b=true/\r.rest k q v)
 | .pl f,k,_,p,b,v=>by
  constructor
  ·rintro⟨_,h⟩;cases h
  ·rintro⟨q,h,_⟩;exact False.elim h
 | .cat x y,k,hA,p,b,v=>by
  have J:=x.goes k hA.1 p b;have U:=y.goes (k+x.np) hA.2 p b v;constructor
  ·rintro(⟨v1,v2,e,I,Q⟩|h)
   ·cases v1 with
    | nil=>
     rw[OR]at e;rw[<-e]at Q;obtain⟨q,a1,D,F,C⟩:=(y.begins _ hA.2 b v).1 Q;exact⟨q,.inr (.inr ⟨(x.ends k p).1 I,a1⟩),D,F,.inr C⟩
    | cons c v1'=>
     rw[NE]at e;injection e with V X;subst V;obtain⟨q,a1,D,F,C⟩:=(J v1').1 I;exact⟨q,.inl a1,D,F,.inl ⟨v1',v2,X,C,Q⟩⟩
   ·obtain⟨q,a1,D,F,C⟩:=U.1 h;exact⟨q,.inr (.inl a1),D,F,.inr C⟩
  ·rintro⟨q,o,D,F,C⟩;rcases C with⟨v1,v2,e,I,Q⟩|h
   ·have aL:=x.rest_in k q v1 I;rcases o with o|o|⟨_,o⟩
    ·exact .inl ⟨b::v1,v2,by rw[e];rfl,(J v1).2 ⟨q,o,D,F,I⟩,Q⟩
    ·exfalso;have:=(y.fol_in _ p q o).2;omega
    ·exfalso;have:=y.fst_in _ q o;omega
   ·have Z:=y.rest_in _ q v h;rcases o with o|o|⟨Y,o⟩
    ·exfalso;have:=(x.fol_in _ p q o).2;omega
    ·exact .inr (U.2 ⟨q,o,D,F,h⟩)
    ·exact .inl ⟨[],b::v,rfl,(x.ends k p).2 Y,(y.begins _ hA.2 b v).2 ⟨q,o,D,F,h⟩⟩
 | .alt x y,k,hA,p,b,v=>by
  have J:=x.goes k hA.1 p b v;have U:=y.goes (k+x.np) hA.2 p b v;constructor
  ·rintro(h|h)
   ·obtain⟨q,a1,D,F,C⟩:=J.1 h;exact⟨q,.inl a1,D,F,.inl C⟩
   ·obtain⟨q,a1,D,F,C⟩:=U.1 h;exact⟨q,.inr a1,D,F,.inr C⟩
  ·rintro⟨q,o,D,F,C⟩;rcases o with o|o<;>rcases C with C|C
   ·exact .inl (J.2 ⟨q,o,D,F,C⟩)
   ·exfalso;have:=(x.fol_in _ p q o).2;have:=y.rest_in _ q v C;omega
   ·exfalso;have:=(y.fol_in _ p q o).2;have:=x.rest_in _ q v C;omega
   ·exact .inr (U.2 ⟨q,o,D,F,C⟩)
 | .opt x,k,hA,p,b,v=>x.goes k hA p b v
 | .plus x,k,hA,p,b,v=>Ga x k hA (x.goes k hA) p b v
 | .star x,k,hA,p,b,v=>Ga x k hA (x.goes k hA) p b v
theorem Rx.word{A:Nat->Nat->Bool}:∀(r:Rx)(k:Nat),r.says A k->(∀p,k<=p->p<k+r.np->∃b,b<256/\A p b=true)->∃w,W r w
 | .pl f,k,hA,h=>by
  obtain⟨b,o,D⟩:=h k lR (by show k<k+1;omega);exact⟨[b],b,rfl,o,by rw[<-hA b o];exact D⟩
 | .cat x y,k,hA,h=>by
  obtain⟨u,C⟩:=x.word k hA.1 (λ p o D=>h p o (by show p<k+(x.np+y.np);omega));obtain⟨v,F⟩:=y.word (k+x.np) hA.2 (λ p o D=>h p (by omega) (by show p<k+(x.np+y.np);omega));exact⟨u++v,u,v,rfl,C,F⟩
 | .alt x y,k,hA,h=>by
  obtain⟨u,C⟩:=x.word k hA.1 (λ p o D=>h p o (by show p<k+(x.np+y.np);omega));exact⟨u,.inl C⟩
 | .opt x,_,_,_=>⟨[],.inl rfl⟩
 | .plus x,k,hA,h=>by
  obtain⟨u,C⟩:=x.word k hA h;exact⟨u,.one C⟩
 | .star x,_,_,_=>⟨[],.inl rfl⟩
theorem Rx.alive{A:Nat->Nat->Bool}:∀(r:Rx)(k:Nat),r.says A k->(∀p,k<=p->p<k+r.np->∃b,b<256/\A p b=true)->∀p,k<=p->p<k+r.np->∃v,r.rest k p v
 | .pl f,k,_,_,p,C,o=>by
  have o:p<k+1:=o;exact⟨[],by show p=k;omega,rfl⟩
 | .cat x y,k,hA,h,p,C,o=>by
  have o:p<k+(x.np+y.np):=o;by_cases e:p<k+x.np
  ·obtain⟨v1,F⟩:=x.alive k hA.1 (λ p C o=>h p C (by show p<k+(x.np+y.np);omega)) p C e;obtain⟨v2,I⟩:=y.word (k+x.np) hA.2 (λ p C o=>h p (by omega) (by show p<k+(x.np+y.np);omega));exact⟨v1++v2,.inl ⟨v1,v2,rfl,F,I⟩⟩
  ·obtain⟨v,D⟩:=y.alive (k+x.np) hA.2 (λ p C o=>h p (by omega) (by show p<k+(x.np+y.np);omega)) p (by omega) (by omega);exact⟨v,.inr D⟩
 | .alt x y,k,hA,h,p,C,o=>by
  have o:p<k+(x.np+y.np):=o;by_cases e:p<k+x.np
  ·obtain⟨v,D⟩:=x.alive k hA.1 (λ p C o=>h p C (by show p<k+(x.np+y.np);omega)) p C e;exact⟨v,.inl D⟩
  ·obtain⟨v,D⟩:=y.alive (k+x.np) hA.2 (λ p C o=>h p (by omega) (by show p<k+(x.np+y.np);omega)) p (by omega) (by omega);exact⟨v,.inr D⟩
 | .opt x,k,hA,h,p,C,o=>x.alive k hA h p C o
 | .plus x,k,hA,h,p,C,o=>by
  obtain⟨v,D⟩:=x.alive k hA h p C o;exact⟨v,v,[],(MS v).symm,D,.inl rfl⟩
 | .star x,k,hA,h,p,C,o=>by
  obtain⟨v,D⟩:=x.alive k hA h p C o;exact⟨v,v,[],(MS v).symm,D,.inl rfl⟩
theorem Rx.rest_lets{A:Nat->Nat->Bool}(r:Rx)(k:Nat)(o:r.says A k):∀(v:List Nat)(p:Nat),r.rest k p v->∀b∈v,b<256
 | [],_,_,b,hb=>absurd hb LU
 | c::v,p,h,b,hb=>by
  obtain⟨q,_,D,_,C⟩:=(r.goes k o p c v).1 h;rcases NR.1 hb with e|e
  ·rw[e];exact D
  ·exact Rx.rest_lets r k o v q C b e
def Rx.sz:Rx->Nat
 | .pl _=>1
 | .cat a b=>a.sz+b.sz+1
 | .alt a b=>a.sz+b.sz+1
 | .opt a=>a.sz+1
 | .plus a=>a.sz+1
 | .star a=>a.sz+1
theorem Rx.sz_pos:∀r:Rx,0<r.sz
 | .pl _=>PX
 | .cat _ _=>OI _
 | .alt _ _=>OI _
 | .opt _=>OI _
 | .plus _=>OI _
 | .star _=>OI _
def Rx.flat:Rx->Nat->Nat->List (Int×Int×Int)
 | .pl _,_,pb=>[(0,(pb:Int),0)]
 | .cat a b,nb,pb=>a.flat nb pb++(b.flat (nb+a.sz) (pb+a.np)++[(1,((nb+a.sz-1:Nat):Int),((nb+a.sz+b.sz-1:Nat):Int))])
 | .alt a b,nb,pb=>a.flat nb pb++(b.flat (nb+a.sz) (pb+a.np)++[(2,((nb+a.sz-1:Nat):Int),((nb+a.sz+b.sz-1:Nat):Int))])
 | .opt a,nb,pb=>a.flat nb pb++[(3,((nb+a.sz-1:Nat):Int),0)]
 | .plus a,nb,pb=>a.flat nb pb++[(4,((nb+a.sz-1:Nat):Int),0)]
 | .star a,nb,pb=>a.flat nb pb++[(5,((nb+a.sz-1:Nat):Int),0)]
theorem Rx.flat_len:∀(r:Rx)(nb pb:Nat),(r.flat nb pb).length=r.sz
 | .pl _,_,_=>rfl
 | .cat a b,nb,pb=>by simp[Rx.flat,Rx.sz,a.flat_len,b.flat_len];omega
 | .alt a b,nb,pb=>by simp[Rx.flat,Rx.sz,a.flat_len,b.flat_len];omega
 | .opt a,nb,pb=>by simp[Rx.flat,Rx.sz,a.flat_len]
 | .plus a,nb,pb=>by simp[Rx.flat,Rx.sz,a.flat_len]
 | .star a,nb,pb=>by simp[Rx.flat,Rx.sz,a.flat_len]
structure wM(x:qQ)(r:Rx)(pb:Nat):Prop where
 s1:jA x.1
 s2:jA x.2.1
 f:∀p,nP x.1 p=true↔r.fst pb p
 l:∀p,nP x.2.1 p=true↔r.lst pb p
 n:x.2.2=r.nul
structure JM(aG next1:Nat->Int)(r:Rx)(pb:Nat):Prop where
 s:∀p,jA (next1 p)
 f:∀p q,nP (next1 p) q=true↔(nP (aG p) q=true\/r.fol pb p q)
theorem X8{aG:Nat->Int}(hn:∀p,jA (aG p))(o:jA ds)(p:Nat):jA (rP aG fr ds p):=by
 unfold rP xN;split
 ·exact uO (hn p) o
 ·exact hn p
theorem Bg{aG:Nat->Int}(hn:∀p,jA (aG p))(C:jA fr)(F:jA ds)(p q:Nat):nP (rP aG fr ds p) q=true↔(nP (aG p) q=true\/(nP fr p=true/\nP ds q=true)):=by
 unfold rP xN;by_cases o:p<10
 ·have D:=In C o;by_cases e:nS fr (sK p)≠0
  ·rw[aB ⟨o,e⟩,vA (hn p) F,NI];have:nP fr p=true:=by
    cases h:nP fr p with
    | true=>rfl
    | false=>exact absurd (D.2 h) e
   simp[this]
  ·rw[aA (λ h=>e h.2)];have:nP fr p=false:=D.1 (Classical.not_not.1 e);simp[this]
 ·rw[aA (λ h=>o h.1)];have:=Tq C (p:=p) (by omega);simp[this]
theorem uS:∀(r:Rx)(nb pb:Nat)(l:List (Int×Int×Int)) (ps:Nat->qQ) (aG:Nat->Int),pb+r.np<=10->(∀p,jA (aG p))->
  ∃o Q,jJ (r.flat nb pb++l) nb ps aG=jJ l (nb+r.sz) o Q/\(∀i,i<nb->o i=ps i)/\wM (o (nb+r.sz-1)) r pb/\JM aG Q r pb
 | .pl f,nb,pb,l,ps,aG,J,hn=>by
  have J:pb+1<=10:=J;refine⟨_,_,rfl,λ i hi=>aA (by omega),?_,?_⟩
  ·show wM (if nb+1-1=nb then(oV ps (0,(pb:Int),0) aG).1 else ps (nb+1-1)) (.pl f) pb;rw[aB (by omega)];have e:(oV ps (0,(pb:Int),0) aG).1=(sK pb,sK pb,false):=by
    unfold oV oL;simp
   rw[e];exact⟨tR (by omega),tR (by omega),λ p=>by simp only[E5,aE];exact eq_comm,λ p=>by simp only[E5,aE];exact eq_comm,rfl⟩
  ·have e:(oV ps (0,(pb:Int),0) aG).2=aG:=by unfold oV oL;simp
   rw[e];exact⟨hn,λ p q=>⟨λ h=> .inl h,λ h=>h.elim id False.elim⟩⟩
 | .cat a b,nb,pb,l,ps,aG,J,hn=>by
  have J:pb+(a.np+b.np)<=10:=J;have ha:=a.sz_pos;have hb:=b.sz_pos;obtain⟨o,n1,U,X,D,I⟩:=uS a nb pb (b.flat (nb+a.sz) (pb+a.np)++([(1,((nb+a.sz-1:Nat):Int),((nb+a.sz+b.sz-1:Nat):Int))]++l)) ps aG (by omega) hn;obtain⟨C,n2,e2,Z,F,Y⟩:=uS b (nb+a.sz) (pb+a.np) ([(1,((nb+a.sz-1:Nat):Int),((nb+a.sz+b.sz-1:Nat):Int))]++l) o n1 (by omega) I.s;rw[<-Z (nb+a.sz-1) (by omega)]at D;have V:oV C (1,((nb+a.sz-1:Nat):Int),((nb+a.sz+b.sz-1:Nat):Int)) n2=(zE (C (nb+a.sz-1)) (C (nb+a.sz+b.sz-1)),rP n2 (C (nb+a.sz-1)).2.1 (C (nb+a.sz+b.sz-1)).1):=by
   unfold oV oL;simp
  refine⟨λ i=>if i=nb+a.sz+b.sz then zE (C (nb+a.sz-1)) (C (nb+a.sz+b.sz-1))else C i,rP n2 (C (nb+a.sz-1)).2.1 (C (nb+a.sz+b.sz-1)).1,?_,λ i hi=>?_,?_,?_⟩
  ·show jJ ((a.flat nb pb++(b.flat (nb+a.sz) (pb+a.np)++[_]))++l) nb ps aG=_;rw[LP,LP,U,e2,NG,jJ,V];show _=jJ l (nb+(a.sz+b.sz+1)) _ _;rw[show nb+(a.sz+b.sz+1)=nb+a.sz+b.sz+1 by omega]
  ·simp only;rw[aA (by omega),Z i (by omega),X i hi]
  ·show wM (if nb+(a.sz+b.sz+1)-1=nb+a.sz+b.sz then _ else _) (.cat a b) pb;rw[aB (by omega)];generalize C (nb+a.sz-1)=x at*;generalize C (nb+a.sz+b.sz-1)=y at*;unfold zE;refine⟨?_,?_,λ p=>?_,λ p=>?_,?_⟩
   ·simp only;split
    ·exact uO D.s1 F.s1
    ·exact D.s1
   ·simp only;split
    ·exact uO F.s2 D.s2
    ·exact F.s2
   ·show _↔(a.fst pb p\/(a.nul=true/\b.fst (pb+a.np) p));simp only;rw[<-D.n,<-D.f,<-F.f];split
    ·rename_i h;rw[vA D.s1 F.s1,NI];simp[h]
    ·rename_i h;simp[h]
   ·show _↔((a.lst pb p/\b.nul=true)\/b.lst (pb+a.np) p);simp only;rw[<-F.n,<-D.l,<-F.l];split
    ·rename_i h;rw[vA F.s2 D.s2,NI];simp[h,or_comm]
    ·rename_i h;simp[h]
   ·show(x.2.2&&y.2.2)=(a.nul&&b.nul);rw[D.n,F.n]
  ·refine⟨X8 Y.s F.s1,λ p q=>?_⟩;rw[Bg Y.s D.s2 F.s1,Y.f,I.f,D.l,F.f];show _↔(_\/(a.fol pb p q\/b.fol (pb+a.np) p q\/(a.lst pb p/\b.fst (pb+a.np) q)));simp only[or_assoc]
 | .alt a b,nb,pb,l,ps,aG,J,hn=>by
  have J:pb+(a.np+b.np)<=10:=J;have ha:=a.sz_pos;have hb:=b.sz_pos;obtain⟨o,n1,U,X,D,I⟩:=uS a nb pb (b.flat (nb+a.sz) (pb+a.np)++([(2,((nb+a.sz-1:Nat):Int),((nb+a.sz+b.sz-1:Nat):Int))]++l)) ps aG (by omega) hn;obtain⟨C,n2,e2,Z,F,Y⟩:=uS b (nb+a.sz) (pb+a.np) ([(2,((nb+a.sz-1:Nat):Int),((nb+a.sz+b.sz-1:Nat):Int))]++l) o n1 (by omega) I.s;rw[<-Z (nb+a.sz-1) (by omega)]at D;have V:oV C (2,((nb+a.sz-1:Nat):Int),((nb+a.sz+b.sz-1:Nat):Int)) n2=((An (C (nb+a.sz-1)).1 (C (nb+a.sz+b.sz-1)).1,An (C (nb+a.sz-1)).2.1 (C (nb+a.sz+b.sz-1)).2.1,(C (nb+a.sz-1)).2.2||(C (nb+a.sz+b.sz-1)).2.2),n2):=by
   unfold oV oL;simp
  refine⟨λ i=>if i=nb+a.sz+b.sz then(An (C (nb+a.sz-1)).1 (C (nb+a.sz+b.sz-1)).1,An (C (nb+a.sz-1)).2.1 (C (nb+a.sz+b.sz-1)).2.1,(C (nb+a.sz-1)).2.2||(C (nb+a.sz+b.sz-1)).2.2)else C i,n2,?_,λ i hi=>?_,?_,?_⟩
  ·show jJ ((a.flat nb pb++(b.flat (nb+a.sz) (pb+a.np)++[_]))++l) nb ps aG=_;rw[LP,LP,U,e2,NG,jJ,V];show _=jJ l (nb+(a.sz+b.sz+1)) _ _;rw[show nb+(a.sz+b.sz+1)=nb+a.sz+b.sz+1 by omega]
  ·simp only;rw[aA (by omega),Z i (by omega),X i hi]
  ·show wM (if nb+(a.sz+b.sz+1)-1=nb+a.sz+b.sz then _ else _) (.alt a b) pb;rw[aB (by omega)];generalize C (nb+a.sz-1)=x at*;generalize C (nb+a.sz+b.sz-1)=y at*;refine⟨uO D.s1 F.s1,uO D.s2 F.s2,λ p=>?_,λ p=>?_,?_⟩
   ·show _↔(a.fst pb p\/b.fst (pb+a.np) p);simp only;rw[<-D.f,<-F.f,vA D.s1 F.s1,NI]
   ·show _↔(a.lst pb p\/b.lst (pb+a.np) p);simp only;rw[<-D.l,<-F.l,vA D.s2 F.s2,NI]
   ·show(x.2.2||y.2.2)=(a.nul||b.nul);rw[D.n,F.n]
  ·refine⟨Y.s,λ p q=>?_⟩;rw[Y.f,I.f];show _↔(_\/(a.fol pb p q\/b.fol (pb+a.np) p q));simp only[or_assoc]
 | .opt a,nb,pb,l,ps,aG,J,hn=>by
  have ha:=a.sz_pos;obtain⟨o,n1,U,X,D,I⟩:=uS a nb pb ([(3,((nb+a.sz-1:Nat):Int),0)]++l) ps aG J hn;have V:oV o (3,((nb+a.sz-1:Nat):Int),0) n1=(((o (nb+a.sz-1)).1,(o (nb+a.sz-1)).2.1,true),n1):=by
   unfold oV oL;simp
  refine⟨λ i=>if i=nb+a.sz then((o (nb+a.sz-1)).1,(o (nb+a.sz-1)).2.1,true)else o i,n1,?_,λ i hi=>?_,?_,⟨I.s,I.f⟩⟩
  ·show jJ ((a.flat nb pb++[_])++l) nb ps aG=jJ l (nb+(a.sz+1)) _ _;rw[LP,U,NG,jJ,V]
   rfl
  ·simp only;rw[aA (by omega),X i hi]
  ·show wM (if nb+(a.sz+1)-1=nb+a.sz then _ else _) (.opt a) pb;rw[aB (by omega)];exact⟨D.s1,D.s2,D.f,D.l,rfl⟩
 | .plus a,nb,pb,l,ps,aG,J,hn=>by
  have ha:=a.sz_pos;obtain⟨o,n1,U,X,D,I⟩:=uS a nb pb ([(4,((nb+a.sz-1:Nat):Int),0)]++l) ps aG J hn;have V:oV o (4,((nb+a.sz-1:Nat):Int),0) n1=(o (nb+a.sz-1),rP n1 (o (nb+a.sz-1)).2.1 (o (nb+a.sz-1)).1):=by
   unfold oV oL;simp
  refine⟨λ i=>if i=nb+a.sz then o (nb+a.sz-1)else o i,rP n1 (o (nb+a.sz-1)).2.1 (o (nb+a.sz-1)).1,?_,λ i hi=>?_,?_,?_⟩
  ·show jJ ((a.flat nb pb++[_])++l) nb ps aG=jJ l (nb+(a.sz+1)) _ _;rw[LP,U,NG,jJ,V]
   rfl
  ·simp only;rw[aA (by omega),X i hi]
  ·show wM (if nb+(a.sz+1)-1=nb+a.sz then _ else _) (.plus a) pb;rw[aB (by omega)];exact⟨D.s1,D.s2,D.f,D.l,D.n⟩
  ·refine⟨X8 I.s D.s1,λ p q=>?_⟩;rw[Bg I.s D.s2 D.s1,I.f,D.l,D.f];show _↔(_\/(a.fol pb p q\/(a.lst pb p/\a.fst pb q)));simp only[or_assoc]
 | .star a,nb,pb,l,ps,aG,J,hn=>by
  have ha:=a.sz_pos;obtain⟨o,n1,U,X,D,I⟩:=uS a nb pb ([(5,((nb+a.sz-1:Nat):Int),0)]++l) ps aG J hn;have V:oV o (5,((nb+a.sz-1:Nat):Int),0) n1=(((o (nb+a.sz-1)).1,(o (nb+a.sz-1)).2.1,true),rP n1 (o (nb+a.sz-1)).2.1 (o (nb+a.sz-1)).1):=by
   unfold oV oL;simp
  refine⟨λ i=>if i=nb+a.sz then((o (nb+a.sz-1)).1,(o (nb+a.sz-1)).2.1,true)else o i,rP n1 (o (nb+a.sz-1)).2.1 (o (nb+a.sz-1)).1,?_,λ i hi=>?_,?_,?_⟩
  ·show jJ ((a.flat nb pb++[_])++l) nb ps aG=jJ l (nb+(a.sz+1)) _ _;rw[LP,U,NG,jJ,V]
   rfl
  ·simp only;rw[aA (by omega),X i hi]
  ·show wM (if nb+(a.sz+1)-1=nb+a.sz then _ else _) (.star a) pb;rw[aB (by omega)];exact⟨D.s1,D.s2,D.f,D.l,rfl⟩
  ·refine⟨X8 I.s D.s1,λ p q=>?_⟩;rw[Bg I.s D.s2 D.s1,I.f,D.l,D.f];show _↔(_\/(a.fol pb p q\/(a.lst pb p/\a.fst pb q)));simp only[or_assoc]
def Rx.fns:Rx->List (Nat->Bool)
 | .pl f=>[f]
 | .cat a b=>a.fns++b.fns
 | .alt a b=>a.fns++b.fns
 | .opt a=>a.fns
 | .plus a=>a.fns
 | .star a=>a.fns
theorem Rx.fns_len:∀r:Rx,r.fns.length=r.np
 | .pl _=>rfl
 | .cat a b=>by show(a.fns++b.fns).length=a.np+b.np;rw[LJ,a.fns_len,b.fns_len]
 | .alt a b=>by show(a.fns++b.fns).length=a.np+b.np;rw[LJ,a.fns_len,b.fns_len]
 | .opt a=>a.fns_len
 | .plus a=>a.fns_len
 | .star a=>a.fns_len
def kU(t:tB)(b:Int)(a:Nat):Bool:=decide (gF t a=b)
def K9(t:tB)(a:Nat):Option (Int×Nat):=
 if kU t 110 a=true then some (10,a+1)
 else if kU t 115 a=true then some (32,a+1)
 else if nQ (gF t a)=true/\Fg (gF t a)=false then some (gF t a,a+1)
 else none
def jK(t sp:tB)(a:Nat):Option (Int×Nat):=
 if kU t 92 a=true then K9 t (a+1)
 else if kV (gF t a) sp=true then some (gF t a,a+1)
 else none
def jP(t:tB)(f:Nat->Bool)(a:Nat):Option ((Nat->Bool)×Nat):=
 match jK t kJ a with
 | none=>none
 | some (x,a1)=>if kU t 45 a1=false then some (jI f x x,a1)else
  match jK t kJ (a1+1)with
  | none=>none
  | some (y,a2)=>if y<x then none else some (jI f x y,a2)
def lL(t:tB):Nat->(Nat->Bool)->Nat->Option ((Nat->Bool)×Nat)
 | 0,_,_=>none
 | n+1,f,a=>if kU t 93 a=true then some (f,a+1)else
  match jP t f a with
  | none=>none
  | some (g,a1)=>lL t n g a1
def pY(t:tB)(a:Nat):Option ((Nat->Bool)×Nat):=
 match jP t gJ a with
 | none=>none
 | some (f,a1)=>lL t (t.size+1) f a1
def K1(t:tB)(a:Nat):Option ((Nat->Bool)×Nat):=
 if kU t 94 a=true then
  match pY t (a+1)with
  | none=>none
  | some (f,a1)=>some ((λ i=> !(f i)),a1)
 else pY t a
def jC(t:tB)(a:Nat):Option ((Nat->Bool)×Nat):=
 if kU t 91 a=true then K1 t (a+1)
 else if kU t 46 a=true then some ((λ i=> !(gJ i)),a+1)
 else match jK t kI a with
  | none=>none
  | some (x,a1)=>some (jI gJ x x,a1)
def mF(t:tB)(a:Nat):Bool:=
 decide (gF t a=40\/gF t a=91\/gF t a=46\/gF t a=92)||kV (gF t a) kI
def mC(t:tB)(ex:Nat->Option (Rx×Nat))(a:Nat):Option (Rx×Nat):=
 if kU t 40 a=true then
  match ex (a+1)with
  | none=>none
  | some (r,a1)=>if kU t 41 a1=true then some (r,a1+1)else none
 else match jC t a with
  | none=>none
  | some (f,a1)=>some (.pl f,a1)
def R5(k:Int)(r:Rx):Rx:=if k=3 then .opt r else if k=4 then .plus r else .star r
def iZ(t:tB)(ex:Nat->Option (Rx×Nat))(a:Nat):Option (Rx×Nat):=
 match mC t ex a with
 | none=>none
 | some (r,a1)=>if mE (gF t a1)=0 then some (r,a1)else some (R5 (mE (gF t a1)) r,a1+1)
def lX(t:tB)(ex:Nat->Option (Rx×Nat)):Nat->Rx->Nat->Option (Rx×Nat)
 | 0,_,_=>none
 | n+1,r,a=>if mF t a=false then some (r,a)else
  match iZ t ex a with
  | none=>none
  | some (r2,a2)=>lX t ex n (.cat r r2) a2
def vQ(t:tB)(ex:Nat->Option (Rx×Nat))(a:Nat):Option (Rx×Nat):=
 match iZ t ex a with
 | none=>none
 | some (r,a1)=>lX t ex (t.size+1) r a1
def kO(t:tB)(ex:Nat->Option (Rx×Nat)):Nat->Rx->Nat->Option (Rx×Nat)
 | 0,_,_=>none
 | n+1,r,a=>if kU t 124 a=false then some (r,a)else
  match vQ t ex (a+1)with
  | none=>none
  | some (r2,a2)=>kO t ex n (.alt r r2) a2
def kR(t:tB):Nat->Nat->Option (Rx×Nat)
 | 0,_=>none
 | f+1,a=>match vQ t (kR t f) a with
  | none=>none
  | some (r,a1)=>kO t (kR t f) (t.size+1) r a1
def vI(st:gS)(a:Nat):gS:= {st with at_:=a}
def lV(st:gS)(r:Rx)(a:Nat):gS:=⟨a,st.aX,st.aV++r.flat st.aV.length st.aW.length,st.aW++r.fns⟩
def p8(p:Int×Bool×gS)(st:gS):Option (Int×Nat)->Prop
 | none=>p.2.1=false
 | some (x,a)=>p=(x,true,vI st a)
def Oo(p:(Nat->Bool)×Bool×gS)(st:gS):Option ((Nat->Bool)×Nat)->Prop
 | none=>p.2.1=false
 | some (x,a)=>p=(x,true,vI st a)
def Qt(p:Int×Bool×gS)(st:gS):Option (Rx×Nat)->Prop
 | none=>p.2.1=false
 | some (r,a)=>p=(((st.aV.length+r.sz-1:Nat):Int),true,lV st r a)
theorem qE(t:tB)(b:Int)(st:gS):gG t b st=kU t b st.at_:=by
 rw[Bool.eq_iff_iff];exact Iff.rfl
theorem Tx(st:gS):iO st=vI st (st.at_+1):=rfl
theorem FY(t:tB)(st:gS):p8 (uD t st) st (K9 t st.at_):=by
 unfold uD K9;simp only[qE,Tx];split
 ·rfl
 ·split
  ·rfl
  ·split
   ·rfl
   ·rfl
theorem L3(t sp:tB)(st:gS):p8 (gC t sp st) st (jK t sp st.at_):=by
 unfold gC jK;simp only[qE,Tx];split
 ·have:=FY t (vI st (st.at_+1));show p8 _ _ (K9 t (vI st (st.at_+1)).at_)
  cases h:K9 t (vI st (st.at_+1)).at_ with
  | none=>rw[h]at this;exact this
  | some x=>rw[h]at this;exact this
 ·split
  ·rfl
  ·rfl
theorem Cb(t:tB)(f:Nat->Bool)(st:gS):Oo (gY t f st) st (jP t f st.at_):=by
 have o:=L3 t kJ st;unfold jP
 cases e1:jK t kJ st.at_ with
 | none=>
  rw[e1]at o;obtain⟨b,F,X,I⟩:∃b F s,gC t kJ st=(b,F,s):=⟨_,_,_,rfl⟩
  have U:F=false:=by have:(gC t kJ st).2.1=false:=o;rw[I]at this;exact this
  subst U;show(gY t f st).2.1=false;rw[uR I]
 | some y=>
  obtain⟨x,a1⟩:=y;rw[e1]at o;have o:gC t kJ st=(x,true,vI st a1):=o;simp only;by_cases Q:kU t 45 a1=false
  ·rw[aB Q];exact uM o Q
  ·rw[aA Q];have D:gG t 45 (vI st a1)=true:=by
    have:kU t 45 a1=true:=by simpa using Q
    exact this
   have C:=L3 t kJ (iO (vI st a1));rw[show(iO (vI st a1)).at_=a1+1 from rfl]at C
   cases e3:jK t kJ (a1+1)with
   | none=>
    rw[e3]at C;obtain⟨b,F,X,I⟩:∃b F s,gC t kJ (iO (vI st a1))=(b,F,s):=⟨_,_,_,rfl⟩
    have U:F=false:=by have:(gC t kJ (iO (vI st a1))).2.1=false:=C;rw[I]at this;exact this
    show(gY t f st).2.1=false;rw[pW o D I (.inl U)]
   | some z=>
    obtain⟨y,V⟩:=z;rw[e3]at C;have C:gC t kJ (iO (vI st a1))=(y,true,vI st V):=C;simp only;by_cases J:y<x
    ·rw[aB J];show(gY t f st).2.1=false;rw[pW o D C (.inr J)]
    ·rw[aA J];exact uK o D C J
theorem Kk(t:tB):∀(n:Nat)(f:Nat->Bool)(st:gS),Oo (mY t n f true st) st (lL t n f st.at_):=by
 intro n
 induction n with
 | zero=>intro f st;rfl
 | succ k ih=>
  intro f st;rw[lL];by_cases h:kU t 93 st.at_=true
  ·rw[aB h,P5 h];rfl
  ·rw[aA h,N5 (by simpa[qE]using h)];have o:=Cb t f st
   cases e:jP t f st.at_ with
   | none=>
    rw[e]at o;have o:(gY t f st).2.1=false:=o;show(mY t k (gY t f st).1 (gY t f st).2.1 (gY t f st).2.2).2.1=false;rw[o,xR]
   | some y=>
    obtain⟨g,a1⟩:=y;rw[e]at o;have o:gY t f st=(g,true,vI st a1):=o;rw[o];have:=ih g (vI st a1);rw[show(vI st a1).at_=a1 from rfl]at this;simp only
    cases e2:lL t k g a1 with
    | none=>rw[e2]at this;exact this
    | some z=>rw[e2]at this;exact this
theorem Lx(t:tB)(st:gS):Oo (rS t st) st (pY t st.at_):=by
 unfold rS pY;have o:=Cb t gJ st
 cases e:jP t gJ st.at_ with
 | none=>
  rw[e]at o;have o:(gY t gJ st).2.1=false:=o;show(mY t (t.size+1) _ (gY t gJ st).2.1 _).2.1=false;rw[o,xR]
 | some y=>
  obtain⟨g,a1⟩:=y;rw[e]at o;have o:gY t gJ st=(g,true,vI st a1):=o;rw[o];have:=Kk t (t.size+1) g (vI st a1);rw[show(vI st a1).at_=a1 from rfl]at this;simp only
  cases e2:lL t (t.size+1) g a1 with
  | none=>rw[e2]at this;exact this
  | some z=>rw[e2]at this;exact this
theorem DN(t:tB)(st:gS):Oo (rI t st) st (K1 t st.at_):=by
 unfold rI K1;simp only[qE];by_cases h:kU t 94 st.at_=true
 ·have o:=Lx t (iO st);rw[aB h,aB h];rw[show(iO st).at_=st.at_+1 from rfl]at o
  cases e:pY t (st.at_+1)with
  | none=>
   rw[e]at o;have o:(rS t (iO st)).2.1=false:=o;rw[aA (by rw[o];decide)]
   rfl
  | some y=>
   obtain⟨g,a1⟩:=y;rw[e]at o;have o:rS t (iO st)=(g,true,vI st a1):=o;rw[o]
   rfl
 ·have o:=Lx t st;rw[aA h,aA h]
  cases e:pY t st.at_ with
  | none=>
   rw[e]at o;have o:(rS t st).2.1=false:=o;rw[aA (by rw[o];decide)]
   rfl
  | some y=>
   obtain⟨g,a1⟩:=y;rw[e]at o;have o:rS t st=(g,true,vI st a1):=o;rw[o]
   rfl
theorem Me(t:tB)(st:gS):Oo (hO t st) st (jC t st.at_):=by
 unfold hO jC;simp only[qE];by_cases h:kU t 91 st.at_=true
 ·rw[aB h,aB h];have:=DN t (iO st);rw[show(iO st).at_=st.at_+1 from rfl]at this
  cases e:K1 t (st.at_+1)with
  | none=>rw[e]at this;exact this
  | some y=>rw[e]at this;exact this
 ·rw[aA h,aA h];by_cases C:kU t 46 st.at_=true
  ·rw[aB C,aB C];rfl
  ·rw[aA C,aA C];have o:=L3 t kI st
   cases e:jK t kI st.at_ with
   | none=>
    rw[e]at o;have o:(gC t kI st).2.1=false:=o;rw[aA (by rw[o];decide)]
    rfl
   | some y=>
    obtain⟨x,a1⟩:=y;rw[e]at o;have o:gC t kI st=(x,true,vI st a1):=o;rw[o]
    rfl
theorem Wp(t:tB)(st:gS):Qt (qZ t st) st (match jC t st.at_ with
  | none=>none
  | some (f,a1)=>some (.pl f,a1)):=by
 unfold qZ;have o:=Me t st
 cases e:jC t st.at_ with
 | none=>
  rw[e]at o;have o:(hO t st).2.1=false:=o;rw[aA (by rw[o];decide)]
  rfl
 | some y=>
  obtain⟨f,a1⟩:=y;rw[e]at o;have o:hO t st=(f,true,vI st a1):=o;rw[o]
  rfl
def Vo(ex:gS->Int×Bool×gS)(o:Nat->Option (Rx×Nat)):Prop:=∀st,Qt (ex st) st (o st.at_)
theorem AJ{t:tB}{ex:gS->Int×Bool×gS}{C:Nat->Option (Rx×Nat)}(h:Vo ex C)(st:gS):Qt (jS t ex st) st (mC t C st.at_):=by
 unfold jS mC;simp only[qE];by_cases D:kU t 40 st.at_=true
 ·rw[aB D,aB D];have o:=h (iO st);rw[show(iO st).at_=st.at_+1 from rfl]at o
  cases e:C (st.at_+1)with
  | none=>
   rw[e]at o;have o:(ex (iO st)).2.1=false:=o;rw[aA (by rw[o];simp)]
   rfl
  | some y=>
   obtain⟨r,a1⟩:=y;rw[e]at o;have o:ex (iO st)=(((st.aV.length+r.sz-1:Nat):Int),true,lV (iO st) r a1):=o;rw[o];by_cases F:kU t 41 a1=true
   ·rw[aB ⟨rfl,F⟩];simp only[aB F]
    rfl
   ·rw[aA (λ I=>F I.2)];simp only[aA F]
    rfl
 ·rw[aA D,aA D];exact Wp t st
theorem Ec{p:Int}(h:mE p≠0)(r:Rx)(nb pb:Nat):(R5 (mE p) r).flat nb pb=r.flat nb pb++[(mE p,((nb+r.sz-1:Nat):Int),0)]/\(R5 (mE p) r).sz=r.sz+1/\(R5 (mE p) r).fns=r.fns/\(R5 (mE p) r).np=r.np:=by
 unfold mE at*;unfold R5;split at h
 ·rename_i e;rw[aB e];exact⟨rfl,rfl,rfl,rfl⟩
 ·rename_i e;rw[aA e];split at h
  ·rename_i e;rw[aB e];exact⟨rfl,rfl,rfl,rfl⟩
  ·rename_i e;rw[aA e];split at h
   ·rename_i e;rw[aB e];exact⟨rfl,rfl,rfl,rfl⟩
   ·exact absurd rfl h
theorem Hj{t:tB}{ex:gS->Int×Bool×gS}{C:Nat->Option (Rx×Nat)}(h:Vo ex C)(st:gS):Qt (jE t ex st) st (iZ t C st.at_):=by
 unfold jE iZ;have o:=AJ (t:=t) h st
 cases e:mC t C st.at_ with
 | none=>
  rw[e]at o;have o:(jS t ex st).2.1=false:=o;rw[aA (by rw[o];decide)]
  rfl
 | some y=>
  obtain⟨r,a1⟩:=y;rw[e]at o;have o:jS t ex st=(((st.aV.length+r.sz-1:Nat):Int),true,lV st r a1):=o;rw[o];rw[aB rfl];simp only;rw[show(lV st r a1).at_=a1 from rfl];by_cases D:mE (gF t a1)=0
  ·rw[aB D,aB D];rfl
  ·rw[aA D,aA D];obtain⟨J,F,I,Q⟩:=Ec D r st.aV.length st.aW.length;show(_,true,rV (mE (gF t a1),_,0) (iO (lV st r a1)))=(_,true,lV st (R5 (mE (gF t a1)) r) (a1+1));unfold lV rV iO;rw[J,F,I];have:=r.sz_pos;simp[Rx.flat_len]
theorem CL(st:gS)(r o:Rx)(a1 C:Nat):rV (1,((st.aV.length+r.sz-1:Nat):Int),(((lV st r a1).aV.length+o.sz-1:Nat):Int)) (lV (lV st r a1) o C)=lV st (.cat r o) C:=by
 unfold lV rV;simp only[gS.mk.injEq,true_and];refine⟨?_,?_⟩
 ·show _=st.aV++(r.flat _ _++(o.flat _ _++[_]));simp only[LJ,r.flat_len,r.fns_len,LP]
 ·show _=st.aW++(r.fns++o.fns);rw[LP]
theorem d9(st:gS)(r o:Rx)(a1 C:Nat):rV (2,((st.aV.length+r.sz-1:Nat):Int),(((lV st r a1).aV.length+o.sz-1:Nat):Int)) (lV (lV st r a1) o C)=lV st (.alt r o) C:=by
 unfold lV rV;simp only[gS.mk.injEq,true_and];refine⟨?_,?_⟩
 ·show _=st.aV++(r.flat _ _++(o.flat _ _++[_]));simp only[LJ,r.flat_len,r.fns_len,LP]
 ·show _=st.aW++(r.fns++o.fns);rw[LP]
theorem M5(st:gS)(r:Rx)(a:Nat):(lV st r a).aV.length=st.aV.length+r.sz:=by
 unfold lV;simp[r.flat_len]
theorem Aa(t:tB)(ex:gS->Int×Bool×gS)(n:Nat)(x:Int)(st:gS):(nO t ex n x false st).2.1=false:=by cases n<;>rfl
theorem N8(t:tB)(ex:gS->Int×Bool×gS)(n:Nat)(x:Int)(st:gS):(kE t ex n x false st).2.1=false:=by cases n<;>rfl
theorem Mv{t:tB}{ex:gS->Int×Bool×gS}{C:Nat->Option (Rx×Nat)}(h:Vo ex C)(st:gS):∀(n:Nat)(r:Rx)(a:Nat),
  Qt (nO t ex n ((st.aV.length+r.sz-1:Nat):Int) true (lV st r a)) st (lX t C n r a):=by
 intro n
 induction n with
 | zero=>intro r a;rfl
 | succ k ih=>
  intro r a;rw[nO,lX,aA (by decide)];rw[show mW t (lV st r a)=mF t a from rfl];by_cases I:mF t a=false
  ·rw[aB I,aB I];rfl
  ·rw[aA I,aA I];have o:=Hj (t:=t) h (lV st r a);rw[show(lV st r a).at_=a from rfl]at o
   cases e:iZ t C a with
   | none=>
    rw[e]at o;have o:(jE t ex (lV st r a)).2.1=false:=o;rw[o];exact Aa _ _ _ _ _
   | some y=>
    obtain⟨D,J⟩:=y;rw[e]at o;have o:jE t ex (lV st r a)=((((lV st r a).aV.length+D.sz-1:Nat):Int),true,lV (lV st r a) D J):=o;rw[o];simp only;rw[CL];have F:(lV (lV st r a) D J).aV.length=st.aV.length+(Rx.cat r D).sz-1:=by
     rw[M5,M5];show _=st.aV.length+(r.sz+D.sz+1)-1;omega
    rw[F];exact ih (.cat r D) J
theorem Ta{t:tB}{ex:gS->Int×Bool×gS}{C:Nat->Option (Rx×Nat)}(h:Vo ex C)(st:gS):Qt (mI t ex st) st (vQ t C st.at_):=by
 unfold mI vQ;have o:=Hj (t:=t) h st
 cases e:iZ t C st.at_ with
 | none=>
  rw[e]at o;have o:(jE t ex st).2.1=false:=o;rw[o];exact Aa _ _ _ _ _
 | some y=>
  obtain⟨r,a1⟩:=y;rw[e]at o;have o:jE t ex st=(((st.aV.length+r.sz-1:Nat):Int),true,lV st r a1):=o;rw[o];exact Mv h st _ r a1
theorem Ib{t:tB}{ex:gS->Int×Bool×gS}{D:Nat->Option (Rx×Nat)}(h:Vo ex D)(st:gS):∀(n:Nat)(r:Rx)(a:Nat),
  Qt (kE t ex n ((st.aV.length+r.sz-1:Nat):Int) true (lV st r a)) st (kO t D n r a):=by
 intro n
 induction n with
 | zero=>intro r a;rfl
 | succ k ih=>
  intro r a;rw[kE,kO,aA (by decide)];rw[show gG t 124 (lV st r a)=kU t 124 a from rfl];by_cases J:kU t 124 a=false
  ·rw[aB J,aB J];rfl
  ·rw[aA J,aA J];have o:=Ta (t:=t) h (iO (lV st r a));rw[show(iO (lV st r a)).at_=a+1 from rfl]at o;have Q:∀C F,lV (iO (lV st r a)) C F=lV (lV st r a) C F:=λ _ _=>rfl
   cases e:vQ t D (a+1)with
   | none=>
    rw[e]at o;have o:(mI t ex (iO (lV st r a))).2.1=false:=o;rw[o];exact N8 _ _ _ _ _
   | some y=>
    obtain⟨C,F⟩:=y;rw[e]at o;have o:mI t ex (iO (lV st r a))=((((lV st r a).aV.length+C.sz-1:Nat):Int),true,lV (lV st r a) C F):=o;rw[o];simp only;rw[d9];have I:(lV (lV st r a) C F).aV.length=st.aV.length+(Rx.alt r C).sz-1:=by
     rw[M5,M5];show _=st.aV.length+(r.sz+C.sz+1)-1;omega
    rw[I];exact ih (.alt r C) F
theorem j8(t:tB):∀f,Vo (lI t f) (kR t f):=by
 intro f
 induction f with
 | zero=>intro st;rfl
 | succ k ih=>
  intro st;rw[lI,kR];have o:=Ta (t:=t) ih st
  cases e:vQ t (kR t k) st.at_ with
  | none=>
   rw[e]at o;have o:(mI t (lI t k) st).2.1=false:=o;rw[o];exact N8 _ _ _ _ _
  | some y=>
   obtain⟨r,a1⟩:=y;rw[e]at o;have o:mI t (lI t k) st=(((st.aV.length+r.sz-1:Nat):Int),true,lV st r a1):=o;rw[o];exact Ib ih st _ r a1
structure CM(w:tW)(top cg n K:Nat)(yb:Nat->Nat)(zb:Nat->Nat->Nat)(ns:Nat->Nat)(tk:Nat->Nat->Nat)(nx:Nat->Nat->Nat->Int):Prop where
 cc:∀c,c<n->w.cell? ⟨cg,c,none⟩=some (.slice (some ⟨yb c,0,none⟩) (ns c) (ns c))
 tc:∀c s,c<n->s<ns c->w.cell? ⟨yb c,s*2,none⟩=some (.int .i64 (tk c s))
 nc:∀c s,c<n->s<ns c->w.cell? ⟨yb c,s*2+1,none⟩=some (.slice (some ⟨zb c s,0,none⟩) K K)
 lc:∀c s k,c<n->s<ns c->k<K->w.cell? ⟨zb c s,k,none⟩=some (.int .i64 (nx c s k))
 b0:cg<top
 b1:∀c,c<n->yb c<top
 b2:∀c s,c<n->s<ns c->zb c s<top
theorem CM.below{w w':tW}{yb:Nat->Nat}{zb:Nat->Nat->Nat}{ns:Nat->Nat}{tk:Nat->Nat->Nat}{nx:Nat->Nat->Nat->Int}(h:CM w top cg n K yb zb ns tk nx)(D:Below B w w')(F:top<=B):CM w' top cg n K yb zb ns tk nx:=
 ⟨λ c o=>(D.cell (p:=⟨cg,c,none⟩) (LO h.b0 F)).trans (h.cc c o),λ c s o C=>(D.cell (p:=⟨yb c,s*2,none⟩) (LO (h.b1 c o) F)).trans (h.tc c s o C),λ c s o C=>(D.cell (p:=⟨yb c,s*2+1,none⟩) (LO (h.b1 c o) F)).trans (h.nc c s o C),
  λ c s k o C I=>(D.cell (p:=⟨zb c s,k,none⟩) (LO (h.b2 c s o C) F)).trans (h.lc c s k o C I),h.b0,h.b1,h.b2⟩
def mJ(ns:Nat->Nat)(nx:Nat->Nat->Nat->Int)(n g h:Nat):Bool:=decide (∀c,c<n->∀s,s<ns c->nx c s g=nx c s h)
theorem GH{ns:Nat->Nat}{nx:Nat->Nat->Nat->Int}{n g h c s:Nat}(C:c<n)(D:s<ns c)(o:nx c s g≠nx c s h):mJ ns nx n g h=false:=by
 unfold mJ;rw[aF];intro q;exact o (q c C s D)
theorem Ed{ns:Nat->Nat}{nx:Nat->Nat->Nat->Int}(o:∀c,c<n->∀s,s<ns c->nx c s g=nx c s h):mJ ns nx n g h=true:=by
 unfold mJ;rw[aE];exact o
def G7(x:Int):Nat:=if x= -1 then 255 else x.toNat%256
def uX(q:Nat->Nat->Bool):Nat->Nat->List Nat->List Nat->List Nat×List Nat
 | 0,_,aK,aN=>(aK,aN)
 | d+1,s,aK,aN=>
  if gW q aN s aN.length=aN.length then uX q d (s+1) (aK++[aN.length]) (aN++[s])
  else uX q d (s+1) (aK++[gW q aN s aN.length]) aN
def mR(n:Nat)(q:Nat->Nat->Bool):List Nat×List Nat:=uX q n 0 [] []
theorem CM.raise{w:tW}{o:Nat}{yb:Nat->Nat}{zb:Nat->Nat->Nat}{ns:Nat->Nat}{tk:Nat->Nat->Nat}{nx:Nat->Nat->Nat->Int}(h:CM w top cg n K yb zb ns tk nx)(C:top<=o):CM w o cg n K yb zb ns tk nx:=
 ⟨h.cc,h.tc,h.nc,h.lc,LO h.b0 C,λ c D=>LO (h.b1 c D) C,λ c s D F=>LO (h.b2 c s D F) C⟩
theorem qA{B':Nat}{a b:tW}(h:Below B a b)(C:B'<=B):Below B' a b:=⟨h.os,h.tape,h.output,h.size,λ k o=>h.block k (LO o C)⟩
theorem Y3{P:Program}(w:tW){ops:Array Oper}{rest:List Oper}{o:Oper}{a:Act}{Q:Exit->Act->tW->Prop}(Z:o.guard=none)(s x:Operand)(t:TypeId)
  (ho:o.op=.call {callee:= .builtin .append,args:= #[s,x],argTypes:= #[t,t]})
  (aH:Nat) (e:TypeId) (z:tV) (size C:Nat) (ht:P.underlying t=some (.slice e)) (F:(P.info? e).map (λ i=>(i.zero,i.size,i.bytes))=some (some z,size,C))
  (U:z.cells.size=size) (V:0<size) (X:C<=1000)
  (v:tV) (n:Nat) (xs:List tV) (cs:List tV) (J:TypeId) (hs:a.eval s=v) (I:w.ownsRow aH e size v n xs)
  (B:Nat) (hB:w.heap.size=B) (hx:a.eval x=.slice (some ⟨B,0,none⟩) 2 2) (hl:cs.length=2*size) (h1:∀u∈cs,u.oneCell'=true)
  (hn:n<=1000000000) (Y:aH<=w.heap.size)
  (h:∀g aJ w',w'.ownsRow aH e size (.slice (some ⟨g,0,none⟩) (n+2) aJ) (n+2) (xs++cs)->(w.alloc (.cells cs.toArray J)).grownBy w' v.ownBlock->(v.ownBlock=some g\/g=w.heap.size+1)->g<w'.heap.size->
   wpList P ops Q rest (a.put o.dst (.slice (some ⟨g,0,none⟩) (n+2) aJ)) w'):wpList P ops Q (o::rest) a (w.alloc (.cells cs.toArray J)):=by
 subst hB;obtain⟨i,hi,hz,D,hb⟩:=QS F;refine wpList_append_lies _ Z s x t ho aH e i z size C ht hi hz D hb U V v n xs hs (I.alloc _) ⟨w.heap.size,0,none⟩ 2 2 cs hx (by omega) ?_ h1 (by omega) (by unfold QW;omega) ?_ (by simp;omega) (w.heap.size+1) (by simp) h
 ·have:=World.news_of_block (w:=w.alloc (.cells cs.toArray J)) (B:=w.heap.size) (cs:=cs.toArray) (t:=J) (fr:=(0,0)) (heap_alloc_new w _);simpa using this
 ·have:=Nat.mul_le_mul (show n+2<=1000000002 by omega) X;omega
def oE(l:List UInt8):List tV:=l.map (λ b=> .int .u8 (b.toNat:Int))
theorem R4(h:n<256):(((LF n).toNat:Nat):Int)=(n:Int):=by
 rw[UInt8.toNat_ofNat'];omega
theorem Ol(l:List UInt8){n:Nat}(h:n<256):oE l++[.int .u8 (n:Int)]=oE (l++[LF n]):=by
 unfold oE;rw[NO,OL,PF,R4 h]
theorem No(l:List UInt8){n m:Nat}(h:n<256)(o:m<256):oE l++[.int .u8 (n:Int),.int .u8 (m:Int)]=oE (l++[LF n,LF m]):=by
 unfold oE;rw[NO,OL,OL,PF,R4 h,R4 o]
def oS:Nat->(Nat->List UInt8)->List UInt8
 | 0,_=>[]
 | k+1,f=>oS k f++f k
theorem nZ(k:Nat)(f:Nat->List UInt8):oS (k+1) f=oS k f++f k:=rfl
theorem I5(q:Nat->Nat->Bool):∀(d s:Nat)(aK aN:List Nat),aK.length=s->aN.length<=s->(∀x∈aN,x<s)->(∀x∈aK,x<aN.length)->(0<s->0<aN.length)->
  (uX q d s aK aN).1.length=s+d/\(uX q d s aK aN).2.length<=s+d/\(∀x∈(uX q d s aK aN).2,x<s+d)/\(∀x∈(uX q d s aK aN).1,x<(uX q d s aK aN).2.length)/\(0<s+d->0<(uX q d s aK aN).2.length)
 | 0,s,aK,aN,h1,h2,h3,h4,h5=>⟨h1,h2,h3,h4,h5⟩
 | d+1,s,aK,aN,h1,h2,h3,h4,h5=>by
  rw[uX];have e:s+(d+1)=(s+1)+d:=by omega
  rw[e];by_cases C:gW q aN s aN.length=aN.length
  ·rw[aB C];refine I5 q d (s+1) _ _ (by simp[h1]) (by simp;omega) (λ x o=>?_) (λ x o=>?_) (λ _=>by simp)
   ·rcases LN.1 o with h|h
    ·have:=h3 x h;omega
    ·rw[LH]at h;omega
   ·rw[LJ];rcases LN.1 o with h|h
    ·have:=h4 x h;simp;omega
    ·rw[LH]at h;simp;omega
  ·rw[aA C];have D:=tF q aN s aN.length;refine I5 q d (s+1) _ _ (by simp[h1]) (by omega) (λ x o=>by have:=h3 x o;omega) (λ x o=>?_) (λ _=>by omega);rcases LN.1 o with h|h
   ·exact h4 x h
   ·rw[LH]at h;omega
theorem K8(q:Nat->Nat->Bool)(K:Nat):(mR K q).1.length=K/\(mR K q).2.length<=K/\(∀x∈(mR K q).2,x<K)/\(∀x∈(mR K q).1,x<(mR K q).2.length)/\(0<K->0<(mR K q).2.length):=by
 have:=I5 q K 0 [] [] rfl lR (λ x o=>absurd o LU) (λ x o=>absurd o LU) (λ h=>absurd h (PQ _));simpa[mR]using this
def tM(aX:List ((Nat->Bool)×Int×Int))(k:Nat):Nat:=(aX.map (λ x=>x.2.1.toNat)).getD k 0
def S7(tk:Nat->Nat->Nat)(nx:Nat->Nat->Nat->Int)(fi:List Nat)(c s:Nat):List UInt8:= [LF (tk c s)]++oS fi.length (λ i=>[LF (G7 (nx c s (fi.getD i 0)))])
def sX(aX:List ((Nat->Bool)×Int×Int)):List UInt8:= [LF 83,LF 84,LF 1,LF aX.length]
def Jv(aX:List ((Nat->Bool)×Int×Int))(n K:Nat)(bG ns:Nat->Nat)(tk:Nat->Nat->Nat)(nx:Nat->Nat->Nat->Int):List UInt8:=
 sX aX++oS aX.length (λ k=>[LF (tM aX k)])
 ++[LF n,LF ((mR K (mJ ns nx n)).2.length-1)]++oS 256 (λ b=>[LF ((mR K (mJ ns nx n)).1.getD (bG b) 0)])
 ++oS n (λ c=>[LF (ns c)]++oS (ns c) (S7 tk nx (mR K (mJ ns nx n)).2 c))
def S4(ls:List (List (Nat×List Int)))(c:Nat):Nat:=(ls.getD c []).length
def Vj(ls:List (List (Nat×List Int)))(c s:Nat):Nat:=((ls.getD c []).getD s (0,[])).1
def V7(ls:List (List (Nat×List Int)))(c s k:Nat):Int:=((ls.getD c []).getD s (0,[])).2.getD k 0
theorem Aj{α:Type}{f:α->List tV}(o:∀x,(f x).length=m):∀(l:List α)(k i:Nat)(x:α),l[k]?=some x->i<m->(l.flatMap f)[k*m+i]?=(f x)[i]?
 | [],k,i,x,h,_=>by simp at h
 | a::l,0,i,x,h,hi=>by
  simp at h;subst h;rw[OK,PT,LR,LQ (by rw[o];exact hi)]
 | a::l,k+1,i,x,h,hi=>by
  rw[NK]at h;rw[OK,LS (by rw[o,PU];omega),o];rw[show(k+1)*m+i-m=k*m+i by rw[PU];omega];exact Aj o l k i x h hi
theorem J7{α:Type}{f:α->List tV}(o:∀x,(f x).length=m){w:tW}{g:Nat}{l:List α}(h:w.rangeAt g 0 (l.flatMap f)){k:Nat}{x:α}(D:l[k]?=some x):w.rangeAt g (k*m) (f x):=λ i v C=>by
 have hi:i<m:=by rw[<-o x];exact(LG.1 C).1
 have:=h (k*m+i) v (by rw[Aj o l k i x D hi];exact C)
 rwa [LR]at this
theorem vP{w:tW}{xs:List tV}(h:w.ownsRow aH e size (.slice (some ⟨g,0,none⟩) n aJ) n xs):w.rangeAt g 0 xs:=λ i v o=>by
 have:=h.cells rfl i v o;rw[wG]at this;rw[LR];exact this
structure AF(st:gS):Prop where
 nn:st.aV.length<=1000
 n0:0<st.aV.length
 ok:Ix st.aV
 r0:0<st.aX.length
 r1:st.aX.length<=255
 ro:∀x∈st.aX,0<=x.2.2/\x.2.2<st.aV.length
 be:∀x∈st.aX,0<=x.2.1/\x.2.1<=255
 p0:0<st.aW.length
 p1:st.aW.length<=10
 g0:0<(qG st.aW).2.length
 g1:(qG st.aW).2.length<=256
 gl:∀x∈(qG st.aW).1,x<(qG st.aW).2.length
structure Be(K:Nat)(ls:List (List (Nat×List Int))):Prop where
 l1:ls.length<=255
 s1:∀l∈ls,l.length<=255
 t1:∀l∈ls,∀z∈l,z.1<=255
 k1:∀l∈ls,∀z∈l,z.2.length=K
 x1:∀l∈ls,∀z∈l,∀y∈z.2,y= -1\/(0<=y/\y<=255)
theorem Be.at{ls:List (List (Nat×List Int))}(h:Be K ls):(∀c,c<ls.length->S4 ls c<=255)/\(∀c s,c<ls.length->s<S4 ls c->Vj ls c s<=255)/\(∀c s k,c<ls.length->s<S4 ls c->k<K->V7 ls c s k= -1\/(0<=V7 ls c s k/\V7 ls c s k<=255)):=by
 have o:∀c,c<ls.length->ls.getD c []∈ls:=λ c o=>by rw[LC,LD o];exact LZ o
 have D:∀(l:List (Nat×List Int)) s,s<l.length->l.getD s (0,[])∈l:=λ l s D=>by rw[LC,LD D];exact LZ D
 refine⟨λ c C=>h.s1 _ (o c C),λ c s C F=>h.t1 _ (o c C) _ (D _ s F),λ c s k C F Q=>h.x1 _ (o c C) _ (D _ s F) _ ?_⟩;have J:=h.k1 _ (o c C) _ (D _ s F);have I:∀r:List Int,r.length=K->r.getD k 0∈r:=λ r e=>by rw[LC,LD (by omega)];exact LZ _
 exact I _ J
theorem L6:∀(l:List Int)(x:Int),jT l x<=l.length
 | [],_=>lR
 | a::r,x=>by
  unfold jT;split
  ·exact zL
  ·have:=L6 r x;simp;omega
theorem K0(al:Nat->Int):∀(d b:Nat)(bG:List Nat)(P:List Int),P.length<=b->(0<b->0<P.length)->(∀x∈bG,x<P.length)->
  (U9 al d b bG P).2.length<=b+d/\(0<b+d->0<(U9 al d b bG P).2.length)/\∀x∈(U9 al d b bG P).1,x<(U9 al d b bG P).2.length
 | 0,b,bG,P,h1,h2,h3=>⟨h1,h2,h3⟩
 | d+1,b,bG,P,h1,h2,h3=>by
  rw[U9,show b+(d+1)=(b+1)+d by omega];have D:=L6 P (al b);by_cases C:jT P (al b)=P.length
  ·rw[aB C];refine K0 al d (b+1) _ _ (by simp;omega) (λ _=>by simp) (λ x o=>?_);rw[LJ];rcases LN.1 o with h|h
   ·have:=h3 x h;simp;omega
   ·rw[LH]at h;simp;omega
  ·rw[aA C];refine K0 al d (b+1) _ _ (by omega) (λ _=>by omega) (λ x o=>?_);rcases LN.1 o with h|h
   ·exact h3 x h
   ·rw[LH]at h;omega
theorem Dk(aW:List (Nat->Bool)):0<(qG aW).2.length/\(qG aW).2.length<=256/\∀x∈(qG aW).1,x<(qG aW).2.length:=by
 obtain⟨o,D,F⟩:=K0 (G2 aW) 256 0 [] [] lR (λ h=>absurd h (PQ _)) (λ x C=>absurd C LU);exact⟨D (by omega),by rw[LR]at o;exact o,F⟩
abbrev gX:=(Nat->Bool)×Int×Rx
def lA(t:tB)(a:Nat):Option (Int×Nat):=if 65<=gF t a/\gF t a<69 then some (gF t a-65,a+1)else none
def pR(t:tB)(a:Nat):Option (Int×Nat):=
 if kU t 46 a=true then some (0,a+1)
 else if kU t 45 a=true then some (1,a+1)
 else match lA t a with
  | none=>none
  | some (x,a1)=>some (x+2,a1)
def jY(t:tB):Nat->(Nat->Bool)->Int->Nat->Option ((Nat->Bool)×Nat)
 | 0,_,_,_=>none
 | n+1,f,aZ,a=>match lA t a with
  | none=>some (f,a)
  | some (x,a1)=>if x<=aZ then none else jY t n (sT f x) x a1
def rW(t:tB)(a:Nat):Option ((Nat->Bool)×Nat):=match lA t a with
 | none=>none
 | some (x,a1)=>jY t 5 (sT gJ x) x a1
def oU(t:tB)(a:Nat):Option (gX×Nat):=match rW t a with
 | none=>none
 | some (f,a1)=>if kU t 32 a1=false then none else match kR t (t.size+1) (a1+1)with
  | none=>none
  | some (r,a2)=>if kU t 32 a2=false then none else match pR t (a2+1)with
   | none=>none
   | some (b,a3)=>some ((f,b,r),a3)
def kF(t:tB):Nat->List gX->Nat->Option (List gX×Nat)
 | 0,_,_=>none
 | n+1,l,a=>if kU t 10 a=false then some (l,a)else match oU t (a+1)with
  | none=>none
  | some (x,a1)=>kF t n (l++[x]) a1
def I6(t:tB):Option (List gX×Nat):=match oU t 0 with
 | none=>none
 | some (x,a)=>kF t (t.size+1) [x] a
def vE(t:tB):Option (List gX):=match I6 t with
 | none=>none
 | some (l,a)=>if a=t.size/\l.length<=8 then some l else none
def kS(st:gS)(x:gX)(a:Nat):gS:=⟨a,st.aX++[(x.1,x.2.1,((st.aV.length+x.2.2.sz-1:Nat):Int))],st.aV++x.2.2.flat st.aV.length st.aW.length,st.aW++x.2.2.fns⟩
def fW:gS->List gX->gS
 | st,[]=>st
 | st,x::l=>fW (kS st x st.at_) l
theorem J8(t:tB)(st:gS):p8 (gE t st) st (lA t st.at_):=by
 unfold gE lA;split
 ·rfl
 ·rfl
theorem Pe(t:tB)(st:gS):p8 (jQ t st) st (pR t st.at_):=by
 unfold jQ pR;simp only[qE];by_cases h:kU t 46 st.at_=true
 ·rw[aB h,aB h];rfl
 ·rw[aA h,aA h];by_cases C:kU t 45 st.at_=true
  ·rw[aB C,aB C];rfl
  ·rw[aA C,aA C];have o:=J8 t st
   cases e:lA t st.at_ with
   | none=>
    rw[e]at o;have o:(gE t st).2.1=false:=o;rw[aA (by rw[o];decide)];rfl
   | some y=>
    obtain⟨x,a1⟩:=y;rw[e]at o;have o:gE t st=(x,true,vI st a1):=o;rw[o];rfl
theorem Ew(t:tB):∀(n:Nat)(f:Nat->Bool)(aZ:Int)(st:gS),Oo (nD t n f aZ st) st (jY t n f aZ st.at_):=by
 intro n
 induction n with
 | zero=>intro f aZ st;rfl
 | succ k ih=>
  intro f aZ st;rw[nD,jY];have C:=J8 t st
  cases e:lA t st.at_ with
  | none=>
   rw[e]at C;have o:(gE t st).2.1=false:=C;rw[aB o];have D:(gE t st).2.2=st:=by
    unfold gE at o⊢;split at o
    ·cases o
    ·rename_i h;rw[aA h]
   rw[D];rfl
  | some y=>
   obtain⟨x,a1⟩:=y;rw[e]at C;have C:gE t st=(x,true,vI st a1):=C;rw[C,aA (by simp)];simp only;by_cases h:x<=aZ
   ·rw[aB h,aB h];rfl
   ·rw[aA h,aA h];have:=ih (sT f x) x (vI st a1);rw[show(vI st a1).at_=a1 from rfl]at this
    cases e2:jY t k (sT f x) x a1 with
    | none=>rw[e2]at this;exact this
    | some z=>rw[e2]at this;exact this
theorem Ur(t:tB)(st:gS):Oo (iU t st) st (rW t st.at_):=by
 unfold iU rW;have o:=J8 t st
 cases e:lA t st.at_ with
 | none=>
  rw[e]at o;have o:(gE t st).2.1=false:=o;rw[aB o];rfl
 | some y=>
  obtain⟨x,a1⟩:=y;rw[e]at o;have o:gE t st=(x,true,vI st a1):=o;rw[o,aA (by simp)];simp only;have:=Ew t 5 (sT gJ x) x (vI st a1);rw[show(vI st a1).at_=a1 from rfl]at this
  cases e2:jY t 5 (sT gJ x) x a1 with
  | none=>rw[e2]at this;exact this
  | some z=>rw[e2]at this;exact this
def KX(p:Bool×gS)(st:gS):Option (gX×Nat)->Prop
 | none=>p.1=false
 | some (x,a)=>p=(true,kS st x a)
theorem Mo(t:tB)(st:gS):KX (nE t st) st (oU t st.at_):=by
 unfold nE oU;have F:=Ur t st
 cases e:rW t st.at_ with
 | none=>
  rw[e]at F;have F:(iU t st).2.1=false:=F;rw[aB F];rfl
 | some y=>
  obtain⟨f,a1⟩:=y;rw[e]at F;have F:iU t st=(f,true,vI st a1):=F;rw[F,aA (by simp)];simp only[qE];rw[show(vI st a1).at_=a1 from rfl];by_cases I:kU t 32 a1=false
  ·rw[aB I,aB I];rfl
  ·rw[aA I,aA I];unfold F1;have D:=j8 t (t.size+1) (iO (vI st a1));rw[show(iO (vI st a1)).at_=a1+1 from rfl]at D
   cases e2:kR t (t.size+1) (a1+1)with
   | none=>
    rw[e2]at D;have D:(lI t (t.size+1) (iO (vI st a1))).2.1=false:=D;rw[aB D];rfl
   | some z=>
    obtain⟨r,o⟩:=z;rw[e2]at D;have D:lI t (t.size+1) (iO (vI st a1))=(((st.aV.length+r.sz-1:Nat):Int),true,lV st r o):=D;rw[D,aA (by simp)];simp only[qE];rw[show(lV st r o).at_=o from rfl];by_cases J:kU t 32 o=false
    ·rw[aB J,aB J];rfl
    ·rw[aA J,aA J];unfold F8;have C:=Pe t (iO (lV st r o));rw[show(iO (lV st r o)).at_=o+1 from rfl]at C
     cases e3:pR t (o+1)with
     | none=>
      rw[e3]at C;have C:(jQ t (iO (lV st r o))).2.1=false:=C;rw[aB C];rfl
     | some u=>
      obtain⟨b,Q⟩:=u;rw[e3]at C;have C:jQ t (iO (lV st r o))=(b,true,vI (iO (lV st r o)) Q):=C;rw[C,aA (by simp)]
      rfl
theorem H7:∀(l:List gX)(st:gS)(x:gX)(a:Nat),vI (kS (fW st l) x a) 0=vI (fW st (l++[x])) 0
 | [],_,_,_=>rfl
 | y::l,st,x,a=>H7 l (kS st y st.at_) x a
def KJ(p:Bool×gS):Option (List gX×Nat)->Prop
 | none=>p.1=false
 | some (l,a)=>p.1=true/\p.2.at_=a/\vI p.2 0=vI (fW jX l) 0
theorem Qg(st st':gS)(x:gX)(a:Nat)(h:vI st 0=vI st' 0):kS st x a=kS st' x a:=by
 unfold vI at h;injection h with _ o C D;unfold kS;rw[o,C,D]
theorem Ex(t:tB):∀(n:Nat)(l:List gX)(st:gS),vI st 0=vI (fW jX l) 0->KJ (lP t n true st) (kF t n l st.at_):=by
 intro n
 induction n with
 | zero=>intro l st _;rfl
 | succ k ih=>
  intro l st h;rw[kF];by_cases C:kU t 10 st.at_=false
  ·rw[aB C,B0 (by rw[qE];exact C)];exact⟨rfl,rfl,h⟩
  ·rw[aA C,zW (by rw[qE];simpa using C)];have o:=Mo t (iO st);rw[show(iO st).at_=st.at_+1 from rfl]at o
   cases e:oU t (st.at_+1)with
   | none=>
    rw[e]at o;have o:(nE t (iO st)).1=false:=o;rw[o,uW];rfl
   | some y=>
    obtain⟨x,a1⟩:=y;rw[e]at o;have o:nE t (iO st)=(true,kS (iO st) x a1):=o;rw[o];have D:kS (iO st) x a1=kS (fW jX l) x a1:=Qg _ _ x a1 h;rw[D];have:=ih (l++[x]) (kS (fW jX l) x a1) (H7 l jX x a1);exact this
theorem Vv(t:tB):KJ (mX t jX) (I6 t):=by
 unfold mX I6;have o:=Mo t jX;rw[show jX.at_=0 from rfl]at o
 cases e:oU t 0 with
 | none=>
  rw[e]at o;have o:(nE t jX).1=false:=o;rw[o,uW];rfl
 | some y=>
  obtain⟨x,a1⟩:=y;rw[e]at o;have o:nE t jX=(true,kS jX x a1):=o;rw[o];exact Ex t (t.size+1) [x] (kS jX x a1) rfl
theorem qK:∀(l:List gX)(st:gS),(fW st l).aX.length=st.aX.length+l.length
 | [],st=>rfl
 | x::l,st=>by rw[fW,qK l];simp[kS];omega
theorem By(t:tB):(120<t.size->kC t=1)/\(t.size<=120->vE t=none->kC t=2)/\
  (t.size<=120->∀l,vE t=some l->(10<(fW jX l).aW.length->kC t=3)/\((fW jX l).aW.length<=10->kC t=0/\vI (iB t) 0=vI (fW jX l) 0)):=by
 have C:=Vv t;unfold kC iB vE;refine⟨λ h=>by rw[aB h],λ h o=>?_,λ h l o=>?_⟩
 ·rw[aA (by omega)];have:sQ t (mX t jX)=false:=by
   unfold sQ
   cases e:I6 t with
   | none=>
    rw[e]at C;have C:(mX t jX).1=false:=C;rw[C];rfl
   | some y=>
    obtain⟨l,a⟩:=y;rw[e]at C o;obtain⟨J,Q,D⟩:=C;simp only at o;split at o
    ·cases o
    ·rename_i X;rw[J,Q];have I:(mX t jX).2.aX=(fW jX l).aX:=by have:=congrArg gS.aX D;exact this
     rw[I,qK];simp only[Bool.true_and,Bool.and_eq_false_iff,aF];have:jX.aX.length=0:=rfl;omega
  rw[aB this]
 ·rw[aA (by omega)]
  cases e:I6 t with
  | none=>rw[e]at o;cases o
  | some y=>
   obtain⟨U,a⟩:=y;rw[e]at C o;obtain⟨J,Q,D⟩:=C;simp only at o;split at o
   ·rename_i F;injection o with o;subst o;have I:(mX t jX).2.aX=(fW jX U).aX:=by have:=congrArg gS.aX D;exact this
    have V:(mX t jX).2.aW=(fW jX U).aW:=by have:=congrArg gS.aW D;exact this
    have Y:sQ t (mX t jX)=true:=by
     unfold sQ;rw[J,Q,I,qK,F.1];have:jX.aX.length=0:=rfl;simp;omega
    rw[aA (by rw[Y];decide),V];exact⟨λ h=>by rw[aB h],λ h=>⟨by rw[aA (by omega)],D⟩⟩
   ·cases o
def Mr(f:Nat->Bool):Prop:=∃b,b<256/\f b=true
def Di(f:Nat->Bool):Prop:=∀b,126<b->f b=false
theorem GO{t:tB}(h:K9 t a=some (x,a')):∃b:Nat,x=(b:Int)/\b<=126:=by
 unfold K9 at h;split at h
 ·injection h with h;injection h with C D;exact⟨10,by rw[<-C];rfl,by omega⟩
 ·split at h
  ·injection h with h;injection h with C D;exact⟨32,by rw[<-C];rfl,by omega⟩
  ·split at h
   ·rename_i o;injection h with h;injection h with C D;have o:=o.1;unfold nQ at o;rw[aE]at o;exact⟨x.toNat,by omega,by omega⟩
   ·cases h
theorem L4{t sp:tB}(h:jK t sp a=some (x,a')):∃b:Nat,x=(b:Int)/\b<=126:=by
 unfold jK at h;split at h
 ·exact GO h
 ·split at h
  ·rename_i o;injection h with h;injection h with C D;unfold kV nQ at o;rw[NM,aE]at o;exact⟨x.toNat,by omega,by omega⟩
  ·cases h
theorem Cz{f:Nat->Bool}{x y:Nat}(h:x<=y)(o:y<=126):Mr (jI f x y):=⟨x,by omega,by unfold jI;simp;omega⟩
theorem Gz{f:Nat->Bool}{x y:Nat}(C:Di f)(D:y<=126):Di (jI f x y):=λ b o=>by
 unfold jI;rw[C b o];simp;omega
theorem De{t:tB}{f g:Nat->Bool}(D:Di f)(h:jP t f a=some (g,a')):Mr g/\Di g:=by
 unfold jP at h
 cases e:jK t kJ a with
 | none=>rw[e]at h;cases h
 | some y=>
  obtain⟨x,a1⟩:=y;obtain⟨b,rfl,C⟩:=L4 e;rw[e]at h;simp only at h;split at h
  ·injection h with h;injection h with o J;rw[<-o];exact⟨Cz lR C,Gz D C⟩
  ·cases e2:jK t kJ (a1+1)with
   | none=>rw[e2]at h;cases h
   | some z=>
    obtain⟨y,Q⟩:=z;obtain⟨c,rfl,F⟩:=L4 e2;rw[e2]at h;simp only at h;split at h
    ·cases h
    ·rename_i I;injection h with h;injection h with o J;rw[<-o];exact⟨Cz (by omega) F,Gz D F⟩
theorem Lw{t:tB}:∀(n:Nat)(f g:Nat->Bool)(a a':Nat),Mr f->Di f->lL t n f a=some (g,a')->Mr g/\Di g:=by
 intro n
 induction n with
 | zero=>intro f g a a' _ _ h;cases h
 | succ k ih=>
  intro f g a a' D o h;rw[lL]at h;split at h
  ·injection h with h;injection h with J _;rw[<-J];exact⟨D,o⟩
  ·cases e:jP t f a with
   | none=>rw[e]at h;cases h
   | some y=>
    obtain⟨I,C⟩:=y;rw[e]at h;obtain⟨F,Q⟩:=De o e;exact ih I g C a' F Q h
theorem Ll{t:tB}{g:Nat->Bool}(h:pY t a=some (g,a')):Mr g/\Di g:=by
 unfold pY at h
 cases e:jP t gJ a with
 | none=>rw[e]at h;cases h
 | some y=>
  obtain⟨D,o⟩:=y;rw[e]at h;obtain⟨C,F⟩:=De (λ _ _=>rfl) e;exact Lw _ D g o a' C F h
theorem Kn{t:tB}{g:Nat->Bool}(h:jC t a=some (g,a')):Mr g:=by
 unfold jC at h;split at h
 ·unfold K1 at h;split at h
  ·cases e:pY t (a+1+1)with
   | none=>rw[e]at h;cases h
   | some y=>
    obtain⟨C,I⟩:=y;rw[e]at h;obtain⟨_,F⟩:=Ll e;injection h with h;injection h with o _;rw[<-o];exact⟨255,by omega,by show(!(C 255))=true;rw[F 255 (by omega)];rfl⟩
  ·exact(Ll h).1
 ·split at h
  ·injection h with h;injection h with o _;rw[<-o];exact⟨0,by omega,rfl⟩
  ·cases e:jK t kI a with
   | none=>rw[e]at h;cases h
   | some y=>
    obtain⟨x,a1⟩:=y;obtain⟨b,rfl,D⟩:=L4 e;rw[e]at h;injection h with h;injection h with o _;rw[<-o];exact Cz lR D
def Rx.good(r:Rx):Prop:=∀f∈r.fns,Mr f
def P3(ex:Nat->Option (Rx×Nat)):Prop:=∀a r a',ex a=some (r,a')->r.good
theorem BT{r C:Rx}(h:r.good)(k:C.good):(Rx.cat r C).good:=λ f D=>by
 rcases LN.1 D with o|o
 ·exact h f o
 ·exact k f o
theorem Zh{r C:Rx}(h:r.good)(k:C.good):(Rx.alt r C).good:=λ f D=>by
 rcases LN.1 D with o|o
 ·exact h f o
 ·exact k f o
theorem Pt{t:tB}{ex:Nat->Option (Rx×Nat)}(D:P3 ex):P3 (mC t ex):=λ a r a' h=>by
 unfold mC at h;split at h
 ·cases e:ex (a+1)with
  | none=>rw[e]at h;cases h
  | some y=>
   obtain⟨F,C⟩:=y;rw[e]at h;simp only at h;split at h
   ·injection h with h;injection h with o _;rw[<-o];exact D _ _ _ e
   ·cases h
 ·cases e:jC t a with
  | none=>rw[e]at h;cases h
  | some y=>
   obtain⟨f,C⟩:=y;rw[e]at h;injection h with h;injection h with o _;rw[<-o];intro g hg;have hg:g∈ [f]:=hg;rw[LH]at hg;rw[hg];exact Kn e
theorem Z0{t:tB}{ex:Nat->Option (Rx×Nat)}(D:P3 ex):P3 (iZ t ex):=λ a r a' h=>by
 unfold iZ at h
 cases e:mC t ex a with
 | none=>rw[e]at h;cases h
 | some y=>
  obtain⟨I,J⟩:=y;have hg:=Pt D _ _ _ e;rw[e]at h;simp only at h;split at h
  ·injection h with h;injection h with o _;rw[<-o];exact hg
  ·rename_i F;injection h with h;injection h with o _;rw[<-o];intro f C;rw[(Ec F I 0 0).2.2.1]at C;exact hg f C
theorem Es{t:tB}{ex:Nat->Option (Rx×Nat)}(C:P3 ex):∀(n:Nat)(r:Rx)(a:Nat)(r':Rx)(a':Nat),r.good->lX t ex n r a=some (r',a')->r'.good:=by
 intro n
 induction n with
 | zero=>intro r a r' a' _ h;cases h
 | succ k ih=>
  intro r a r' a' o h;rw[lX]at h;split at h
  ·injection h with h;injection h with D _;rw[<-D];exact o
  ·cases e:iZ t ex a with
   | none=>rw[e]at h;cases h
   | some y=>
    obtain⟨I,F⟩:=y;rw[e]at h;exact ih _ _ _ _ (BT o (Z0 C _ _ _ e)) h
theorem Fy{t:tB}{ex:Nat->Option (Rx×Nat)}(o:P3 ex):P3 (vQ t ex):=λ a r a' h=>by
 unfold vQ at h
 cases e:iZ t ex a with
 | none=>rw[e]at h;cases h
 | some y=>
  obtain⟨D,C⟩:=y;rw[e]at h;exact Es o _ _ _ _ _ (Z0 o _ _ _ e) h
theorem Cy{t:tB}{ex:Nat->Option (Rx×Nat)}(C:P3 ex):∀(n:Nat)(r:Rx)(a:Nat)(r':Rx)(a':Nat),r.good->kO t ex n r a=some (r',a')->r'.good:=by
 intro n
 induction n with
 | zero=>intro r a r' a' _ h;cases h
 | succ k ih=>
  intro r a r' a' o h;rw[kO]at h;split at h
  ·injection h with h;injection h with D _;rw[<-D];exact o
  ·cases e:vQ t ex (a+1)with
   | none=>rw[e]at h;cases h
   | some y=>
    obtain⟨I,F⟩:=y;rw[e]at h;exact ih _ _ _ _ (Zh o (Fy C _ _ _ e)) h
theorem Px(t:tB):∀f,P3 (kR t f):=by
 intro f
 induction f with
 | zero=>intro a r a' h;cases h
 | succ k ih=>
  intro a r a' h;rw[kR]at h
  cases e:vQ t (kR t k) a with
  | none=>rw[e]at h;cases h
  | some y=>
   obtain⟨C,o⟩:=y;rw[e]at h;exact Cy ih _ _ _ _ _ (Fy ih _ _ _ e) h
structure tP(x:gX):Prop where
 b0:0<=x.2.1
 b5:x.2.1<=5
 c4:∀c,4<=c->x.1 c=false
 c0:∃c,c<4/\x.1 c=true
 g:x.2.2.good
theorem L0{t:tB}(h:lA t a=some (x,a')):∃c:Nat,x=(c:Int)/\c<4:=by
 unfold lA at h;split at h
 ·injection h with h;injection h with o _;exact⟨x.toNat,by omega,by omega⟩
 ·cases h
theorem Eo{t:tB}:∀(n:Nat)(f:Nat->Bool)(aZ:Int)(a:Nat)(g:Nat->Bool)(a':Nat),(∀c,4<=c->f c=false)->(∃c,c<4/\f c=true)->jY t n f aZ a=some (g,a')->(∀c,4<=c->g c=false)/\∃c,c<4/\g c=true:=by
 intro n
 induction n with
 | zero=>intro f aZ a g a' _ _ h;cases h
 | succ k ih=>
  intro f aZ a g a' o D h;rw[jY]at h
  cases e:lA t a with
  | none=>rw[e]at h;injection h with h;injection h with F _;rw[<-F];exact⟨o,D⟩
  | some y=>
   obtain⟨x,a1⟩:=y;obtain⟨c,rfl,I⟩:=L0 e;rw[e]at h;simp only at h;split at h
   ·cases h
   ·refine ih _ _ _ _ _ (λ d C=>?_) ?_ h
    ·unfold sT;rw[aA (by omega)];exact o d C
    ·exact⟨c,I,by unfold sT;rw[aB rfl]⟩
theorem Kt{t:tB}{x:gX}(h:oU t a=some (x,a')):tP x:=by
 unfold oU at h
 cases e:rW t a with
 | none=>rw[e]at h;cases h
 | some y=>
  obtain⟨f,a1⟩:=y;rw[e]at h;simp only at h;have D:(∀c,4<=c->f c=false)/\∃c,c<4/\f c=true:=by
   unfold rW at e
   cases e2:lA t a with
   | none=>rw[e2]at e;cases e
   | some z=>
    obtain⟨u,C⟩:=z;obtain⟨c,rfl,U⟩:=L0 e2;rw[e2]at e;refine Eo _ _ _ _ _ _ (λ d Q=>?_) ?_ e
    ·unfold sT;rw[aA (by omega)];rfl
    ·exact⟨c,U,by unfold sT;rw[aB rfl]⟩
  split at h
  ·cases h
  ·cases e2:kR t (t.size+1) (a1+1)with
   | none=>rw[e2]at h;cases h
   | some z=>
    obtain⟨r,C⟩:=z;rw[e2]at h;simp only at h;split at h
    ·cases h
    ·cases o:pR t (C+1)with
     | none=>rw[o]at h;cases h
     | some u=>
      obtain⟨b,V⟩:=u;rw[o]at h;injection h with h;injection h with J _;have I:0<=b/\b<=5:=by
       unfold pR at o;split at o
       ·injection o with o;injection o with F _;omega
       ·split at o
        ·injection o with o;injection o with F _;omega
        ·cases e5:lA t (C+1)with
         | none=>rw[e5]at o;cases o
         | some v=>
          obtain⟨c,X⟩:=v;obtain⟨d,rfl,Q⟩:=L0 e5;rw[e5]at o;injection o with o;injection o with F _;omega
      rw[<-J];exact⟨I.1,I.2,D.1,D.2,Px t _ _ _ _ e2⟩
theorem Fe{t:tB}:∀(n:Nat)(l:List gX)(a:Nat)(o:List gX)(a':Nat),(∀x∈l,tP x)->0<l.length->kF t n l a=some (o,a')->(∀x∈o,tP x)/\0<o.length:=by
 intro n
 induction n with
 | zero=>intro l a o a' _ _ h;cases h
 | succ k ih=>
  intro l a o a' C D h;rw[kF]at h;split at h
  ·injection h with h;injection h with F _;rw[<-F];exact⟨C,D⟩
  ·cases e:oU t (a+1)with
   | none=>rw[e]at h;cases h
   | some y=>
    obtain⟨x,a1⟩:=y;rw[e]at h;refine ih _ _ _ _ (λ z I=>?_) (by simp) h;rcases LN.1 I with q|q
    ·exact C z q
    ·rw[LH]at q;rw[q];exact Kt e
theorem wP{t:tB}{l:List gX}(h:vE t=some l):(∀x∈l,tP x)/\0<l.length/\l.length<=8:=by
 unfold vE I6 at h
 cases e:oU t 0 with
 | none=>rw[e]at h;cases h
 | some y=>
  obtain⟨x,a1⟩:=y;rw[e]at h;simp only at h
  cases e2:kF t (t.size+1) [x] a1 with
  | none=>rw[e2]at h;cases h
  | some z=>
   obtain⟨D,a'⟩:=z;rw[e2]at h;simp only at h;have:=Fe _ _ _ _ _ (λ z C=>by rw[LH]at C;rw[C];exact Kt e) (by simp) e2;split at h
   ·rename_i o;injection h with h;rw[<-h];exact⟨this.1,this.2,o.2⟩
   ·cases h
def xD(k:Nat)(x:Int×Int×Int):Prop:=0<=x.1/\x.1<=5/\(x.1=0->0<=x.2.1/\x.2.1<10)/\(x.1≠0->0<=x.2.1/\x.2.1<k/\0<=x.2.2/\x.2.2<k)
def mL(nb:Nat)(l:List (Int×Int×Int)):Prop:=∀k x,l[k]?=some x->xD (nb+k) x
theorem mL.app{l m:List (Int×Int×Int)}(h:mL nb l)(k:mL (nb+l.length) m):mL nb (l++m):=λ i x o=>by
 by_cases e:i<l.length
 ·rw[LQ e]at o;exact h i x o
 ·rw[LS (by omega)]at o;have:=k _ x o;rw[show nb+l.length+(i-l.length)=nb+i by omega]at this;exact this
theorem mL.one{x:Int×Int×Int}(h:xD nb x):mL nb [x]:=λ i y o=>by
 cases i with
 | zero=>simp at o;rw[<-o];exact h
 | succ j=>simp at o
theorem Rx.flat_ok:∀(r:Rx)(nb pb:Nat),pb+r.np<=10->mL nb (r.flat nb pb)
 | .pl f,nb,pb,h=>mL.one (by have h:pb+1<=10:=h;unfold xD;simp only;omega)
 | .cat a b,nb,pb,h=>by
  have h:pb+(a.np+b.np)<=10:=h;have:=a.sz_pos;have:=b.sz_pos;refine(a.flat_ok nb pb (by omega)).app ?_;rw[a.flat_len];refine(b.flat_ok _ _ (by omega)).app ?_;rw[b.flat_len];exact mL.one (by unfold xD;simp only;omega)
 | .alt a b,nb,pb,h=>by
  have h:pb+(a.np+b.np)<=10:=h;have:=a.sz_pos;have:=b.sz_pos;refine(a.flat_ok nb pb (by omega)).app ?_;rw[a.flat_len];refine(b.flat_ok _ _ (by omega)).app ?_;rw[b.flat_len];exact mL.one (by unfold xD;simp only;omega)
 | .opt a,nb,pb,h=>by
  have:=a.sz_pos;refine(a.flat_ok nb pb h).app ?_;rw[a.flat_len];exact mL.one (by unfold xD;simp only;omega)
 | .plus a,nb,pb,h=>by
  have:=a.sz_pos;refine(a.flat_ok nb pb h).app ?_;rw[a.flat_len];exact mL.one (by unfold xD;simp only;omega)
 | .star a,nb,pb,h=>by
  have:=a.sz_pos;refine(a.flat_ok nb pb h).app ?_;rw[a.flat_len];exact mL.one (by unfold xD;simp only;omega)
structure Iu(st:gS):Prop where
 no:mL 0 st.aV
 ro:∀x∈st.aX,0<=x.2.2/\x.2.2<st.aV.length
 be:∀x∈st.aX,0<=x.2.1/\x.2.1<=5
def mV:List gX->Nat
 | []=>0
 | x::l=>x.2.2.np+mV l
theorem rK:∀(l:List gX)(st:gS),(fW st l).aW.length=st.aW.length+mV l
 | [],st=>rfl
 | x::l,st=>by rw[fW,rK l];simp[kS,mV,Rx.fns_len];omega
theorem zS:∀(l:List gX)(st:gS),Iu st->(∀x∈l,tP x)->st.aW.length+mV l<=10->Iu (fW st l)
 | [],st,h,_,_=>h
 | x::l,st,h,hl,C=>by
  have D:=hl x ML;have C:st.aW.length+(x.2.2.np+mV l)<=10:=C;have F:=x.2.2.sz_pos;refine zS l _ ⟨?_,λ y o=>?_,λ y o=>?_⟩ (λ y o=>hl y (MM _ o)) ?_
  ·refine h.no.app ?_;rw[LR];exact x.2.2.flat_ok _ _ (by omega)
  ·show 0<=y.2.2/\y.2.2<((st.aV++x.2.2.flat st.aV.length st.aW.length).length:Nat);rw[LJ,Rx.flat_len];rcases LN.1 o with q|q
   ·have:=h.ro y q;omega
   ·rw[LH]at q;rw[q];simp only;omega
  ·rcases LN.1 o with q|q
   ·exact h.be y q
   ·rw[LH]at q;rw[q];exact⟨D.b0,D.b5⟩
  ·show(st.aW++x.2.2.fns).length+mV l<=10;rw[LJ,Rx.fns_len];omega
theorem It{t:tB}:∀(n:Nat)(o:Bool)(st:gS),st.at_<=t.size->st.aV.length<=3*st.at_->(lP t n o st).2.aV.length<=3*t.size:=by
 intro n
 induction n with
 | zero=>intro o st J Q;rw[lP];simp only;omega
 | succ k ih=>
  intro o st J Q;rw[lP];split
  ·simp only;omega
  ·split
   ·simp only;omega
   ·rename_i D;have F:=iV (t:=t) (b:=10) (st:=st) (by omega) (by simpa using D);have hg:=(S0 (t:=t) (st:=iO st) (by rw[iG];omega)).1;obtain⟨I,U,C,g4⟩:=hg;rw[iG]at I C;have e:(iO st).aV=st.aV:=rfl;rw[e]at C;exact ih _ _ U (by omega)
theorem Sk(t:tB):(iB t).aV.length<=3*t.size:=by
 unfold iB mX;have hg:=(S0 (t:=t) (st:=jX) zL).1;obtain⟨F,C,o,g4⟩:=hg;have e:jX.aV.length=0:=rfl;have D:jX.at_=0:=rfl;rw[e,D]at o;exact It _ _ _ C (by omega)
theorem AM:Iu jX:=⟨λ k x o=>by simp[jX]at o,λ x o=>absurd o LU,λ x o=>absurd o LU⟩
theorem L8{t:tB}(h:kC t=0):t.size<=120/\∃l,vE t=some l/\mV l<=10/\(iB t).aX=(fW jX l).aX/\(iB t).aV=(fW jX l).aV/\(iB t).aW=(fW jX l).aW:=by
 obtain⟨C,I,U⟩:=By t;by_cases Q:120<t.size
 ·rw[C Q]at h;cases h
 ·refine⟨by omega,?_⟩
  cases e:vE t with
  | none=>rw[I (by omega) e]at h;cases h
  | some l=>
   obtain⟨a,b⟩:=U (by omega) l e;by_cases o:10<(fW jX l).aW.length
   ·rw[a o]at h;cases h
   ·obtain⟨_,c⟩:=b (by omega);rw[rK]at o;have V:jX.aW.length=0:=rfl;have J:=congrArg gS.aX c;have D:=congrArg gS.aV c;have F:=congrArg gS.aW c;exact⟨l,rfl,by omega,J,D,F⟩
theorem GC{t:tB}(h:kC t=0):AF (iB t):=by
 obtain⟨hs,l,Z,hn,F,I,X⟩:=L8 h;obtain⟨k1,V,k3⟩:=wP Z;have e0:jX.aW.length=0:=rfl;have e4:jX.aX.length=0:=rfl;have C:=zS l jX AM k1 (by omega);have Y:=Sk t;have o:(fW jX l).aX.length=l.length:=by rw[qK];omega
 have D:(fW jX l).aW.length=mV l:=by rw[rK];omega
 obtain⟨g0,g1,g2⟩:=Dk (iB t).aW;have Q:0<mV l:=by
  cases l with
  | nil=>simp at V
  | cons x r=>have:=x.2.2.np_pos;show 0<x.2.2.np+mV r;omega
 have U:0<(fW jX l).aV.length:=by
  cases hr:(fW jX l).aX with
  | nil=>rw[hr]at o;simp at o;omega
  | cons x r=>have:=C.ro x (by rw[hr];exact ML);omega
 refine⟨by omega,by rw[I];exact U,?_,by rw[F,o];exact V,by rw[F,o];omega,?_,?_,by rw[X,D];exact Q,by rw[X,D];exact hn,g0,g1,g2⟩
 ·rw[I];intro k x J;have:=C.no k x J;rw[LR]at this;exact this
 ·rw[F,I];exact C.ro
 ·rw[F];intro x J;have:=C.be x J;omega
end Go.Stn
namespace Go.Proofs.YtgjgjgihceijnaaGreat
open Go.RowKit Go.Stn
variable {wb K aJ n0 pg B aH e g n nb i:Nat}{S bB G:List Int}{R:List (List Int)}{v:Option Nat}{ops:Array Oper}{rest:List Oper}{a:Act}
section
theorem kD.box(w:tW)(vf vl:tV)(aG:Nat->Int)(ty:TypeId)(B:Nat)(C:B=w.heap.size):kD (w.alloc (.cells (mQ vf vl aG) ty)) B vf vl aG:=by
 have o:∀i v,(mQ vf vl aG)[i]?=some v->(w.alloc (.cells (mQ vf vl aG) ty)).cell? ⟨B,i,none⟩=some v:=λ i v h=>(MN _ _ B i C).trans h
 refine⟨o 0 _ rfl,o 1 _ rfl,λ k D=>?_,λ i=>World.frozen?_alloc_at _ _ B i C⟩;have:k=0\/k=1\/k=2\/k=3\/k=4\/k=5\/k=6\/k=7\/k=8\/k=9:=by omega
 rcases this with rfl|rfl|rfl|rfl|rfl|rfl|rfl|rfl|rfl|rfl<;>exact o _ _ rfl
structure WK(w:tW)(wb:Nat)(num:Nat->Int)(S:List Int)(E:List (Nat×tV))(vs vst:tV):Prop where
 c0:w.cell? ⟨wb,0,none⟩=some vs
 nm:∀x,x<1024->w.cell? ⟨wb,1+x,none⟩=some (.int .i64 (num x))
 c2:w.cell? ⟨wb,1025,none⟩=some vst
 fz:∀i,w.frozen? ⟨wb,i,none⟩=false
 rs:w.ownsRow (wb+1) 103 1 vs S.length (pN S)
 rt:w.ownsRow (wb+1) 121 2 vst E.length (Ip E)
 ap:∀k,vs.ownBlock=some k->vst.ownBlock=some k->False
 hb:wb<w.heap.size
structure FW(w w':tW)(wb:Nat)(vs vst vs' vst':tV):Prop where
 os:w'.os=w.os
 tape:w'.tape=w.tape
 output:w'.output=w.output
 size:w.heap.size<=w'.heap.size
 block:∀k,k<w.heap.size->k≠wb->vs.ownBlock≠some k->vst.ownBlock≠some k->w'.heap[k]?=w.heap[k]?
 s1:∀k,k<w.heap.size->vs'.ownBlock=some k->vs.ownBlock=some k
 s2:∀k,k<w.heap.size->vst'.ownBlock=some k->vst.ownBlock=some k
theorem FW.trans{a b c:tW}{v1 t1 v2 t2 v3 D:tV}(h:FW a b wb v1 t1 v2 t2)(k:FW b c wb v2 t2 v3 D):FW a c wb v1 t1 v3 D:=
 ⟨k.os.trans h.os,k.tape.trans h.tape,k.output.trans h.output,NN h.size k.size,
  λ i hi o C F=>(k.block i (LO hi h.size) o (λ e=>C (h.s1 i hi e)) (λ e=>F (h.s2 i hi e))).trans (h.block i hi o C F),
  λ i hi e=>h.s1 i hi (k.s1 i (LO hi h.size) e),λ i hi e=>h.s2 i hi (k.s2 i (LO hi h.size) e)⟩
theorem FW.below{a b:tW}{v1 t1 v2 t2:tV}{num:Nat->Int}{E:List (Nat×tV)}(h:FW a b wb v1 t1 v2 t2)(o:WK a wb num S E v1 t1):Below wb a b:=
 ⟨h.os,h.tape,h.output,h.size,λ k C=>h.block k (by have:=o.hb;omega) (by omega) (λ e=>by have:=(o.rs.lt k e).1;omega) (λ e=>by have:=(o.rt.lt k e).1;omega)⟩
theorem FW.of_below{a b:tW}{v t:tV}(h:Bl a b):FW a b wb v t v t:=⟨h.os,h.tape,h.output,h.size,λ k o _ _ _=>h.block k o,λ _ _ e=>e,λ _ _ e=>e⟩
variable {w w':tW}{wb:Nat}{num:Nat->Int}{S:List Int}{E:List (Nat×tV)}{vs vst:tV}
theorem WK.below(h:WK w wb num S E vs vst)(o:Bl w w'):WK w' wb num S E vs vst:=by
 have cl:∀i,w'.cell? ⟨wb,i,none⟩=w.cell? ⟨wb,i,none⟩:=λ i=>o.cell (p:=⟨wb,i,none⟩) h.hb
 exact⟨(cl 0).trans h.c0,λ x C=>(cl _).trans (h.nm x C),(cl _).trans h.c2,λ i=>(o.frozen (p:=⟨wb,i,none⟩) h.hb).trans (h.fz i),wL h.rs o,wL h.rt o,h.ap,LO h.hb o.size⟩
theorem WK.drewN(h:WK w wb num S E vs vst)(q:Nat):WK (w.drewN q) wb num S E vs vst:=⟨h.c0,h.nm,h.c2,h.fz,h.rs,h.rt,h.ap,h.hb⟩
theorem WK.setN(h:WK w wb num S E vs vst)(x:Nat)(F:x<1024)(y:Int):WK (w.setCell ⟨wb,1+x,none⟩ (.int .i64 y)) wb (λ j=>if j=x then y else num j) S E vs vst:=by
 have o:∀j u,j≠1+x->w.cell? ⟨wb,j,none⟩=some u->(w.setCell ⟨wb,1+x,none⟩ (.int .i64 y)).cell? ⟨wb,j,none⟩=some u:=λ j u C D=>by
  rw[MB (h:=by intro e;injection e;omega)];exact D
 refine⟨o 0 _ (by omega) h.c0,λ j C=>?_,o _ _ (by omega) h.c2,λ i=>by rw[MW];exact h.fz i,QN h.rs (MO _) _,QN h.rt (MO _) _,h.ap,by have:=h.hb;simp[MG];omega⟩;by_cases e:j=x
 ·subst e;rw[aB rfl];exact NB _ _ _ (h.nm j C)
 ·rw[aA e];exact o _ _ (by omega) (h.nm j C)
theorem FW.set(w:tW)(wb i:Nat)(v:tV)(vs vst:tV):FW w (w.setCell ⟨wb,i,none⟩ v) wb vs vst vs vst:=
 ⟨rfl,rfl,rfl,by simp[MG],λ k _ o _ _=>MH _ _ _ _ o,λ _ _ e=>e,λ _ _ e=>e⟩
theorem WK.moreS{w4:tW}(h:WK w wb num S E vs vst){o:Obj}{x:Int}{g aJ:Nat}
  (V:w4.ownsRow (wb+1) 103 1 (.slice (some ⟨g,0,none⟩) (S.length+1) aJ) (S.length+1) (pN S++[.int .i64 x]))
  (C:(w.alloc o).grownBy w4 vs.ownBlock) (Q:vs.ownBlock=some g\/g=w.heap.size+1):
  WK (w4.setCell ⟨wb,0,none⟩ (.slice (some ⟨g,0,none⟩) (S.length+1) aJ)) wb num (S++[x]) E (.slice (some ⟨g,0,none⟩) (S.length+1) aJ) vst/\
  FW w (w4.setCell ⟨wb,0,none⟩ (.slice (some ⟨g,0,none⟩) (S.length+1) aJ)) wb vs vst (.slice (some ⟨g,0,none⟩) (S.length+1) aJ) vst:=by
 have b0:=h.hb;have Y:=C.size;simp at Y;have D:∀k,k<w.heap.size->vs.ownBlock≠some k->w4.heap[k]?=w.heap[k]? :=λ k F hv=>(C.block k (by simp;omega) (λ e=>hv e.symm)).trans (MC w o k F)
 have U:vs.ownBlock≠some wb:=λ e=>by have:=(h.rs.lt wb e).1;omega
 have cc:∀i,w4.cell? ⟨wb,i,none⟩=w.cell? ⟨wb,i,none⟩:=λ i=>OE (w:=w) (a:=⟨wb,i,none⟩) (D wb b0 U)
 have cf:∀i,w4.frozen? ⟨wb,i,none⟩=w.frozen? ⟨wb,i,none⟩:=λ i=>NZ (w:=w) (a:=⟨wb,i,none⟩) (D wb b0 U)
 have oc:∀j u,j≠0->w.cell? ⟨wb,j,none⟩=some u->(w4.setCell ⟨wb,0,none⟩ (.slice (some ⟨g,0,none⟩) (S.length+1) aJ)).cell? ⟨wb,j,none⟩=some u:=λ j u hj hu=>by
  rw[MB (h:=by intro e;injection e;omega),cc];exact hu
 have X:∀k,(MI (some ⟨g,0,none⟩) (S.length+1) aJ).ownBlock=some k->g=k:=λ k F=>by simpa[ME]using F
 refine⟨⟨NB (u:=vs) _ _ _ ((cc 0).trans h.c0),λ y hy=>oc _ _ (by omega) (h.nm y hy),oc _ _ (by omega) h.c2,λ i=>by rw[MW,cf];exact h.fz i,?_,?_,λ k Z J=>?_,by simp[MG];omega⟩,
  C.os,C.tape,C.output,by simp[MG];omega,λ k F I h2 _=>(MH _ _ _ _ I).trans (D k F h2),λ k F e=>?_,λ _ _ e=>e⟩
 ·rw[tX,LJ];exact QN V (MO _) _
 ·exact QN (iH h.rt (λ k F=>D k (h.rt.lt k F).2 (λ e=>h.ap k e F))) (MO _) _
 ·have e:=X k Z;subst e;rcases Q with I|I
  ·exact h.ap g I J
  ·have:=(h.rt.lt g J).2;omega
 ·have e':=X k e;subst e';rcases Q with I|I
  ·exact I
  ·omega
theorem WK.moreE{w4:tW}(h:WK w wb num S E vs vst){o:Obj}{x:Nat}{g aJ:Nat}
  (U:w4.ownsRow (wb+1) 121 2 (.slice (some ⟨g,0,none⟩) (E.length+1) aJ) (E.length+1) (Ip E++[.int .i64 (x:Int),.slice none 0 0]))
  (C:(w.alloc o).grownBy w4 vst.ownBlock) (J:vst.ownBlock=some g\/g=w.heap.size+1):
  WK (w4.setCell ⟨wb,1025,none⟩ (.slice (some ⟨g,0,none⟩) (E.length+1) aJ)) wb num S (E++[(x,.slice none 0 0)]) vs (.slice (some ⟨g,0,none⟩) (E.length+1) aJ)/\
  FW w (w4.setCell ⟨wb,1025,none⟩ (.slice (some ⟨g,0,none⟩) (E.length+1) aJ)) wb vs vst vs (.slice (some ⟨g,0,none⟩) (E.length+1) aJ):=by
 have b0:=h.hb;have Z:=C.size;simp at Z;have D:∀k,k<w.heap.size->vst.ownBlock≠some k->w4.heap[k]?=w.heap[k]? :=λ k F hv=>(C.block k (by simp;omega) (λ e=>hv e.symm)).trans (MC w o k F)
 have Q:vst.ownBlock≠some wb:=λ e=>by have:=(h.rt.lt wb e).1;omega
 have cc:∀i,w4.cell? ⟨wb,i,none⟩=w.cell? ⟨wb,i,none⟩:=λ i=>OE (w:=w) (a:=⟨wb,i,none⟩) (D wb b0 Q)
 have cf:∀i,w4.frozen? ⟨wb,i,none⟩=w.frozen? ⟨wb,i,none⟩:=λ i=>NZ (w:=w) (a:=⟨wb,i,none⟩) (D wb b0 Q)
 have oc:∀j u,j≠1025->w.cell? ⟨wb,j,none⟩=some u->(w4.setCell ⟨wb,1025,none⟩ (.slice (some ⟨g,0,none⟩) (E.length+1) aJ)).cell? ⟨wb,j,none⟩=some u:=λ j u hj hu=>by
  rw[MB (h:=by intro e;injection e;omega),cc];exact hu
 have V:∀k,(MI (some ⟨g,0,none⟩) (E.length+1) aJ).ownBlock=some k->g=k:=λ k F=>by simpa[ME]using F
 refine⟨⟨oc _ _ (by omega) h.c0,λ y hy=>oc _ _ (by omega) (h.nm y hy),NB (u:=vst) _ _ _ ((cc 1025).trans h.c2),λ i=>by rw[MW,cf];exact h.fz i,?_,?_,λ k X Y=>?_,by simp[MG];omega⟩,
  C.os,C.tape,C.output,by simp[MG];omega,λ k F I _ h3=>(MH _ _ _ _ I).trans (D k F h3),λ _ _ e=>e,λ k F e=>?_⟩
 ·exact QN (iH h.rs (λ k F=>D k (h.rs.lt k F).2 (λ e=>h.ap k F e))) (MO _) _
 ·rw[Zl,LJ];exact QN U (MO _) _
 ·have e:=V k Y;subst e;rcases J with I|I
  ·exact h.ap g X I
  ·have:=(h.rs.lt g X).2;omega
 ·have e':=V k e;subst e';rcases J with I|I
  ·exact I
  ·omega
end
theorem cX:(Tryz.prog.info? 103).map (λ i=>(i.zero,i.size,i.bytes))=some (some (.int .i64 0),1,8):=by kernel_rfl
def JU(w:tW)(wb:Nat)(num:Nat->Int)(S:List Int)(E:List (Nat×tV))(vs vst:tV)(w':tW):Prop:=∃C o,WK w' wb num S E C o/\FW w w' wb vs vst C o
theorem La(wb:Nat)(num:Nat->Int)(S:List Int)(E:List (Nat×tV))(vs vst vf vl:tV)(aG:Nat->Int)(bB:List Int)(x:Int)(w:tW)(hS:S.length<=2000)(hE:E.length<=2000)(hl:bB.length<=1000000)
  (h:WK w wb num S E vs vst) (hr:Df w vl bB) (hv:∀k,vl.ownBlock=some k->k<wb):
  QX LY 69 #[.pointer (some ⟨wb,0,none⟩),.agg (mQ vf vl aG),.int .i64 x] w λ e w'=>e=.returned (.tuple #[])/\JU w wb num (S++[x]) (E++[(yK bB x,.slice none 0 0)]) vs vst w':=by
 have V:Bl w (w.alloc (.cells (mQ vf vl aG) 108)):=bR.alloc lR _;have aT:=fV (kD.box w vf vl aG 108 w.heap.size rfl);have D:=fV (h.below V);have aR:QO (FW w (w.alloc (.cells (mQ vf vl aG) 108)) wb vs vst vs vst):=FW.of_below V;have aW:=fV (hr.below V (λ k hk=>by have:=hv k hk;have:=h.hb;omega));clear h hr V;go_enter func69,ntmps69;go_wp2_with (first|(refine wpList_boxTo rfl 108 (.tmp 1) rfl _ rfl w.heap.size rfl (mQ vf vl aG) rfl ?_)|fail);generalize w.alloc (.cells (mQ vf vl aG) 108)=W at*;refine(Se bB vl x w.heap.size vf aG W hl aT.o aW.o).mono ?_;rintro e w1 ⟨rfl,rfl⟩;obtain⟨tk,X⟩:=xE (yK bB x)
 rw[X];replace X:=fV X;obtain⟨va,aU,bN⟩:=gA D.o.rs;subst bN;obtain⟨ta,Y,bO⟩:=gA D.o.rt;subst bO;have c0:=D.o.c0;have f0:=D.o.fz 0;have J:=D.o.hb;have Q:some wb≠(MI va S.length aU).ownBlock:=λ e=>by have:=(D.o.rs.lt wb e.symm).1;omega
 go_upto_region 3 with(first|(at_builtin;refine gB w1 rfl (.tmp 13) (.tmp 15) 48 rfl (wb+1) 103 (.int .i64 0) 1 8 OB cX rfl (by decide) (by decide) (.slice va S.length aU) S.length (pN S) [.int .i64 x] _ rfl D.o.rs _ rfl rfl rfl (by simp[LK]) (by omega) (by omega) ?_;intro g4 cap4 w4 U C Z bC;have m3:=((gH C (k:=wb) J Q).1 0).trans c0;have n3:=((gH C (k:=wb) J Q).2 0).trans f0;have HM:=fV (D.o.moreS (x:=x) U C Z);clear c0 f0)|fail)
 have I:=fV HM.o.1;have bM:=fV (aR.o.trans HM.o.2);generalize w4.setCell ⟨wb,0,none⟩ (.slice (some ⟨g4,0,none⟩) (S.length+1) cap4)=w5 at*;clear HM U C Z bC m3 n3 Q D aT aW aR J;have c2:=I.o.c2;have f2:=I.o.fz 1025;have J:=I.o.hb;have Q:some wb≠(MI ta E.length Y).ownBlock:=λ e=>by have:=(I.o.rt.lt wb e.symm).1;omega
 go_wp2_with (first|(at_builtin;refine gB w5 rfl (.tmp 23) (.tmp 26) 110 rfl (wb+1) 121 (.agg #[.int .i64 0,.slice none 0 0]) 2 32 underlying110 cS rfl (by decide) (by decide) (.slice ta E.length Y) E.length (Ip E) [.int .i64 (tk:Int),.slice none 0 0] _ rfl I.o.rt _ rfl rfl rfl (by simp[LK]) (by omega) (by omega) ?_;intro g6 bT w6 aL F aO bS;have m6:=((gH F (k:=wb) J Q).1 1025).trans c2;have n6:=((gH F (k:=wb) J Q).2 1025).trans f2;have bK:=fV (I.o.moreE (x:=tk) aL F aO);clear c2 f2)|fail)
 go_end0
 refine⟨rfl,_,_,?_,bM.o.trans bK.o.2⟩;rw[X.o];exact bK.o.1
theorem cD:(Tryz.prog.info? 108).map (·.size)=some 12:=by kernel_rfl
theorem DO{a b:tW}{v1 t1 v2 t2:tV}(h:FW a b wb v1 t1 v2 t2):FW a b.drew wb v1 t1 v2 t2:=⟨h.os,h.tape,h.output,h.size,h.block,h.s1,h.s2⟩
def EE(bB:List Int)(S:List Int)(E:List (Nat×tV))(x:Int):List (Nat×tV):=if x<=0\/1024<=x then E else if x∈S then E else E++[(yK bB x,.slice none 0 0)]
def IK(w:tW)(wb:Nat)(bB:List Int)(S:List Int)(E:List (Nat×tV))(vs vst:tV)(x:Int)(w':tW):Prop:=
 ∃C D o,WK w' wb C (zA S x).2 (EE bB S E x) D o/\Ab C (zA S x).2/\FW w w' wb vs vst D o
theorem FX(wb:Nat)(num:Nat->Int)(S:List Int)(E:List (Nat×tV))(vs vst vf vl:tV)(aG:Nat->Int)(bB:List Int)(x:Int)(w:tW)(hS:pZ S)(V:Ab num S)(hE:E.length<=2000)(hl:bB.length<=1000000)
  (h:WK w wb num S E vs vst) (hr:Df w vl bB) (hv:∀k,vl.ownBlock=some k->k<wb):
  QX LY 71 #[.pointer (some ⟨wb,0,none⟩),.agg (mQ vf vl aG),.int .i64 x] w λ e w'=>e=.returned (.int .i64 (zA S x).1)/\IK w wb bB S E vs vst x w':=by
 have U:Bl w (w.alloc (.cells (mQ vf vl aG) 108)):=bR.alloc lR _;have aO:QO ((w.alloc (.cells (mQ vf vl aG) 108)).rangeAt w.heap.size 0 (mQ vf vl aG).toList):=mA w _ _;have C:=fV (h.below U);have J:QO (FW w (w.alloc (.cells (mQ vf vl aG) 108)) wb vs vst vs vst):=FW.of_below U;have aW:=fV (hr.below U (λ k hk=>by have:=hv k hk;have:=h.hb;omega));have eS:=yN hS;have eO:wb<w.heap.size:=h.hb;clear h hr U;by_cases Y:x<=0\/1024<=x
 ·have D:QO (zA S x=(-1,S)/\EE bB S E x=E):=⟨by unfold zA;rw[aB Y],by unfold EE;rw[aB Y]⟩
  rcases(show x<=0\/(0<x/\1024<=x) by omega)with h1|⟨h0,h1⟩
  ·have aR:decide (x<=0)=true:=by simp;omega
   go_enter func71,OO;go_wp2_with (first|(refine wpList_boxTo rfl 108 (.tmp 1) rfl _ rfl w.heap.size rfl (mQ vf vl aG) rfl ?_)|fail);go_ret;rw[D.o.1];exact⟨rfl,num,vs,vst,by rw[D.o.1,D.o.2];exact C.o,by rw[D.o.1];exact V,J.o⟩
  ·have aR:decide (x<=0)=false:=by simp;omega
   have eL:decide ((1024:Int)<=x)=true:=by simp;omega
   go_enter func71,OO;go_wp2_with (first|(refine wpList_boxTo rfl 108 (.tmp 1) rfl _ rfl w.heap.size rfl (mQ vf vl aG) rfl ?_)|fail);go_ret;rw[D.o.1];exact⟨rfl,num,vs,vst,by rw[D.o.1,D.o.2];exact C.o,by rw[D.o.1];exact V,J.o⟩
 ·obtain⟨k,rfl⟩:∃k:Nat,x=(k:Int):=⟨x.toNat,by omega⟩
  have F:k<1024:=by omega
  have X:k≠0:=by omega
  have aR:decide ((k:Int)<=0)=false:=by simp;omega
  have eL:decide ((1024:Int)<=(k:Int))=false:=by simp;omega
  have eR:(0:Int)<=(k:Int)/\(k:Int)<1024:=by omega
  have nk:=C.o.nm k F;by_cases Q:(k:Int)∈S
  ·have D:QO (zA S (k:Int)=(((jT S (k:Int):Nat):Int),S)/\EE bB S E (k:Int)=E):=⟨by unfold zA;rw[aA Y,aB Q],by unfold EE;rw[aA Y,aB Q]⟩
   have I:num k=((jT S (k:Int):Nat):Int):=by rw[V k F,aB ⟨Q,X⟩]
   have eT:((num k:Int)==0)=false:=by rw[aC];exact λ e=>(Lp hS V F X).1 e Q
   rw[<-I]at D;have HN:=fV V;generalize num k=nv at*;clear Y Q I hS V;go_enter func71,OO;go_wp2_with (first|(refine wpList_boxTo rfl 108 (.tmp 1) rfl _ rfl w.heap.size rfl (mQ vf vl aG) rfl ?_)|fail);go_ret;rw[D.o.1];exact⟨rfl,num,vs,vst,by rw[D.o.1,D.o.2];exact C.o,by rw[D.o.1];exact HN.o,J.o⟩
  ·have D:QO (zA S (k:Int)=(((S.length:Nat):Int),S++[(k:Int)])/\EE bB S E (k:Int)=E++[(yK bB (k:Int),.slice none 0 0)]):=⟨by unfold zA;rw[aA Y,aA Q],by unfold EE;rw[aA Y,aA Q]⟩
   have I:num k=0:=(Lp hS V F X).2 Q;have bM:=fV (Ob V X Q);rw[I]at nk;have c0:=C.o.c0;obtain⟨va,aU,bO⟩:=gA C.o.rs;subst bO;have fk:=C.o.fz (1+k);clear Y Q I hS V;go_enter func71,OO;go_wp2_with (first|(refine wpList_boxTo rfl 108 (.tmp 1) rfl _ rfl w.heap.size rfl (mQ vf vl aG) rfl ?_)|fail);generalize w.alloc (.cells (mQ vf vl aG) 108)=W at*
   go_region
   all_goals
    have bK:=fV ((C.o.setN k F (S.length:Int)).drewN 1);have cN:QO (FW w (W.setCell ⟨wb,1+k,none⟩ (.int .i64 (S.length:Int))).drew wb (.slice va S.length aU) vst (.slice va S.length aU) vst):=J.o.trans (DO (FW.set W wb (1+k) _ _ _));have bC:Below wb W (W.setCell ⟨wb,1+k,none⟩ (.int .i64 (S.length:Int))).drew:=⟨rfl,rfl,rfl,by simp[MG],λ j hj=>MH _ _ _ _ (by simp only;omega)⟩
    have cP:=fV (aW.o.below bC hv);have cF:QO ((W.setCell ⟨wb,1+k,none⟩ (.int .i64 (S.length:Int))).drew.rangeAt w.heap.size 0 (mQ vf vl aG).toList):=fY aO.o (MH _ _ _ _ (by simp only;omega));clear C J aW aO nk fk c0 bC;have bT:QO (WK (W.setCell ⟨wb,1+k,none⟩ (.int .i64 (S.length:Int))).drew wb (λ j=>if j=k then(S.length:Int)else num j) S E (.slice va S.length aU) vst):=bK;clear bK;generalize (W.setCell ⟨wb,1+k,none⟩ (.int .i64 (S.length:Int))).drew=W1 at*;go_wp2_with (first|(refine QP rfl 108 (.tmp 4) rfl w.heap.size 0 rfl (mQ vf vl aG).toList _ cF.o NF rfl cD ?_)|fail);refine(La wb _ S E _ vst vf vl aG bB (k:Int) W1 (by omega) hE hl bT.o cP.o hv).mono ?_;rintro e w2 ⟨rfl,bN,aT,Z,aL⟩;have bS:=fV Z;have eM:=fV (cN.o.trans aL);have eN:=Z.nm k F;rw[aB rfl]at eN;clear Z aL;go_wp2;go_ret;rw[D.o.1];exact⟨rfl,_,bN,aT,by rw[D.o.1,D.o.2];exact bS.o,by rw[D.o.1];exact bM.o,eM.o⟩
section
theorem FO{s:Nat}{zb:Nat->Nat}(o:s<=S.length)(x:Int):EE bB S (Jw bB S s zb K) x=Jw bB (zA S x).2 s zb K:=by
 unfold EE zA;split
 ·rfl
 ·split
  ·rfl
  ·unfold Jw;simp only[LJ,List.length_singleton];rw[List.range_succ,NO,PB];congr 1
   ·refine List.map_congr_left (λ i hi=>?_);have:=List.mem_range.1 hi;rw[LC,LC,LQ this]
   ·rw[aA (by omega),LC,LS lR];simp
variable {w w':tW}{wb:Nat}{num:Nat->Int}{S:List Int}{E:List (Nat×tV)}{vs:tV}
theorem WK.setNext{C:Nat}(h:WK w wb num S E vs (.slice (some ⟨C,0,none⟩) E.length aJ)){s t:Nat}{u:tV}(J:E[s]?=some (t,u))(v:tV):
  WK (w.setCell ⟨C,s*2+1,none⟩ v) wb num S (E.set s (t,v)) vs (.slice (some ⟨C,0,none⟩) E.length aJ):=by
 have F:=(h.rt.lt C rfl).1;have o:∀j a,w.cell? ⟨wb,j,none⟩=some a->(w.setCell ⟨C,s*2+1,none⟩ v).cell? ⟨wb,j,none⟩=some a:=λ j a Q=>by
  rw[MB (h:=by intro e;injection e;omega)];exact Q
 refine⟨o _ _ h.c0,λ x I=>o _ _ (h.nm x I),o _ _ h.c2,λ i=>by rw[MW];exact h.fz i,?_,?_,h.ap,by have:=h.hb;simp[MG];omega⟩
 ·refine iH h.rs (λ k D=>MH _ _ _ _ (λ e=>h.ap k D ?_));simp only at e;rw[e];rfl
 ·rw[OH,<-GP E s t u v J];exact Qa h.rt _ _
theorem cY:MF=(MI none 0 0::(MD 1024 (NQ .i64 0)++[MI none 0 0])).toArray:=by kernel_rfl
theorem fH:(Tryz.prog.info? 169).map (·.size)=some 1026:=by kernel_rfl
theorem cE:Tryz.zeroCells169.size=1026:=by rw[cY,List.size_toArray,List.length_cons,LJ,NH];rfl
theorem dN:Tryz.zeroCells169.all (·.oneCell')=true:=by
 rw[cY];refine QR (λ v C=>?_);rcases NR.1 C with rfl|D
 ·rfl
 ·rcases LN.1 D with o|o
  ·rw[(List.mem_replicate.1 o).2];rfl
  ·rw[LH]at o;rw[o];rfl
theorem WK.start(w:tW)(wb:Nat)(Q:wb=w.heap.size):WK ((w.alloc (.cells MF 169)).setCells wb 0 Tryz.zeroCells169.toList) wb (λ _=>0) [] [] (.slice none 0 0) (.slice none 0 0):=by
 subst Q;have U:=iD w MF 169 w.heap.size 1026 cE rfl;have F:=LM (w.alloc (.cells MF 169)) w.heap.size 0 Tryz.zeroCells169.toList (by rw[MR,cE];exact U);have I:=(fX Tryz.zeroCells169.toList 0 (w.alloc (.cells MF 169)) w.heap.size (PC 0 _) zL).size;simp at I;have J:Tryz.zeroCells169.toList=MI none 0 0::(MD 1024 (NQ .i64 0)++[MI none 0 0]):=by rw[cY]
 rw[J]at F ⊢;have C:∀k v,(MI none 0 0::(MD 1024 (NQ .i64 0)++[MI none 0 0]))[k]?=some v->((w.alloc (.cells MF 169)).setCells w.heap.size 0 (MI none 0 0::(MD 1024 (NQ .i64 0)++[MI none 0 0]))).cell? ⟨w.heap.size,k,none⟩=some v:=λ k v o=>by
  have:=F k v o;rw[LR]at this;exact this
 refine⟨C 0 _ rfl,λ x D=>C _ _ ?_,C 1025 _ ?_,λ i=>?_,NS _ _ _ _,NS _ _ _ _,(λ k o _=>by cases o),?_⟩
 ·rw[Nat.add_comm,NK,LQ (by rw[NH];exact D),List.getElem?_replicate,aB D]
 ·rw[NK,LS (by rw[NH];omega),NH];rfl
 ·rw[uV,ON]
 ·rw[J]at I;omega
end
def A5(w:tW)(wb:Nat)(vs vst:tV)(zb:Nat->Nat)(R:List (List Int)):Prop:=
 ∀i,i<R.length->wb<zb i/\zb i<w.heap.size/\vs.ownBlock≠some (zb i)/\vst.ownBlock≠some (zb i)/\w.rangeAt (zb i) 0 (pN (R.getD i []))
theorem A5.step{w w':tW}{vs vst C o:tV}{zb:Nat->Nat}(h:A5 w wb vs vst zb R)(F:FW w w' wb vs vst C o):A5 w' wb C o zb R:=λ i hi=>by
 obtain⟨Q,D,J,I,U⟩:=h i hi;exact⟨Q,LO D F.size,λ e=>J (F.s1 _ D e),λ e=>I (F.s2 _ D e),fY U (F.block _ D (by omega) J I)⟩
theorem A5.other{w w':tW}{vs vst:tV}{zb:Nat->Nat}(h:A5 w wb vs vst zb R)(hg:w.grownBy w' v)(C:∀k,v=some k->∀i,i<R.length->zb i≠k):A5 w' wb vs vst zb R:=λ i hi=>by
 obtain⟨D,o,I,F,J⟩:=h i hi;exact⟨D,LO o hg.size,I,F,fY J (hg.block _ o (λ e=>C _ e.symm i hi rfl))⟩
theorem WK.other{w w':tW}{num:Nat->Int}{E:List (Nat×tV)}{vs vst:tV}(h:WK w wb num S E vs vst)(hg:w.grownBy w' v)(C:∀k,v=some k->k≠wb/\vs.ownBlock≠some k/\vst.ownBlock≠some k):WK w' wb num S E vs vst:=by
 have D:w'.heap[wb]?=w.heap[wb]? :=hg.block wb h.hb (λ e=>(C wb e.symm).1 rfl);have cl:∀i,w'.cell? ⟨wb,i,none⟩=w.cell? ⟨wb,i,none⟩:=λ i=>OE (w:=w) (a:=⟨wb,i,none⟩) D
 exact⟨(cl 0).trans h.c0,λ x F=>(cl _).trans (h.nm x F),(cl _).trans h.c2,λ i=>(NZ (w:=w) (a:=⟨wb,i,none⟩) D).trans (h.fz i),
  iH h.rs (λ k o=>hg.block k (h.rs.lt k o).2 (λ e=>(C k e.symm).2.1 o)),iH h.rt (λ k o=>hg.block k (h.rt.lt k o).2 (λ e=>(C k e.symm).2.2 o)),h.ap,LO h.hb hg.size⟩
structure IZ(W:tW)(n0:Nat)(vf vl:tV)(aG:Nat->Int)(bB G:List Int)(pg pcap:Nat):Prop where
 nt:kD W n0 vf vl aG
 rg:W.rangeAt n0 0 (mQ vf vl aG).toList
 gc:W.cell? ⟨n0+1,256,none⟩=some (.slice (some ⟨pg,0,none⟩) G.length pcap)
 rl:Df W vl bB
 gl:∀j a,G[j]?=some a->W.cell? ⟨pg,j,none⟩=some (.int .i64 a)
 hv:∀k,vl.ownBlock=some k->k<n0
 hp:pg<n0
theorem IZ.below{W F:tW}{vf vl:tV}{aG:Nat->Int}{o:Nat}(h:IZ W n0 vf vl aG bB G pg o)(C:Below B W F)(Q:n0+1+1<=B):IZ F n0 vf vl aG bB G pg o:=by
 have I:=h.hp;exact⟨⟨(C.cell (p:=⟨n0,0,none⟩) (show n0<B by omega)).trans h.nt.c0,(C.cell (p:=⟨n0,1,none⟩) (show n0<B by omega)).trans h.nt.c1,λ k D=>(C.cell (p:=⟨n0,2+k,none⟩) (show n0<B by omega)).trans (h.nt.nx k D),λ i=>(C.frozen (p:=⟨n0,i,none⟩) (show n0<B by omega)).trans (h.nt.fz i)⟩,
  fY h.rg (C.block n0 (by omega)),(C.cell (p:=⟨n0+1,256,none⟩) (show n0+1<B by omega)).trans h.gc,h.rl.below C (λ k D=>by have:=h.hv k D;omega),λ j a J=>(C.cell (p:=⟨pg,j,none⟩) (show pg<B by omega)).trans (h.gl j a J),h.hv,I⟩
theorem rX{w:tW}{size:Nat}{xs:List tV}(h:w.ownsRow aH e size (.slice (some ⟨g,0,none⟩) n aJ) n xs)(i:Nat):w.frozen? ⟨g,i,none⟩=false:=by
 rcases h.2 with⟨C,_⟩|⟨J,o,D,F,I,hg,_⟩
 ·cases C
 ·cases F
  unfold World.frozen?;simp only[hg];simp
theorem JQ:Ab (λ _=>0) [0]:=λ x _=>by
 by_cases h:(x:Int)∈ [(0:Int)]/\x≠0
 ·have:=h.1;simp at this;omega
 ·rw[aA h]
theorem DD:pZ [0]:=⟨rfl,by simp,λ x o=>by simp at o;omega⟩
def Xd(w:tW)(K:Nat)(bB:List Int)(P:List Int×List (List Int))(e:Ending)(w':tW):Prop:=
 ∃(o aJ:Nat)(zb:Nat->Nat),e=.returned (.slice (some ⟨o,0,none⟩) P.1.length aJ)/\Bl w w'/\
  Wd w' w'.heap.size o P.1.length K zb (λ s=>yK bB (P.1.getD s 0)) (λ s k=>(P.2.getD s []).getD k 0)
theorem Ly(vf vl:tV)(aG:Nat->Int)(bB G:List Int)(GA:Array tV)(pg Y:Nat)(aP:Int)(w:tW)(hl:bB.length<=1000000)(hr:Df w vl bB)(hv:∀k,vl.ownBlock=some k->k<w.heap.size)
  (P0:GA[256]?=some (.slice (some ⟨pg,0,none⟩) G.length Y)) (d2:G.length<=300) (hG:∀j a,G[j]?=some a->w.cell? ⟨pg,j,none⟩=some (.int .i64 a)) (tL:pg<w.heap.size):
  QX LY 39 #[.agg (mQ vf vl aG),.agg GA,.int .i64 aP] w λ e w'=>Xd w G.length bB (jF aG aP G) e w':=by
 obtain⟨i0,X1,O9,L1,bC⟩:=QS bU;have HI:QO (Tryz.prog.info? 3=some i0/\i0.zero=some (.int .i64 0)/\i0.size=1/\i0.bytes=8):=⟨X1,O9,L1,bC⟩
 clear X1 O9 L1 bC;obtain⟨W2,V⟩:=xE ((w.alloc (.cells (mQ vf vl aG) 108)).alloc (.cells GA 50))
 have bC:W2.heap.size=w.heap.size+1+1:=by rw[<-V];simp
 have hH:Below w.heap.size w W2:=by rw[<-V];exact(bR.alloc lR _).alloc (by simp) _
 have N1:kD W2 w.heap.size vf vl aG:=by
  have h1:=kD.box w vf vl aG 108 w.heap.size rfl;have hb:Below (w.heap.size+1) (w.alloc (.cells (mQ vf vl aG) 108)) W2:=by rw[<-V];exact bR.alloc (by simp) _
  exact⟨(hb.cell (p:=⟨w.heap.size,0,none⟩) (MO _)).trans h1.c0,(hb.cell (p:=⟨w.heap.size,1,none⟩) (MO _)).trans h1.c1,λ k U=>(hb.cell (p:=⟨w.heap.size,2+k,none⟩) (MO _)).trans (h1.nx k U),λ i=>(hb.frozen (p:=⟨w.heap.size,i,none⟩) (MO _)).trans (h1.fz i)⟩
 have a0:W2.cell? ⟨w.heap.size+1,256,none⟩=some (.slice (some ⟨pg,0,none⟩) G.length Y):=by
  rw[<-V];exact(MN _ _ (w.heap.size+1) 256 (by simp)).trans P0
 have W6:W2.rangeAt w.heap.size 0 (mQ vf vl aG).toList:=by
  have h1:=mA w (mQ vf vl aG) 108;rw[<-V];exact fY h1 (MC _ _ _ (by simp))
 have HW:=fV (WK.start W2 (w.heap.size+1+1) bC.symm);have HT:=fV (iD W2 MF 169 (w.heap.size+1+1) 1026 cE bC);have sW:QO (Below (w.heap.size+1+1) W2 ((W2.alloc (.cells MF 169)).setCells (w.heap.size+1+1) 0 Tryz.zeroCells169.toList)):=fX _ 0 _ _ (bR.alloc (by rw[bC];exact lR) _) lR;have H5:=fV hH;have aO:=fV N1;have H0:=fV a0;have N0:=fV W6;have X2:=fV (hr.below hH hv);have HG:=fV hG;have W5:QO (∀j a,G[j]?=some a->W2.cell? ⟨pg,j,none⟩=some (.int .i64 a)):=λ j a h=>(hH.cell (p:=⟨pg,j,none⟩) tL).trans (hG j a h)
 replace V:=fV V;clear hr P0 hG hH N1 a0 W6;obtain⟨K,hK⟩:=xE (G.length)
 rw[hK]at d2 H0 ⊢;replace hK:=fV hK;go_enter func39,ntmps39;go_upto_region 2 with(first
  | (refine wpList_boxTo rfl 108 (.tmp 0) rfl _ rfl w.heap.size rfl (mQ vf vl aG) rfl ?_)
  | (refine wpList_boxTo rfl 50 (.tmp 1) rfl _ rfl (w.heap.size+1) (by simp) GA rfl ?_)
  | (refine QQ rfl 169 (.tmp 7) (.tmp 14) rfl (w.heap.size+1+1) 0 MF rfl rfl ?_ ?_ dN ?_;(rw[cE,V.o];exact HT.o);(rw[cE];exact fH);rw[V.o]))
 have cN:QO (IZ ((W2.alloc (.cells MF 169)).setCells (w.heap.size+1+1) 0 Tryz.zeroCells169.toList) w.heap.size vf vl aG bB G pg Y):=
  (⟨aO.o,N0.o,by rw[hK.o];exact H0.o,X2.o,W5.o,hv,tL⟩:IZ W2 w.heap.size vf vl aG bB G pg Y).below sW.o lR
 have H6:QO (Below w.heap.size w ((W2.alloc (.cells MF 169)).setCells (w.heap.size+1+1) 0 Tryz.zeroCells169.toList)):=H5.o.trans (sW.o.mono (by omega));generalize (W2.alloc (.cells MF 169)).setCells (w.heap.size+1+1) 0 Tryz.zeroCells169.toList=W3 at*;clear HT sW H5 aO H0 N0 X2 HG W5 V bC;obtain⟨n0,B2⟩:=xE (w.heap.size)
 have cF:=H6;rw[B2]at cN cF HW hv tL ⊢;clear H6;have X4:∀k,vl.ownBlock=some k->k<n0+1+1:=λ k U=>by have:=hv k U;omega
 go_wp2_with (first|(refine QP rfl 108 (.tmp 3) rfl n0 0 rfl (mQ vf vl aG).toList _ cN.o.rg NF rfl cD ?_)|fail);refine(La (n0+1+1) (λ _=>0) [] [] _ _ vf vl aG bB 0 W3 (by simp) (by simp) hl HW.o cN.o.rl X4).mono ?_;rintro e w4 ⟨rfl,a3,hV,O5,W9⟩;have rT:=W9.below HW.o;have W1:QO (WK w4 (n0+1+1) (λ _=>0) [0] (Jw bB [0] 0 (λ _=>0) K) a3 hV):=O5;have hT:=fV (cN.o.below rT lR);have a7:=fV (cF.o.trans (rT.mono (by omega)));clear O5 W9 rT HW cN cF;obtain⟨PP,hF⟩:=xE (jF aG aP G)
 replace hF:=fV hF;go_wp2_with fail
 go_loopg [8] 1025 (λ gk sv wr=>∃(s:Nat)(S:List Int)(R:List (List Int)) (num:Nat->Int) (zb:Nat->Nat) (vs vst:tV),sv=.int .i64 (s:Int)/\s+gk=1025/\R.length=s/\s<=S.length/\pZ S/\Ab num S/\PP=oA aG aP G gk s S R/\(∀r∈R,r.length=K)/\
  WK wr (n0+1+1) num S (Jw bB S s zb K) vs vst/\A5 wr (n0+1+1) vs vst zb R/\IZ wr n0 vf vl aG bB G pg Y/\Below n0 w wr)
 case atStart=>exact⟨0,[0],[],λ _=>0,λ _=>0,a3,hV,rfl,rfl,rfl,by simp,DD,JQ,hF.o.symm,λ r hr=>absurd hr (LU),W1.o,λ i hi=>absurd hi (OS _),hT.o,a7.o⟩
 case round=>
  obtain⟨s,S,R,num,zb,vs,vst,rfl,e9,O0,f2,A1,rO,a4,a6,cP,I,hB,hb⟩:=hrel;have HQ:=fV a4;have Q:=fV cP;have Z:=fV I;have bN:=fV hB;have HB:=fV hb;have a2:=fV A1;have d5:=fV rO;have aR:=fV O0;have W7:=fV a6;have e7:=yN A1;clear a4 cP I hB hb A1 rO O0 a6 W1 hT a7;obtain⟨d,rfl⟩:∃d,gk=d+1:=⟨gk-1,by omega⟩
  have M2:0<S.length:=(LG.1 a2.o.zero).1;obtain⟨va,aU,c3,_,_⟩:=Q.o.rs.form M2;subst c3;obtain⟨tg,Hb,c7,_,_⟩:=Q.o.rt.form (by rw[uC];exact M2);subst c7;have c0:=Q.o.c0;by_cases hD:s<S.length
  ·have B1:QO (PP=oA aG aP G d (s+1) (wT (kZ aG aP S s) G [] S).2 (R++[(wT (kZ aG aP S s) G [] S).1])):=by unfold QO;rw[HQ.o,oA,aB hD]
   have a9:decide ((s:Int)<(S.length:Int))=true:=by simp;omega
   go_upto_if 26 with fail
   go_cut [9] from 17 to 59 (λ av wc=>av=.int .i64 (kZ aG aP S s)/\wc=wr)
   case first=>
    by_cases hM:s=0
    ·have c8:decide (0<s)=false:=by simp;omega
     have e0:¬0<s:=by omega
     have HA:QO (kZ aG aP S s=aP):=by unfold QO kZ;rw[aB hM]
     clear hM;go_wp2;go_meet
     case rel=>exact⟨by rw[HA.o],rfl⟩
    ·have c8:decide (0<s)=true:=by simp;omega
     have e1:0<s:=by omega
     have HA:QO (kZ aG aP S s=Ee aG (S.getD s 0)):=by unfold QO kZ;rw[aA hM]
     have cs:wr.cell? ⟨va,s,none⟩=some (.int .i64 (S.getD s 0)):=by
      have:=nV Q.o.rs s (.int .i64 (S.getD s 0)) (by unfold pN;rw[MA,LD hD,LC,LD hD];rfl);rw[LR]at this;exact this
     have b1:(0:Int)<=(s:Int)/\(s:Int)<(S.length:Int):=by omega
     generalize S.getD s 0=y at*;clear hM;go_wp2_with fail;refine(Mz aG y n0 vf vl wr bN.o.nt).mono ?_;rintro e w5 ⟨rfl,rfl⟩;go_wp2;go_meet
     case rel=>exact⟨by rw[HA.o],rfl⟩
   case rest=>
    obtain⟨rfl,rfl⟩:=hcut;have eL:=bN.o.gc;rw[hK.o]at eL;obtain⟨AH,A0⟩:=xE (kZ aG aP S s)
    rw[A0]at B1 ⊢;replace A0:=fV A0;have eN:=HB.o.size;rw[B2]at eN;go_wp2_with (first|(at_make;refine QU wc rfl _ _ 59 rfl wc.heap.size 3 i0 (.int .i64 0) 1 NJ HI.o.1 HI.o.2.1 HI.o.2.2.1 .i64 .i64 _ K rfl rfl rfl (by rw[HI.o.2.2.2];omega) (by unfold QW;omega) lR ?_;intro w6 hA bK;have eM:QO (Below wc.heap.size wc w6):=(⟨bK.os,bK.tape,bK.output,bK.size,λ k U=>bK.block k U (by simp)⟩:Below wc.heap.size wc w6);have b3:=Q.o.hb;have O7:=(eM.o.cell (p:=⟨n0+1,256,none⟩) (show n0+1<wc.heap.size by omega)).trans eL;clear eL));have hU:=fV (Q.o.below eM.o);have eR:=fV (Z.o.other bK (λ k U=>by cases U));have lH:=fV (bN.o.below eM.o (by omega));have hR:=fV (HB.o.trans (eM.o.mono eN));have H2:=fV hA;have hI:∀i,i<R.length->zb i<wc.heap.size:=λ i hi=>(Z.o i hi).2.1
    have b4:va<wc.heap.size:=(Q.o.rs.lt va rfl).2;have a8:tg<wc.heap.size:=(Q.o.rt.lt tg rfl).2;clear hA bK eM Q Z bN HB O7 c0;replace hI:=fV hI;obtain⟨C,hC⟩:=xE (wc.heap.size)
    rw[hC]at H2 hI b4 a8 b3 eN ⊢;obtain⟨RP,hL⟩:=xE (wT AH G [] S)
    rw[hL]at B1;replace hL:=fV hL
    go_loopg [10,40] K (λ gj nv iv wj=>∃(j:Nat)(aS S':List Int)(aW:Nat->Int)(bS aT:tV),nv=.slice (some ⟨C,0,none⟩) j K/\iv=.int .i64 (j:Int)/\j+gj=K/\aS.length=j/\S.length<=S'.length/\pZ S'/\Ab aW S'/\RP=wT AH (G.drop j) aS S'/\
     wj.ownsRow C 3 1 (.slice (some ⟨C,0,none⟩) j K) j (pN aS)/\WK wj (n0+1+1) aW S' (Jw bB S' s zb K) bS aT/\bS.ownBlock≠some C/\aT.ownBlock≠some C/\A5 wj (n0+1+1) bS aT zb R/\IZ wj n0 vf vl aG bB G pg Y/\Below n0 w wj)
    case atStart=>exact⟨0,[],S,num,_,_,rfl,rfl,by omega,rfl,lR,a2.o,d5.o,by rw[PO];exact hL.o.symm,H2.o,hU.o,(by simp[ME];omega),(by simp[ME];omega),eR.o,lH.o,hR.o⟩
    case round=>
     obtain⟨j,aS,S',aW,bS,aT,rfl,rfl,f3,rL,f0,eT,nL,Pl,eO,cP,hW,hX,I,hB,hb⟩:=hrel;have T2:=fV Pl;have H3:=fV eO;have D:=fV cP;have hE:=fV hW;have aO:=fV hX;have bO:=fV I;have X:=fV hB;have sR:=fV hb;have eX:=fV eT;have eS:=fV nL;have O8:=fV rL;have e3:=yN eT;have tT:C<wr.heap.size:=(eO.lt C rfl).2;clear Pl eO cP hW hX I hB hb eT nL rL H2 hU eR lH hR;by_cases d1:j<K
     ·obtain⟨j',rfl⟩:∃j',gk=j'+1:=⟨gk-1,by omega⟩
      have W8:j<G.length:=by rw[hK.o];exact d1
      have A3:G[j]?=some (G[j]):=LD W8;have ca:=X.o.gl j _ A3;have bM:=fV (T2.o.trans (Hl A3));generalize G[j]=a at*;have f1:QO (bits .and .i64 AH a=nS AH a):=rfl;have gL:=FX (n0+1+1) aW S' (Jw bB S' s zb K) bS aT vf vl aG bB (nS AH a) wr eX.o eS.o (by rw[uC];omega) hl D.o X.o.rl X4;unfold IK at gL;rw[FO (by omega)]at gL;have Go:=Jj eX.o (nS AH a);have c5:=dT j K (by omega)
      have e4:=iI j K (by omega)
      generalize zA S' (nS AH a)=TP at*;obtain⟨y,S2⟩:=TP;simp only at gL Go bM;clear A3 W8;go_wp2_with (first|(refine QP rfl 108 (.tmp 3) rfl n0 0 rfl (mQ vf vl aG).toList _ X.o.rg NF rfl cD ?_)|fail);refine gL.mono ?_;rintro e w7 ⟨rfl,a5,W4,iN,qR,hS,J⟩;have H4:=J.below D.o;have b0:=fV qR;have Ha:=fV hS;have d4:QO (w7.ownsRow C 3 1 (.slice (some ⟨C,0,none⟩) j K) j (pN aS)):=fV (iH H3.o (λ k U=>by
       have e:C=k:=by simpa[ME]using U
       subst e;exact J.block C tT (by omega) hE.o aO.o))
      have hN:QO (W4.ownBlock≠some C):=λ e=>hE.o (J.s1 C tT e)
      have hY:QO (iN.ownBlock≠some C):=λ e=>aO.o (J.s2 C tT e)
      have T3:=fV (bO.o.step J);have S5:=fV (X.o.below H4 lR);have b6:=fV (sR.o.trans (H4.mono (by omega)));have d6:C<w7.heap.size:=by have:=J.size;omega
      clear qR hS J H4 gL H3 D hE aO bO X sR eS ca;go_wp2_with (first|(at_builtin;refine kY w7 rfl _ _ 59 rfl C 3 (.int .i64 0) 1 8 NJ bU C j K (pN aS) [.int .i64 y] _ rfl d4.o _ rfl rfl rfl (by simp[LK]) (by omega) ?_;intro w8 E6 hJ)|fail);go_roundg j'
      case measure=>omega
      case rel=>
       have c6:=OX w7 (.cells #[.int .i64 y] 3) (some C);have F:=gD c6 hJ;refine⟨j+1,aS++[y],S2,a5,W4,iN,rfl,by go_num,by omega,by simp[O8.o],by omega,Go.1,Ha.o,bM.o,by rw[tX];exact E6,b0.o.other F (λ k U=>?_),hN.o,hY.o,T3.o.other F (λ k U i hi=>?_),S5.o.below (⟨F.os,F.tape,F.output,F.size,λ k U=>F.block k (by omega) (λ e=>by injection e;omega)⟩:Below (n0+1+1) w7 w8) lR,b6.o.trans (⟨F.os,F.tape,F.output,F.size,λ k U=>F.block k (by omega) (λ e=>by injection e;omega)⟩:Below n0 w7 w8)⟩
       ·injection U with U;subst U;exact⟨by omega,hN.o,hY.o⟩
       ·injection U with U;subst U;have:=hI.o i hi;omega
     ·have e:gk=0:=by omega
      subst e;have c9:j=K:=by omega
      subst c9;have c5:=dF j j (by omega)
      have bM:QO (RP=(aS,S')):=by unfold QO;rw[T2.o,<-hK.o,OM];rfl
      have nN:0<S'.length:=by omega
      obtain⟨aL,d3,O3,_,_⟩:=D.o.rt.form (by rw[uC];exact nN);subst O3;have c2:=D.o.c2;rw[uC]at c2;have qL:s<S'.length:=by omega
      have H1:(Jw bB S' s zb j)[s]?=some (yK bB (S'.getD s 0),.slice none 0 0):=by unfold Jw;rw[MA,NU qL,OG,aA (by omega)]
      have e6:wr.cell? ⟨aL,s*2+1,none⟩=some (.slice none 0 0):=by
       have:=D.o.rt.cells rfl (s*2+1) _ (Ht _ s _ _ H1).1;simpa[Addr.add]using this
      have e2:wr.frozen? ⟨aL,s*2+1,none⟩=false:=rX D.o.rt _;have hQ:=fV (D.o.setNext H1 (.slice (some ⟨C,0,none⟩) j j));rw[<-GU qL,uC]at hQ;have e5:=(D.o.rt.lt aL rfl).1;have b5:QO (∀i,i<R.length->aL≠zb i):=λ i hi e=>(bO.o i hi).2.2.2.1 (by simp[ME];exact e)
      have b1:(0:Int)<=(s:Int)/\(s:Int)<(S'.length:Int):=by omega
      have c4:=fV (nV H3.o);clear H1 nN;go_wp2;go_roundg d
      case measure=>omega
      case rel=>
       have W0:Below (n0+1+1) wr (wr.setCell ⟨aL,s*2+1,none⟩ (.slice (some ⟨C,0,none⟩) j j)):=bR.setCell (p:=⟨aL,s*2+1,none⟩) (by show n0+1+1<=aL;omega) _;have d0:C≠aL:=λ e=>aO.o (by rw[e];rfl)
       refine⟨s+1,S',R++[aS],aW,λ i=>if i=s then C else zb i,bS,_,by go_num,by omega,by simp[aR.o],by omega,eX.o,eS.o,?_,λ r hr=>?_,hQ.o,λ i hi=>?_,X.o.below W0 lR,sR.o.trans (W0.mono (by omega))⟩
       ·have:=B1.o;rw[bM.o]at this;exact this
       ·rcases LN.1 hr with h1|h1
        ·exact W7.o r h1
        ·rw[LH]at h1;rw[h1];exact O8.o
       ·simp[aR.o]at hi;by_cases e:i=s
        ·subst e;simp only[aB];refine⟨by omega,by simp[MG];omega,hE.o,?_,?_⟩
         ·have:=aO.o;rw[uC]at this;exact this
         ·have h1:(R++[aS]).getD i []=aS:=by rw[LC,LS (by rw[aR.o];exact lR),aR.o];simp
          rw[h1];exact fY c4.o (MH _ _ _ _ d0)
        ·have bT:i<R.length:=by rw[aR.o];omega
         simp only[aA e];obtain⟨q1,q2,q3,q4,q5⟩:=bO.o i bT;have h1:(R++[aS]).getD i []=R.getD i []:=by rw[LC,LC,LQ bT]
         refine⟨q1,by simp[MG];omega,q3,?_,?_⟩
         ·rw[uC]at q4;exact q4
         ·rw[h1];exact fY q5 (MH _ _ _ _ (λ e=>b5.o i bT e.symm))
  ·have HE:QO (PP=(S,R)):=by unfold QO;rw[HQ.o,oA,aA hD]
   have A2:s=S.length:=by omega
   have a9:decide ((s:Int)<(S.length:Int))=false:=by simp;omega
   have c2:=Q.o.c2;rw[uC]at c2;go_wp2;go_ret;rw[hF.o,HE.o];refine⟨tg,Hb,zb,rfl,by have hh:=HB.o;rw[<-B2]at hh;exact hh,?_⟩;have tO:=Q.o.rt;rw[uC]at tO;have X0:∀i,i<S.length->(Jw bB S s zb K)[i]?=some (yK bB (S.getD i 0),.slice (some ⟨zb i,0,none⟩) K K):=λ i hi=>by
    unfold Jw;rw[MA,NU hi,OG,aB (by omega)]
   have O6:∀j v,(Ip (Jw bB S s zb K))[j]?=some v->wr.cell? ⟨tg,j,none⟩=some v:=λ j v hj=>by
    have:=tO.cells rfl j v hj;by_cases h0:j=0
    ·subst h0;simpa[Addr.add]using this
    ·simpa[Addr.add,h0]using this
   refine⟨λ i hi=>O6 _ _ (Ht _ i _ _ (X0 i hi)).2,λ i hi=>O6 _ _ (Ht _ i _ _ (X0 i hi)).1,λ i k hi U=>?_,(tO.lt tg rfl).2,λ i hi=>(Z.o i (by rw[aR.o,A2];exact hi)).2.1⟩;have hr:=(Z.o i (by rw[aR.o,A2];exact hi)).2.2.2.2;have hP:(R.getD i []).length=K:=by
    have bT:i<R.length:=by rw[aR.o,A2];exact hi
    rw[LC,LD bT];exact W7.o _ (LZ bT)
   have:=hr k (.int .i64 ((R.getD i []).getD k 0)) (by
    unfold pN;rw[MA,LD (by rw[hP];exact U)]
    conv=>rhs;rw[LC,LD (by rw[hP];exact U)]
    rfl)
   rw[LR]at this;exact this
theorem cA:(Tryz.prog.info? 119).map (·.size)=some 6:=by kernel_rfl
theorem dG:(Tryz.prog.info? 117).map (·.size)=some 4:=by kernel_rfl
theorem dZ(a b c d:Bool)(w:tW):(Instr.index 117 (.agg #[.bool a,.bool b,.bool c,.bool d]) (.int .i64 0)).run LY w=.ok (.bool a) w:=by kernel_rfl
theorem eD(a b c d:Bool)(w:tW):(Instr.index 117 (.agg #[.bool a,.bool b,.bool c,.bool d]) (.int .i64 1)).run LY w=.ok (.bool b) w:=by kernel_rfl
theorem eA(a b c d:Bool)(w:tW):(Instr.index 117 (.agg #[.bool a,.bool b,.bool c,.bool d]) (.int .i64 2)).run LY w=.ok (.bool c) w:=by kernel_rfl
theorem eE(a b c d:Bool)(w:tW):(Instr.index 117 (.agg #[.bool a,.bool b,.bool c,.bool d]) (.int .i64 3)).run LY w=.ok (.bool d) w:=by kernel_rfl
theorem eK(f:Nat->Bool)(j:Nat)(o:j<4)(w:tW):(Instr.index 117 (.agg #[.bool (f 0),.bool (f 1),.bool (f 2),.bool (f 3)]) (.int .i64 (j:Int))).run LY w=.ok (.bool (f j)) w:=by
 have:j=0\/j=1\/j=2\/j=3:=by omega
 rcases this with e|e|e|e
 ·rw[e];exact dZ (f 0) (f 1) (f 2) (f 3) w
 ·rw[e];exact eD (f 0) (f 1) (f 2) (f 3) w
 ·rw[e];exact eA (f 0) (f 1) (f 2) (f 3) w
 ·rw[e];exact eE (f 0) (f 1) (f 2) (f 3) w
theorem cQ{o:Oper}{w:tW}{Q:Exit->Act->tW->Prop}(hg:o.guard=none)(x y:Operand)(I:o.op=.index 117 x y)(f:Nat->Bool)(j:Nat)(J:j<4)
  (C:a.eval x=.agg #[.bool (f 0),.bool (f 1),.bool (f 2),.bool (f 3)]) (U:a.eval y=.int .i64 (j:Int)) (h:wpList LY ops Q rest (a.put o.dst (.bool (f j))) w):wpList LY ops Q (o::rest) a w:=by
 refine QV hg λ K F=>?_
 have D:=eK f j J w;unfold Oper.wp execOp;simp only[I,C,U,Sem.run_bind,D,Result.andThen_ok];exact F _ _ h
structure xZ(w:tW)(b:Nat)(x:(Nat->Bool)×Int×Int):Prop where
 rg:w.rangeAt b 0 (nI x)
 cs:w.rangeAt b 0 [.bool (x.1 0),.bool (x.1 1),.bool (x.1 2),.bool (x.1 3)]
 c4:w.cell? ⟨b,4,none⟩=some (.int .i64 x.2.1)
 c5:w.cell? ⟨b,5,none⟩=some (.int .i64 x.2.2)
theorem xZ.mk'{w:tW}{b:Nat}{x:(Nat->Bool)×Int×Int}(h:w.rangeAt b 0 (nI x)):xZ w b x:=by
 refine⟨h,λ j v o=>?_,?_,?_⟩
 ·refine h j v ?_;have C:j<4:=(LG.1 o).1;have:j=0\/j=1\/j=2\/j=3:=by omega
  rcases this with rfl|rfl|rfl|rfl<;>exact o
 ·exact h 4 _ rfl
 ·exact h 5 _ rfl
theorem Qq(aX:List ((Nat->Bool)×Int×Int))(rg F:Nat)(vn vp:tV)(w:tW)(hn:aX.length<=1000)(J:∀x∈aX,0<=x.2.1/\x.2.1<=1000)(hr:uA w rg aX)(hg:rg<w.heap.size):
  QX LY 37 #[.agg #[.slice (some ⟨rg,0,none⟩) aX.length F,vn,vp]] w λ e w'=>e=.returned (.int .i64 ((iP aX 1:Nat):Int))/\Bl w w':=by
 have HR:=fV hr;have eN:=fV J;clear hr J;obtain⟨n,Y⟩:=xE (aX.length)
 rw[Y]at hn ⊢;replace Y:=fV Y;have c0:(w.alloc (.cells #[.slice (some ⟨rg,0,none⟩) n F,vn,vp] 44)).cell? ⟨w.heap.size,0,none⟩=some (.slice (some ⟨rg,0,none⟩) n F):=(MN _ _ w.heap.size 0 rfl).trans rfl;have bO:QO (Bl w (w.alloc (.cells #[.slice (some ⟨rg,0,none⟩) n F,vn,vp] 44))):=bR.alloc lR _;go_enter func37,ntmps37;go_upto_region 2 with fail;generalize w.alloc (.cells #[.slice (some ⟨rg,0,none⟩) n F,vn,vp] 44)=W at*;go_wp2_with fail;clear c0;obtain⟨FC,aL⟩:=xE (iP aX 1)
 replace aL:=fV aL
 go_loopg [3,11] n (λ gk cv iv wr=>∃(k c:Nat),cv=.int .i64 (c:Int)/\iv=.int .i64 (k:Int)/\k+gk=n/\c<=1000/\FC=iP (aX.drop k) c/\Bl w wr)
 case atStart=>exact⟨0,1,rfl,rfl,by omega,by omega,aL.o.symm,bO.o⟩
 case round=>
  obtain⟨k,c,rfl,rfl,eX,hc,bS,hb⟩:=hrel;have HQ:=fV bS;have HB:=fV hb;have bN:=hb.size;clear bS hb bO;by_cases eO:k<n
  ·obtain⟨d,rfl⟩:∃d,gk=d+1:=⟨gk-1,by omega⟩
   have aR:k<aX.length:=by rw[Y.o];exact eO
   have hx:aX[k]?=some (aX[k]):=LD aR;have bK:=fV ((HR.o.below HB.o hg) k _ hx);have bC:=fV (HQ.o.trans (Bx hx c));have eL:=eN.o _ (LZ aR);generalize aX[k]=x at*;obtain⟨f,I,Z⟩:=x;simp only at eL;have V:QO (xZ ((wr.alloc (.cells #[.bool false,.bool false,.bool false,.bool false,.int .i64 0,.int .i64 0] 119)).setCells wr.heap.size 0 (nI (f,I,Z))) wr.heap.size (f,I,Z)):=
    xZ.mk' (LM _ _ _ _ (oY wr [.bool false,.bool false,.bool false,.bool false,.int .i64 0,.int .i64 0] 119 6 rfl))
   have bM:QO (Bl w ((wr.alloc (.cells #[.bool false,.bool false,.bool false,.bool false,.int .i64 0,.int .i64 0] 119)).setCells wr.heap.size 0 (nI (f,I,Z)))):=fX _ 0 _ wr.heap.size (HB.o.alloc bN _) bN;have aT:=fV (oY wr [.bool false,.bool false,.bool false,.bool false,.int .i64 0,.int .i64 0] 119 6 rfl);have eM:=dT k n (by omega)
   have eT:=iI k n (by omega)
   clear hx aR;go_upto_region 5 with(first
    | (refine QP rfl 119 (.tmp 13) rfl rg (k*6) rfl (nI (f,I,Z)) _ bK.o NW rfl cA ?_)
    | (refine QQ rfl 119 (.tmp 5) (.tmp 14) rfl wr.heap.size 0 (nI (f,I,Z)).toArray rfl rfl ?_ ?_ ?_ ?_;exact aT.o;exact cA;(simp[nI,LK])))
   generalize (wr.alloc (.cells #[.bool false,.bool false,.bool false,.bool false,.int .i64 0,.int .i64 0] 119)).setCells wr.heap.size 0 (nI (f,I,Z))=w5 at*;have c4:=V.o.c4;simp only at c4;have cP:QO (w5.rangeAt wr.heap.size 0 [.bool (f 0),.bool (f 1),.bool (f 2),.bool (f 3)]):=V.o.cs;have bT:QO (Q9 (f,I,Z) c=if((vS f 4 c:Nat):Int)<I-1 then(I-1).toNat else vS f 4 c):=rfl;clear V aT bK HB;go_wp2_with (first|(refine QP rfl 117 (.tmp 15) rfl wr.heap.size 0 rfl [.bool (f 0),.bool (f 1),.bool (f 2),.bool (f 3)] _ cP.o underlying117 rfl dG ?_)|fail)
   go_loopg [3,17] 4 (λ gj cv iv wj=>∃(j C:Nat),cv=.int .i64 (C:Int)/\iv=.int .i64 (j:Int)/\j+gj=4/\C=vS f j c/\C<=1000/\wj=w5)
   case atStart=>exact⟨0,c,rfl,rfl,rfl,rfl,hc,rfl⟩
   case round=>
    obtain⟨j,C,rfl,rfl,gL,cF,aO,rfl⟩:=hrel;have Q:=fV cF;clear cF;by_cases hj:j<4
    ·obtain⟨g,rfl⟩:∃g,gk=g+1:=⟨gk-1,by omega⟩
     have U:QO (vS f (j+1) c=if f j=true/\C<j+1 then j+1 else C):=by unfold QO;rw[vS,<-Q.o]
     have cN:decide ((j:Int)<4)=true:=by simp;omega
     by_cases hq:f j=true/\C<j+1
     ·have D:QO (vS f (j+1) c=j+1):=by unfold QO;rw[U.o,aB hq]
      have X:=hq.1;have eS:decide ((C:Int)<(j:Int)+1)=true:=by simp;omega
      clear U Q hq;go_wp2_with (first|(refine cQ rfl (.tmp 16) (.tmp 17) rfl f j hj rfl rfl ?_;rw[X])|fail);go_roundg g
      case measure=>omega
      case rel=>exact⟨j+1,j+1,by go_num,by go_num,by omega,D.o.symm,by omega,rfl⟩
     ·have D:QO (vS f (j+1) c=C):=by unfold QO;rw[U.o,aA hq]
      cases X:f j with
      | true=>
       have eS:decide ((C:Int)<(j:Int)+1)=false:=by rw[aF];exact λ h=>hq ⟨X,by omega⟩
       clear U Q hq;go_wp2_with (first|(refine cQ rfl (.tmp 16) (.tmp 17) rfl f j hj rfl rfl ?_;rw[X])|fail);go_roundg g
       case measure=>omega
       case rel=>exact⟨j+1,C,rfl,by go_num,by omega,D.o.symm,aO,rfl⟩
      | false=>
       clear U Q hq;go_wp2_with (first|(refine cQ rfl (.tmp 16) (.tmp 17) rfl f j hj rfl rfl ?_;rw[X])|fail);go_roundg g
       case measure=>omega
       case rel=>exact⟨j+1,C,rfl,by go_num,by omega,D.o.symm,aO,rfl⟩
    ·have ej:j=4:=by omega
     have aW:QO (vS f 4 c=C):=by unfold QO;rw[Q.o,ej]
     have cN:decide ((j:Int)<4)=false:=by simp;omega
     clear ej Q;by_cases J:(C:Int)<I-1
     ·have D:QO (Q9 (f,I,Z) c=(I-1).toNat):=by unfold QO;rw[bT.o,aW.o,aB J]
      have eR:decide ((C:Int)<I-1)=true:=decide_eq_true J;go_wp2;go_roundg d
      case measure=>omega
      case rel=>exact⟨k+1,(I-1).toNat,by simp;omega,by go_num,by omega,by omega,by rw[bC.o,D.o],bM.o⟩
     ·have D:QO (Q9 (f,I,Z) c=C):=by unfold QO;rw[bT.o,aW.o,aA J]
      have eR:decide ((C:Int)<I-1)=false:=decide_eq_false J;go_wp2;go_roundg d
      case measure=>omega
      case rel=>exact⟨k+1,C,rfl,by go_num,by omega,aO,by rw[bC.o,D.o],bM.o⟩
  ·have e:gk=0:=by omega
   subst e;have HE:QO (FC=c):=by unfold QO;rw[HQ.o,show k=aX.length by rw[Y.o];omega,OM];rfl
   have eM:=dF k n (by omega)
   go_wp2;go_ret;exact⟨by rw[aL.o,HE.o];rfl,HB.o⟩
theorem Qy(aX:List ((Nat->Bool)×Int×Int))(Y C nb fg aL bE:Nat)(fi:Nat->Int)(vn vp:tV)(w:tW)(hn:aX.length<=1000)(hr:uA w Y aX)(hg:Y<w.heap.size)
  (eL:nb<w.heap.size) (aR:w.cell? ⟨nb,0,none⟩=some (.slice (some ⟨fg,0,none⟩) aX.length aL)) (aO:P9 w fg aX.length fi) (eS:fg<w.heap.size):
  QX LY 38 #[.pointer (some ⟨nb,0,none⟩),.agg #[.slice (some ⟨Y,0,none⟩) aX.length C,vn,vp],.int .i64 bE] w λ e w'=>e=.returned (.int .i64 (rM fi bE aX 0 0))/\Bl w w':=by
 have HR:=fV hr;have bM:=fV aR;have bS:=fV aO;clear hr aR aO;obtain⟨n,I⟩:=xE (aX.length)
 rw[I]at hn bM bS ⊢;replace I:=fV I;have c0:(w.alloc (.cells #[.slice (some ⟨Y,0,none⟩) n C,vn,vp] 44)).cell? ⟨w.heap.size,0,none⟩=some (.slice (some ⟨Y,0,none⟩) n C):=(MN _ _ w.heap.size 0 rfl).trans rfl;have bO:QO (Bl w (w.alloc (.cells #[.slice (some ⟨Y,0,none⟩) n C,vn,vp] 44))):=bR.alloc lR _;go_enter func38,ntmps38;go_upto_region 2 with fail;generalize w.alloc (.cells #[.slice (some ⟨Y,0,none⟩) n C,vn,vp] 44)=W at*;go_wp2_with fail;clear c0;obtain⟨FC,U⟩:=xE (rM fi bE aX 0 0)
 replace U:=fV U
 go_loopg [7,15] n (λ gk cv iv wr=>∃(k:Nat)(b:Int),cv=.int .i64 b/\iv=.int .i64 (k:Int)/\k+gk=n/\FC=rM fi bE (aX.drop k) k b/\Bl w wr)
 case atStart=>exact⟨0,0,rfl,rfl,by omega,U.o.symm,bO.o⟩
 case round=>
  obtain⟨k,b,rfl,rfl,eT,cF,hb⟩:=hrel;have HQ:=fV cF;have HB:=fV hb;have bN:=hb.size;clear cF hb bO;by_cases aW:k<n
  ·obtain⟨d,rfl⟩:∃d,gk=d+1:=⟨gk-1,by omega⟩
   have bC:k<aX.length:=by rw[I.o];exact aW
   have hx:aX[k]?=some (aX[k]):=LD bC;have aT:=fV ((HR.o.below HB.o hg) k _ hx);have bK:=fV (HQ.o.trans (Km hx b));generalize aX[k]=x at*;obtain⟨f,be,ro⟩:=x;have X:QO (xZ ((wr.alloc (.cells #[.bool false,.bool false,.bool false,.bool false,.int .i64 0,.int .i64 0] 119)).setCells wr.heap.size 0 (nI (f,be,ro))) wr.heap.size (f,be,ro)):=
    xZ.mk' (LM _ _ _ _ (oY wr [.bool false,.bool false,.bool false,.bool false,.int .i64 0,.int .i64 0] 119 6 rfl))
   have Z:QO (Bl w ((wr.alloc (.cells #[.bool false,.bool false,.bool false,.bool false,.int .i64 0,.int .i64 0] 119)).setCells wr.heap.size 0 (nI (f,be,ro)))):=fX _ 0 _ wr.heap.size (HB.o.alloc bN _) bN;have cN:=fV (oY wr [.bool false,.bool false,.bool false,.bool false,.int .i64 0,.int .i64 0] 119 6 rfl);have cP:=dT k n (by omega)
   have gL:=iI k n (by omega)
   clear hx bC;go_upto_region 5 with(first
    | (refine QP rfl 119 (.tmp 18) rfl Y (k*6) rfl (nI (f,be,ro)) _ aT.o NW rfl cA ?_)
    | (refine QQ rfl 119 (.tmp 9) (.tmp 19) rfl wr.heap.size 0 (nI (f,be,ro)).toArray rfl rfl ?_ ?_ ?_ ?_;exact cN.o;exact cA;(simp[nI,LK])))
   generalize (wr.alloc (.cells #[.bool false,.bool false,.bool false,.bool false,.int .i64 0,.int .i64 0] 119)).setCells wr.heap.size 0 (nI (f,be,ro))=w5 at*;have eM:QO (w5.rangeAt wr.heap.size 0 [.bool (f 0),.bool (f 1),.bool (f 2),.bool (f 3)]):=X.o.cs;have v0:=(Z.o.cell (p:=⟨nb,0,none⟩) eL).trans bM.o;have v1:=(Z.o.cell (p:=⟨fg,k,none⟩) eS).trans (bS.o k aW);simp only at bK;generalize fi k=fr at*;clear X cN aT HB;go_wp2_with (first|(refine QP rfl 117 (.tmp 20) rfl wr.heap.size 0 rfl [.bool (f 0),.bool (f 1),.bool (f 2),.bool (f 3)] _ eM.o underlying117 rfl dG ?_)|fail)
   go_loopg [7,22] 4 (λ gj cv iv wj=>∃(j:Nat)(bb:Int),cv=.int .i64 bb/\iv=.int .i64 (j:Int)/\j+gj=4/\bb=G4 f fr bE j b/\wj=w5)
   case atStart=>exact⟨0,b,rfl,rfl,rfl,rfl,rfl⟩
   case round=>
    obtain⟨j,bb,rfl,rfl,eX,bT,rfl⟩:=hrel;have D:=fV bT;clear bT;by_cases hj:j<4
    ·obtain⟨g,rfl⟩:∃g,gk=g+1:=⟨gk-1,by omega⟩
     have F:QO (G4 f fr bE (j+1) b=if f j=true/\j=bE then An bb fr else bb):=by unfold QO;rw[G4,<-D.o]
     have eR:decide ((j:Int)<4)=true:=by simp;omega
     by_cases V:f j=true/\j=bE
     ·have Q:QO (G4 f fr bE (j+1) b=An bb fr):=by unfold QO;rw[F.o,aB V]
      have J:=V.1;have eN:((j:Int)==(bE:Int))=true:=by rw[V.2];simp
      clear F D V;go_wp2_with (first|(refine cQ rfl (.tmp 21) (.tmp 22) rfl f j hj rfl rfl ?_;rw[J])|fail);go_roundg g
      case measure=>omega
      case rel=>exact⟨j+1,An bb fr,rfl,by go_num,by omega,Q.o.symm,rfl⟩
     ·have Q:QO (G4 f fr bE (j+1) b=bb):=by unfold QO;rw[F.o,aA V]
      cases J:f j with
      | true=>
       have eN:((j:Int)==(bE:Int))=false:=by rw[aC];exact λ h=>V ⟨J,by omega⟩
       clear F D V;go_wp2_with (first|(refine cQ rfl (.tmp 21) (.tmp 22) rfl f j hj rfl rfl ?_;rw[J])|fail);go_roundg g
       case measure=>omega
       case rel=>exact⟨j+1,bb,rfl,by go_num,by omega,Q.o.symm,rfl⟩
      | false=>
       clear F D V;go_wp2_with (first|(refine cQ rfl (.tmp 21) (.tmp 22) rfl f j hj rfl rfl ?_;rw[J])|fail);go_roundg g
       case measure=>omega
       case rel=>exact⟨j+1,bb,rfl,by go_num,by omega,Q.o.symm,rfl⟩
    ·have ej:j=4:=by omega
     have eO:QO (G4 f fr bE 4 b=bb):=by unfold QO;rw[D.o,ej]
     have eR:decide ((j:Int)<4)=false:=by simp;omega
     clear ej D;go_wp2;go_roundg d
     case measure=>omega
     case rel=>exact⟨k+1,bb,rfl,by go_num,by omega,by rw[bK.o,eO.o],Z.o⟩
  ·have e:gk=0:=by omega
   subst e;have HE:QO (FC=b):=by unfold QO;rw[HQ.o,show aX.drop k=[] by rw[OF,I.o];omega];rfl
   have cP:=dF k n (by omega)
   go_wp2;go_ret;exact⟨by rw[U.o,HE.o];rfl,HB.o⟩
theorem Qj(aW:List (Nat->Bool))(Q C b:Nat)(vr vn:tV)(w:tW)(hn:aW.length<=10)(hb:b<256)(hp:yQ w Q aW)(hg:Q<w.heap.size):
  QX LY 34 #[.agg #[vr,vn,.slice (some ⟨Q,0,none⟩) aW.length C],.int .i64 b] w λ e w'=>e=.returned (.int .i64 (G2 aW b))/\Bl w w':=by
 have HP:=fV hp;clear hp;obtain⟨n,F⟩:=xE (aW.length)
 rw[F]at hn ⊢;replace F:=fV F;have c0:(w.alloc (.cells #[vr,vn,.slice (some ⟨Q,0,none⟩) n C] 44)).cell? ⟨w.heap.size,2,none⟩=some (.slice (some ⟨Q,0,none⟩) n C):=(MN _ _ w.heap.size 2 rfl).trans rfl;have aL:QO (Bl w (w.alloc (.cells #[vr,vn,.slice (some ⟨Q,0,none⟩) n C] 44))):=bR.alloc lR _;go_enter func34,ntmps34;go_upto_region 2 with fail;generalize w.alloc (.cells #[vr,vn,.slice (some ⟨Q,0,none⟩) n C] 44)=W at*;go_wp2_with fail;clear c0;obtain⟨FC,I⟩:=xE (G2 aW b)
 have aR:QO (Er b aW 0 0=FC):=I;replace I:=fV I
 go_loopg [5,11] n (λ gk cv iv wr=>∃(k:Nat)(a:Int),cv=.int .i64 a/\iv=.int .i64 (k:Int)/\k+gk=n/\FC=Er b (aW.drop k) k a/\Bl w wr)
 case atStart=>exact⟨0,0,rfl,rfl,by omega,aR.o.symm,aL.o⟩
 case round=>
  obtain⟨k,a,rfl,rfl,bO,aO,V⟩:=hrel;have HQ:=fV aO;have HB:=fV V;have Z:=V.size;clear aO V aL aR;by_cases bK:k<n
  ·obtain⟨d,rfl⟩:∃d,gk=d+1:=⟨gk-1,by omega⟩
   have aT:k<aW.length:=by rw[F.o];exact bK
   have hx:aW[k]?=some (aW[k]):=LD aT;have X:=fV ((HP.o.below HB.o hg) k _ hx);have D:=fV (HQ.o.trans (Wi hx a));generalize aW[k]=f at*;have U:=fV (iD wr OC 158 wr.heap.size 256 bW rfl);have J:QO (((wr.alloc (.cells OC 158)).setCells wr.heap.size 0 (gQ f)).rangeAt wr.heap.size 0 (gQ f)):=LM _ _ _ _ (by rw[gP];exact U.o);have Y:QO (Bl w ((wr.alloc (.cells OC 158)).setCells wr.heap.size 0 (gQ f))):=fX _ 0 _ wr.heap.size (HB.o.alloc Z _) Z;have bC:=dT k n (by omega)
   have bN:=iI k n (by omega)
   clear hx aT;go_upto_region 5 with(first
    | (refine Y2 rfl 158 (.tmp 14) rfl Q (k*256) f _ rfl X.o underlying158 rfl bJ ?_)
    | (refine xM rfl 158 (.tmp 7) (.tmp 15) rfl wr.heap.size 0 f ?_ ?_ ?_ bJ ?_;rfl;rfl;exact U.o))
   generalize (wr.alloc (.cells OC 158)).setCells wr.heap.size 0 (gQ f)=w5 at*;have cb:w5.cell? ⟨wr.heap.size,b,none⟩=some (.bool (f b)):=by have:=J.o b _ (wH f b hb);rw[LR]at this;exact this
   have bM:(0:Int)<=(b:Int)/\(b:Int)<256:=by omega
   clear J U X HB
   cases hfb:f b with
   | true=>
    rw[hfb]at cb D;rw[aB rfl]at D;go_wp2_with fail;refine(xI k (by omega) w5).mono ?_;rintro e w6 ⟨rfl,rfl⟩;go_wp2;go_roundg d
    case measure=>omega
    case rel=>exact⟨k+1,An a (sK k),rfl,by go_num,by omega,D.o,Y.o⟩
   | false=>
    rw[hfb]at cb D;rw[aA (by decide)]at D;go_wp2;go_roundg d
    case measure=>omega
    case rel=>exact⟨k+1,a,rfl,by go_num,by omega,D.o,Y.o⟩
  ·have e:gk=0:=by omega
   subst e;have HE:QO (FC=a):=by unfold QO;rw[HQ.o,show aW.drop k=[] by rw[OF,F.o];omega];rfl
   have bC:=dF k n (by omega)
   go_wp2;go_ret;exact⟨by rw[I.o,HE.o];rfl,HB.o⟩
section
theorem fC:LI=(uY (MD 256 0) (.slice none 0 0)).toArray:=by kernel_rfl
theorem fM:Tryz.zeroCells50.toList=uY (MD 256 0) (.slice none 0 0):=by rw[fC]
theorem cC:Tryz.zeroCells50.size=257:=by kernel_rfl
theorem cG:(Tryz.prog.info? 50).map (·.size)=some 257:=by kernel_rfl
theorem dX:Tryz.zeroCells50.all (·.oneCell')=true:=by kernel_rfl
theorem Uo{w:tW}{v:tV}{l:List Int}(h:w.ownsRow aH e 1 v l.length (pN l)):Df w v l:=by
 refine⟨?_⟩;rcases h.2 with⟨U,D⟩|⟨g,aJ,V,rfl,I,hg,C,o,F,Q⟩
 ·exact .inl ⟨U,List.eq_nil_of_length_eq_zero D⟩
 ·refine .inr ⟨g,aJ,rfl,C,o,λ k x J=>?_⟩;have:=h.cells rfl k (.int .i64 x) (zY l k x J);rw[wG]at this;exact this
structure GW(w0 w:tW)(bG:List Nat)(P:List Int)(vr vn vp vpl:tV):Prop where
 bl:Bl w0 w
 fl:w.rangeAt w0.heap.size 0 [vr,vn,vp]
 t1:w.there (w0.heap.size+1) 0 257
 rg:w.rangeAt (w0.heap.size+1+1) 0 (uY bG vpl)
 t2:w.there (w0.heap.size+1+1) 0 257
 rp:w.ownsRow (w0.heap.size+3) 103 1 vpl P.length (pN P)
 hz:w0.heap.size+3<=w.heap.size
 ln:bG.length=256
variable {w0 w w':tW}{bG:List Nat}{P:List Int}{vr vn vp vpl:tV}
theorem GW.below(h:GW w0 w bG P vr vn vp vpl)(o:Bl w w'):GW w0 w' bG P vr vn vp vpl:=by
 have C:=h.hz;exact⟨h.bl.trans (o.mono (by omega)),fY h.fl (o.block _ (by omega)),gK h.t1 (o.block _ (by omega)),fY h.rg (o.block _ (by omega)),gK h.t2 (o.block _ (by omega)),wL h.rp o,by have:=o.size;omega,h.ln⟩
theorem GW.set(h:GW w0 w bG P vr vn vp vpl){k:Nat}{u:tV}{o:List Nat}(C:k<257)(D:(uY bG vpl).set k u=uY o vpl)(F:o.length=256):GW w0 (w.setCell ⟨w0.heap.size+1+1,k,none⟩ u) o P vr vn vp vpl:=by
 have I:=h.hz;refine⟨h.bl.setCell (p:=⟨w0.heap.size+1+1,k,none⟩) (by show w0.heap.size<=w0.heap.size+1+1;omega) u,H9 h.fl (by omega) u,pJ h.t1 _ _,?_,pJ h.t2 _ _,QN h.rp (by show w0.heap.size+1+1<w0.heap.size+3;omega) _,by simp[MG];omega,F⟩;rw[<-D];exact yW h.rg k (by rw[P4 _ _ h.ln];exact C) u
theorem GW.cell(h:GW w0 w bG P vr vn vp vpl){k:Nat}{v:tV}(o:(uY bG vpl)[k]?=some v):w.cell? ⟨w0.heap.size+1+1,k,none⟩=some v:=by
 have:=h.rg k v o;rw[LR]at this;exact this
theorem GW.fz(h:GW w0 w bG P vr vn vp vpl){k:Nat}(o:k<257):w.frozen? ⟨w0.heap.size+1+1,k,none⟩=false:=by
 have:=(h.t2 k o).2;rw[LR]at this;exact this
theorem GW.more{w4:tW}(h:GW w0 w bG P vr vn vp vpl){o:Obj}{x:Int}{g aJ:Nat}
  (F:w4.ownsRow (w0.heap.size+3) 103 1 (.slice (some ⟨g,0,none⟩) (P.length+1) aJ) (P.length+1) (pN P++[.int .i64 x])) (C:(w.alloc o).grownBy w4 vpl.ownBlock):
  GW w0 (w4.setCell ⟨w0.heap.size+1+1,256,none⟩ (.slice (some ⟨g,0,none⟩) (P.length+1) aJ)) bG (P++[x]) vr vn vp (.slice (some ⟨g,0,none⟩) (P.length+1) aJ)/\Below (w0.heap.size+3) w w4:=by
 have V:=h.hz;have J:=C.size;simp at J;have D:∀k,k<w0.heap.size+3->w4.heap[k]?=w.heap[k]? :=λ k U=>(C.block k (by simp;omega) (λ e=>by have:=(h.rp.lt k e.symm).1;omega)).trans (MC w o k (by omega))
 have Q:Below (w0.heap.size+3) w w4:=⟨C.os,C.tape,C.output,by omega,D⟩
 have I:w4.rangeAt (w0.heap.size+1+1) 0 (uY bG vpl):=fY h.rg (D _ (by omega));refine⟨⟨(h.bl.trans (Q.mono (by omega))).setCell (p:=⟨w0.heap.size+1+1,256,none⟩) (by show w0.heap.size<=w0.heap.size+1+1;omega) _,H9 (fY h.fl (D _ (by omega))) (by omega) _,pJ (gK h.t1 (D _ (by omega))) _ _,?_,pJ (gK h.t2 (D _ (by omega))) _ _,?_,by simp[MG];omega,h.ln⟩,Q⟩
 ·rw[<-Ku bG vpl _ h.ln];exact yW I 256 (by rw[P4 _ _ h.ln];omega) _
 ·rw[tX,LJ];exact QN F (by show w0.heap.size+1+1<w0.heap.size+3;omega) _
def BQ(w:tW)(R:List Nat×List Int)(e:Ending)(w':tW):Prop:=
 ∃vpl,e=.returned (.agg (uY R.1 vpl).toArray)/\R.1.length=256/\w'.ownsRow (w.heap.size+3) 103 1 vpl R.2.length (pN R.2)/\Bl w w'
theorem Oi(aW:List (Nat->Bool))(qg Q:Nat)(vr vn:tV)(w:tW)(hn:aW.length<=10)(hp:yQ w qg aW)(hg:qg<w.heap.size):
  QX LY 17 #[.agg #[vr,vn,.slice (some ⟨qg,0,none⟩) aW.length Q]] w λ e w'=>BQ w (qG aW) e w':=by
 have HP:=fV hp;clear hp;obtain⟨vp,aO⟩:=xE (MI (some ⟨qg,0,none⟩) aW.length Q)
 rw[aO];have aL:=fV (iD ((w.alloc (.cells #[vr,vn,vp] 44)).alloc (.cells LI 50)) LI 50 (w.heap.size+1+1) 257 cC (by simp));have eM:QO (GW w ((((w.alloc (.cells #[vr,vn,vp] 44)).alloc (.cells LI 50)).alloc (.cells LI 50)).setCells (w.heap.size+1+1) 0 Tryz.zeroCells50.toList) (MD 256 0) [] vr vn vp (.slice none 0 0)):=by
  have b1:Bl w (((w.alloc (.cells #[vr,vn,vp] 44)).alloc (.cells LI 50)).alloc (.cells LI 50)):=((bR.alloc lR _).alloc (by simp) _).alloc (by simp;omega) _;have hz:=(fX Tryz.zeroCells50.toList 0 (((w.alloc (.cells #[vr,vn,vp] 44)).alloc (.cells LI 50)).alloc (.cells LI 50)) (w.heap.size+1+1) (PC 0 _) zL).size;simp at hz;have b2:Below (w.heap.size+1+1) (((w.alloc (.cells #[vr,vn,vp] 44)).alloc (.cells LI 50)).alloc (.cells LI 50)) ((((w.alloc (.cells #[vr,vn,vp] 44)).alloc (.cells LI 50)).alloc (.cells LI 50)).setCells (w.heap.size+1+1) 0 Tryz.zeroCells50.toList):=fX _ 0 _ _ bR lR;have f0:=mA w #[vr,vn,vp] 44;have f1:(((w.alloc (.cells #[vr,vn,vp] 44)).alloc (.cells LI 50)).alloc (.cells LI 50)).rangeAt w.heap.size 0 [vr,vn,vp]:=fY (fY f0 (MC _ _ _ (by simp))) (MC _ _ _ (by simp;omega));have t1:=iD (w.alloc (.cells #[vr,vn,vp] 44)) LI 50 (w.heap.size+1) 257 cC (by simp);refine⟨b1.trans (b2.mono (by omega)),fY f1 (b2.block _ (by omega)),gK (PG t1 _) (b2.block _ (by omega)),?_,OV aL.o _ _ _,NS _ _ _ _,by omega,NH⟩;rw[<-fM];exact LM _ _ _ _ (by rw[MR,cC];exact aL.o)
 go_enter func17,ntmps17;go_upto_region 2 with(first
  | (refine QQ rfl 50 (.tmp 3) (.tmp 7) rfl (w.heap.size+1+1) 0 LI ?_ rfl ?_ ?_ dX ?_;rfl;(rw[cC];exact aL.o);(rw[cC];exact cG)))
 generalize (((w.alloc (.cells #[vr,vn,vp] 44)).alloc (.cells LI 50)).alloc (.cells LI 50)).setCells (w.heap.size+1+1) 0 Tryz.zeroCells50.toList=W0 at*;clear aL;obtain⟨FC,I⟩:=xE (qG aW)
 have eL:QO (U9 (G2 aW) 256 0 [] []=FC):=I;replace I:=fV I;replace aO:=fV aO;go_wp2_with fail
 go_loopg [8] 256 (λ gk iv wr=>∃(b:Nat)(bG:List Nat)(P:List Int)(vpl:tV),iv=.int .i64 (b:Int)/\b+gk=256/\bG.length=b/\P.length<=b/\FC=U9 (G2 aW) gk b bG P/\GW w wr (bG++MD gk 0) P vr vn vp vpl)
 case atStart=>exact⟨0,[],[],.slice none 0 0,rfl,rfl,rfl,lR,eL.o.symm,eM.o⟩
 case round=>
  obtain⟨b,bG,P,vpl,rfl,hD,eN,hF,eR,eO⟩:=hrel;have HQ:=fV eR;have HG:=fV eO;have bN:=fV eN;clear eR eO eN eM eL;by_cases cP:b<256
  ·obtain⟨d,rfl⟩:∃d,gk=d+1:=⟨gk-1,by omega⟩
   have eS:decide ((b:Int)<256)=true:=by simp;omega
   have bS:=Qj aW qg Q b vr vn wr hn cP (HP.o.below HG.o.bl hg) (by have:=HG.o.bl.size;omega);rw[aO.o]at bS;have X:QO (FC=U9 (G2 aW) d (b+1) (bG++[jT P (G2 aW b)]) (if jT P (G2 aW b)=P.length then P++[G2 aW b]else P)):=HQ.o;generalize G2 aW b=x at*;go_wp2_with (first|(refine QP rfl 44 (.tmp 1) rfl w.heap.size 0 rfl [vr,vn,vp] _ HG.o.fl NC rfl bY ?_)|fail);refine bS.mono ?_;rintro e w1 ⟨rfl,cF⟩;have C:=fV (HG.o.below cF);clear cF bS HG;have aT:=C.o.cell (Ma _ _ C.o.ln);go_wp2_with fail;refine(Uy P vpl x w1 (by omega) (Uo C.o.rp)).mono ?_;rintro e w2 ⟨rfl,rfl⟩;have eX:=z5 P x;obtain⟨J,bM⟩:=xE (jT P x)
   rw[bM]at X eX ⊢;replace bM:=fV bM;obtain⟨va,aU,bT⟩:=gA C.o.rp;subst bT;have aR:b<(bG++MD (d+1) 0).length:=by rw[C.o.ln];exact cP
   have HE:QO ((bG++MD (d+1) 0).set b J=(bG++[J])++MD d 0):=by unfold QO;rw[<-bN.o];exact Kc bG d J
   have hH:(0:Int)<=(b:Int)/\(b:Int)<256:=by omega
   by_cases Y:J=P.length
   ·rw[aB Y]at X;have eT:((J:Int)==(P.length:Int))=true:=by rw[Y];simp
    have hE:some (w.heap.size+1+1)≠(MI va P.length aU).ownBlock:=λ e=>by have:=(C.o.rp.lt _ e.symm).1;omega
    have bC:=C.o.fz (k:=256) (by omega);have hG:=C.o.hz;clear Y;go_wp2_with (first|(at_builtin;refine gB w2 rfl (.tmp 24) (.tmp 26) 48 rfl (w.heap.size+3) 103 (.int .i64 0) 1 8 OB cX rfl (by decide) (by decide) (.slice va P.length aU) P.length (pN P) [.int .i64 x] _ rfl C.o.rp _ rfl rfl rfl (by simp[LK]) (by omega) (by omega) ?_;intro g4 cap4 w4 bO Z hC hB;have HM:=fV (C.o.more (x:=x) bO Z);have m3:=(HM.o.2.cell (p:=⟨w.heap.size+1+1,256,none⟩) (show w.heap.size+1+1<w.heap.size+3 by omega)).trans aT;have n3:=(HM.o.2.frozen (p:=⟨w.heap.size+1+1,256,none⟩) (show w.heap.size+1+1<w.heap.size+3 by omega)).trans bC;have e5:=HM.o.1.cell (o8 _ _ b aR);have e6:=HM.o.1.fz (k:=b) (by omega);clear aT bC)|fail);have U:=fV (HM.o.1.set (k:=b) (u:= .int .i64 (J:Int)) (by omega) (Gx _ _ b J aR) (by rw[OH];exact HM.o.1.ln));rw[HE.o]at U;go_roundg d
    case measure=>omega
    case rel=>exact⟨b+1,bG++[J],P++[x],_,by go_num,by omega,by simp[bN.o],by simp;omega,X.o,U.o⟩
   ·rw[aA Y]at X;have eT:((J:Int)==(P.length:Int))=false:=by rw[aC];omega
    have e5:=C.o.cell (o8 _ _ b aR);have e6:=C.o.fz (k:=b) (by omega);have U:=fV (C.o.set (k:=b) (u:= .int .i64 (J:Int)) (by omega) (Gx _ _ b J aR) (by rw[OH];exact C.o.ln));rw[HE.o]at U;clear Y;generalize (bG++MD (d+1) 0)[b]=old at*;go_wp2;go_roundg d
    case measure=>omega
    case rel=>exact⟨b+1,bG++[J],P,_,by go_num,by omega,by simp[bN.o],by omega,X.o,U.o⟩
  ·have e:gk=0:=by omega
   subst e;have eS:decide ((b:Int)<256)=false:=by simp;omega
   have HE:QO (FC=(bG,P)):=HQ.o;have D:=HG;rw[List.replicate_zero,MS]at D;obtain⟨va,aU,bT⟩:=gA D.o.rp;subst bT;have F:=fV (P4 bG (.slice va P.length aU) D.o.ln);have bK:QO (∀v∈uY bG (.slice va P.length aU),v.oneCell'=true):=λ v hv=>by
    unfold uY pA at hv;rcases LN.1 hv with h1|h1
    ·rw[OP]at h1;obtain⟨y,_,rfl⟩:=h1;rfl
    ·rw[LH]at h1;rw[h1];rfl
   obtain⟨IL,V⟩:=xE (uY bG (.slice va P.length aU))
   have hA:QO (wr.rangeAt (w.heap.size+1+1) 0 IL):=by rw[<-V];exact D.o.rg
   rw[V]at bK F;replace V:=fV V;have cN:QO (IL.toArray.size=257):=by unfold QO;simpa using F.o
   have gL:QO (wr.there (w.heap.size+1) 0 IL.length):=by unfold QO;rw[F.o];exact D.o.t1
   clear HG;go_wp2_with (first
    | (refine QP rfl 50 (.tmp 3) rfl (w.heap.size+1+1) 0 rfl IL _ hA.o NT rfl ?_ ?_;(rw[F.o];exact cG))
    | (refine QQ rfl 50 (.tmp 2) (.tmp 34) rfl (w.heap.size+1) 0 IL.toArray rfl rfl ?_ ?_ (QR bK.o) ?_;(rw[cN.o];exact D.o.t1);(rw[cN.o];exact cG)))
   refine lE results17 (w.heap.size+1) 0 IL _ rfl ?_ NT rfl (by rw[F.o];exact cG) rfl ?_
   ·exact LM _ _ _ _ gL.o
   ·refine⟨.slice va P.length aU,?_,?_,?_,?_⟩
    ·rw[I.o,HE.o,V.o]
    ·rw[I.o,HE.o];exact D.o.ln
    ·rw[I.o,HE.o];exact lD D.o.rp (by omega) _ 0
    ·exact fX _ 0 _ _ D.o.bl (PN _)
end
section
theorem Dt(C y z:Int)(aG:Nat->Int)(l r:qQ)(nb:Nat)(vf vl:tV)(w:tW)(F:0<=C/\C<=5)(D:C=0->0<=y/\y<10)(o:nb<w.heap.size)(h:kD w nb vf vl aG):
  QX LY 68 #[.pointer (some ⟨nb,0,none⟩),.agg #[.int .i64 C,.int .i64 y,.int .i64 z],sG l,sG r] w (tI w nb vf vl (oL C y l r aG)):=by
 have:C=0\/C=1\/C=2\/C=3\/C=4\/C=5:=by omega
 rcases this with rfl|rfl|rfl|rfl|rfl|rfl
 ·obtain⟨p,rfl⟩:∃p:Nat,y=(p:Int):=⟨y.toNat,by have:=D rfl;omega⟩
  exact EK aG p (by have:=D rfl;omega) z l r nb vf vl w o h
 ·exact GD aG y z l r nb vf vl w o h
 ·exact EG aG y z l r nb vf vl w o h
 ·exact FF aG y z l r nb vf vl w o h
 ·exact DY aG y z l r nb vf vl w o h
 ·exact DL aG y z l r nb vf vl w o h
structure LW(w0 w:tW)(n:Nat)(ps:Nat->qQ)(aG:Nat->Int)(vr vn vp:tV):Prop where
 bl:Bl w0 w
 fl:w.rangeAt w0.heap.size 0 [vr,vn,vp]
 t1:w.there (w0.heap.size+1) 0 12
 nt:kD w (w0.heap.size+1+1) (.slice none 0 0) (.slice none 0 0) aG
 pt:vW w (w0.heap.size+1+1+1) n ps
 hz:w0.heap.size+4<=w.heap.size
variable {w0 w w':tW}{n:Nat}{ps:Nat->qQ}{aG next':Nat->Int}{vr vn vp:tV}
theorem LW.below(h:LW w0 w n ps aG vr vn vp)(o:Bl w w'):LW w0 w' n ps aG vr vn vp:=by
 have C:=h.hz;exact⟨h.bl.trans (o.mono (by omega)),fY h.fl (o.block _ (by omega)),gK h.t1 (o.block _ (by omega)),h.nt.below o (by omega),h.pt.block (o.block _ (by omega)),by have:=o.size;omega⟩
theorem LW.net(h:LW w0 w n ps aG vr vn vp)(hg:w.grownBy w' (some (w0.heap.size+1+1)))(hn:kD w' (w0.heap.size+1+1) (.slice none 0 0) (.slice none 0 0) next'):LW w0 w' n ps next' vr vn vp:=by
 have D:=h.hz;have o:∀k,k≠w0.heap.size+1+1->some k≠some (w0.heap.size+1+1):=λ k C e=>by injection e;omega
 exact⟨⟨hg.os.trans h.bl.os,hg.tape.trans h.bl.tape,hg.output.trans h.bl.output,NN h.bl.size hg.size,λ k C=>(hg.block k (by omega) (o k (by omega))).trans (h.bl.block k C)⟩,fY h.fl (hg.block _ (by omega) (o _ (by omega))),gK h.t1 (hg.block _ (by omega) (o _ (by omega))),hn,h.pt.block (hg.block _ (by omega) (o _ (by omega))),by have:=hg.size;omega⟩
theorem LW.part(h:LW w0 w n ps aG vr vn vp){k:Nat}(C:k<n)(p:qQ):LW w0 (w.setCells (w0.heap.size+1+1+1) (k*3) (nC p)) n (λ i=>if i=k then p else ps i) aG vr vn vp:=by
 have D:=h.hz;have o:Below (w0.heap.size+1+1+1) w (w.setCells (w0.heap.size+1+1+1) (k*3) (nC p)):=fX _ _ _ _ bR lR;exact⟨h.bl.trans (o.mono (by omega)),fY h.fl (o.block _ (by omega)),gK h.t1 (o.block _ (by omega)),h.nt.below o (by omega),h.pt.set C p,by have:=o.size;omega⟩
structure LX(w0 w:tW)(n:Nat)(ps:Nat->qQ)(aG:Nat->Int)(fi la:List Int)(vf vl vr vn vp:tV):Prop where
 bl:Bl w0 w
 fl:w.rangeAt w0.heap.size 0 [vr,vn,vp]
 t1:w.there (w0.heap.size+1) 0 12
 nt:kD w (w0.heap.size+1+1) vf vl aG
 pt:vW w (w0.heap.size+1+1+1) n ps
 rf:w.ownsRow (w0.heap.size+4) 103 1 vf fi.length (pN fi)
 rl:w.ownsRow (w0.heap.size+4) 103 1 vl la.length (pN la)
 ap:∀k,vf.ownBlock=some k->vl.ownBlock=some k->False
 hz:w0.heap.size+4<=w.heap.size
theorem LW.more(h:LW w0 w n ps aG vr vn vp):LX w0 w n ps aG [] [] (.slice none 0 0) (.slice none 0 0) vr vn vp:=
 ⟨h.bl,h.fl,h.t1,h.nt,h.pt,NS _ _ _ _,NS _ _ _ _,(λ k o _=>by cases o),h.hz⟩
variable {fi la:List Int}{vf vl:tV}
theorem LX.below(h:LX w0 w n ps aG fi la vf vl vr vn vp)(o:Bl w w'):LX w0 w' n ps aG fi la vf vl vr vn vp:=by
 have C:=h.hz;exact⟨h.bl.trans (o.mono (by omega)),fY h.fl (o.block _ (by omega)),gK h.t1 (o.block _ (by omega)),h.nt.below o (by omega),h.pt.block (o.block _ (by omega)),wL h.rf o,wL h.rl o,h.ap,by have:=o.size;omega⟩
theorem kD.set0{w:tW}{vf vl:tV}{aG:Nat->Int}(h:kD w nb vf vl aG)(u:tV):kD (w.setCell ⟨nb,0,none⟩ u) nb u vl aG:=
 ⟨NB _ _ _ h.c0,by rw[MB (h:=by intro e;injection e;omega)];exact h.c1,λ k o=>by rw[MB (h:=by intro e;injection e;omega)];exact h.nx k o,λ i=>by rw[MW];exact h.fz i⟩
theorem kD.set1{w:tW}{vf vl:tV}{aG:Nat->Int}(h:kD w nb vf vl aG)(u:tV):kD (w.setCell ⟨nb,1,none⟩ u) nb vf u aG:=
 ⟨by rw[MB (h:=by intro e;injection e;omega)];exact h.c0,NB _ _ _ h.c1,λ k o=>by rw[MB (h:=by intro e;injection e;omega)];exact h.nx k o,λ i=>by rw[MW];exact h.fz i⟩
theorem LX.moreF{w4:tW}(h:LX w0 w n ps aG fi la vf vl vr vn vp){o:Obj}{x:Int}{g aJ:Nat}
  (J:w4.ownsRow (w0.heap.size+4) 103 1 (.slice (some ⟨g,0,none⟩) (fi.length+1) aJ) (fi.length+1) (pN fi++[.int .i64 x])) (C:(w.alloc o).grownBy w4 vf.ownBlock) (V:vf.ownBlock=some g\/g=w.heap.size+1):
  LX w0 (w4.setCell ⟨w0.heap.size+1+1,0,none⟩ (.slice (some ⟨g,0,none⟩) (fi.length+1) aJ)) n ps aG (fi++[x]) la (.slice (some ⟨g,0,none⟩) (fi.length+1) aJ) vl vr vn vp/\Below (w0.heap.size+4) w w4:=by
 have hz:=h.hz;have X:=C.size;simp at X;have Q:∀k,k<w.heap.size->vf.ownBlock≠some k->w4.heap[k]?=w.heap[k]? :=λ k F hv=>(C.block k (by simp;omega) (λ e=>hv e.symm)).trans (MC w o k F)
 have I:Below (w0.heap.size+4) w w4:=⟨C.os,C.tape,C.output,by omega,λ k F=>Q k (by omega) (λ e=>by have:=(h.rf.lt k e).1;omega)⟩
 have U:Below (w0.heap.size+1+1) w4 (w4.setCell ⟨w0.heap.size+1+1,0,none⟩ (.slice (some ⟨g,0,none⟩) (fi.length+1) aJ)):=tN lR;have D:∀k,k≠w0.heap.size+1+1->(w4.setCell ⟨w0.heap.size+1+1,0,none⟩ (.slice (some ⟨g,0,none⟩) (fi.length+1) aJ)).heap[k]?=w4.heap[k]? :=λ k F=>MH _ _ _ _ F
 refine⟨⟨(h.bl.trans (I.mono (by omega))).trans (U.mono (by omega)),fY (fY h.fl (I.block _ (by omega))) (D _ (by omega)),gK (gK h.t1 (I.block _ (by omega))) (D _ (by omega)),(h.nt.below I (by omega)).set0 _,(h.pt.block (I.block _ (by omega))).block (D _ (by omega)),?_,?_,λ k Z Y=>?_,by simp[MG];omega⟩,I⟩
 ·rw[tX,LJ];exact QN J (by show w0.heap.size+1+1<w0.heap.size+4;omega) _
 ·exact QN (iH h.rl (λ k F=>Q k (h.rl.lt k F).2 (λ e=>h.ap k e F))) (by show w0.heap.size+1+1<w0.heap.size+4;omega) _
 ·have e:g=k:=by simpa[ME]using Z
  subst e;rcases V with q|q
  ·exact h.ap g q Y
  ·have:=(h.rl.lt g Y).2;omega
theorem LX.moreL{w4:tW}(h:LX w0 w n ps aG fi la vf vl vr vn vp){o:Obj}{x:Int}{g aJ:Nat}
  (J:w4.ownsRow (w0.heap.size+4) 103 1 (.slice (some ⟨g,0,none⟩) (la.length+1) aJ) (la.length+1) (pN la++[.int .i64 x])) (C:(w.alloc o).grownBy w4 vl.ownBlock) (V:vl.ownBlock=some g\/g=w.heap.size+1):
  LX w0 (w4.setCell ⟨w0.heap.size+1+1,1,none⟩ (.slice (some ⟨g,0,none⟩) (la.length+1) aJ)) n ps aG fi (la++[x]) vf (.slice (some ⟨g,0,none⟩) (la.length+1) aJ) vr vn vp/\Below (w0.heap.size+4) w w4:=by
 have hz:=h.hz;have X:=C.size;simp at X;have Q:∀k,k<w.heap.size->vl.ownBlock≠some k->w4.heap[k]?=w.heap[k]? :=λ k F hv=>(C.block k (by simp;omega) (λ e=>hv e.symm)).trans (MC w o k F)
 have I:Below (w0.heap.size+4) w w4:=⟨C.os,C.tape,C.output,by omega,λ k F=>Q k (by omega) (λ e=>by have:=(h.rl.lt k e).1;omega)⟩
 have U:Below (w0.heap.size+1+1) w4 (w4.setCell ⟨w0.heap.size+1+1,1,none⟩ (.slice (some ⟨g,0,none⟩) (la.length+1) aJ)):=tN lR;have D:∀k,k≠w0.heap.size+1+1->(w4.setCell ⟨w0.heap.size+1+1,1,none⟩ (.slice (some ⟨g,0,none⟩) (la.length+1) aJ)).heap[k]?=w4.heap[k]? :=λ k F=>MH _ _ _ _ F
 refine⟨⟨(h.bl.trans (I.mono (by omega))).trans (U.mono (by omega)),fY (fY h.fl (I.block _ (by omega))) (D _ (by omega)),gK (gK h.t1 (I.block _ (by omega))) (D _ (by omega)),(h.nt.below I (by omega)).set1 _,(h.pt.block (I.block _ (by omega))).block (D _ (by omega)),?_,?_,λ k Y Z=>?_,by simp[MG];omega⟩,I⟩
 ·exact QN (iH h.rf (λ k F=>Q k (h.rf.lt k F).2 (λ e=>h.ap k F e))) (by show w0.heap.size+1+1<w0.heap.size+4;omega) _
 ·rw[tX,LJ];exact QN J (by show w0.heap.size+1+1<w0.heap.size+4;omega) _
 ·have e:g=k:=by simpa[ME]using Z
  subst e;rcases V with q|q
  ·exact h.ap g Y q
  ·have:=(h.rf.lt g Y).2;omega
end
theorem dA:(Tryz.prog.info? 162).map (·.size)=some 3:=by kernel_rfl
theorem fG:(Tryz.prog.info? 164).map (λ i=>(i.zero,i.size,i.bytes))=some (some (.agg #[.int .i64 0,.int .i64 0,.bool false]),3,24):=by kernel_rfl
theorem Wg(a b c:tV)(n j i:Nat)(o:j<n)(hi:i<3):(QT #[a,b,c] (n*3)).toList[j*3+i]?= [a,b,c][i]? :=by
 unfold QT;rw[Array.toList_map,MA,Array.toList_range,NU (by omega),OG];have e:(j*3+i)%(#[a,b,c]:Array tV).size=i:=by show(j*3+i)%3=i;omega
 rw[e];have:i=0\/i=1\/i=2:=by omega
 rcases this with rfl|rfl|rfl<;>rfl
theorem Hg{w:tW}{pb:Nat}(h:w.ownsRow aH 164 3 (.slice (some ⟨pb,0,none⟩) n n) n (QT #[.int .i64 0,.int .i64 0,.bool false] (n*3)).toList):vW w pb n (λ _=>qP):=λ j D=>by
 have C:∀i v,i<3->(nC qP)[i]?=some v->w.cell? ⟨pb,j*3+i,none⟩=some v:=λ i v hi o=>by
  have:=h.cells rfl (j*3+i) v (by rw[Wg _ _ _ n j i D hi];exact o);rw[wG]at this;exact this
 refine⟨λ i v o=>C i v (LG.1 o).1 o,λ i hi=>⟨?_,rX h _⟩⟩;have:i=0\/i=1\/i=2:=by omega
 rcases this with rfl|rfl|rfl
 ·rw[C 0 _ (by omega) rfl];rfl
 ·rw[C 1 _ (by omega) rfl];rfl
 ·rw[C 2 _ (by omega) rfl];rfl
theorem LW.keep{w0 w w':tW}{ps:Nat->qQ}{aG:Nat->Int}{vr vn vp:tV}(h:LW w0 w n ps aG vr vn vp)(o:Below B w w')(C:w0.heap.size+4<=B):LW w0 w' n ps aG vr vn vp:=by
 have D:=h.hz;exact⟨h.bl.trans (o.mono (by omega)),fY h.fl (o.block _ (by omega)),gK h.t1 (o.block _ (by omega)),h.nt.below o (by omega),h.pt.block (o.block _ (by omega)),by have:=o.size;omega⟩
theorem Xc{w:tW}{vf vl:tV}{aG:Nat->Int}(h:kD w nb vf vl aG):w.rangeAt nb 0 (mQ vf vl aG).toList:=λ j v o=>by
 rw[LR];have C:j<12:=(LG.1 o).1;have:j=0\/j=1\/j=2\/j=3\/j=4\/j=5\/j=6\/j=7\/j=8\/j=9\/j=10\/j=11:=by omega
 rcases this with rfl|rfl|rfl|rfl|rfl|rfl|rfl|rfl|rfl|rfl|rfl|rfl
 ·cases o;exact h.c0
 ·cases o;exact h.c1
 all_goals (cases o)
 ·exact h.nx 0 (by omega)
 ·exact h.nx 1 (by omega)
 ·exact h.nx 2 (by omega)
 ·exact h.nx 3 (by omega)
 ·exact h.nx 4 (by omega)
 ·exact h.nx 5 (by omega)
 ·exact h.nx 6 (by omega)
 ·exact h.nx 7 (by omega)
 ·exact h.nx 8 (by omega)
 ·exact h.nx 9 (by omega)
def EJ(w:tW)(aV:List (Int×Int×Int))(aX:List ((Nat->Bool)×Int×Int))(e:Ending)(w':tW):Prop:=
 ∃vf vl,e=.returned (.agg (mQ vf vl (jJ aV 0 (λ _=>qP) (λ _=>0)).2))/\Bl w w'/\
  w'.ownsRow (w.heap.size+4) 103 1 vf aX.length (pN (aX.map λ x=>((jJ aV 0 (λ _=>qP) (λ _=>0)).1 x.2.2.toNat).1))/\
  w'.ownsRow (w.heap.size+4) 103 1 vl aX.length (pN (aX.map λ x=>((jJ aV 0 (λ _=>qP) (λ _=>0)).1 x.2.2.toNat).2.1))
theorem Yy(aV:List (Int×Int×Int))(aX:List ((Nat->Bool)×Int×Int))(ng C rg hF:Nat)(vp:tV)(w:tW)(hn:aV.length<=1000)(S5:Ix aV)(hN:F6 w ng aV)(hg:ng<w.heap.size)
  (a8:aX.length<=1000) (hR:uA w rg aX) (Go:rg<w.heap.size) (W6:∀x∈aX,0<=x.2.2/\x.2.2<aV.length):
  QX LY 36 #[.agg #[.slice (some ⟨rg,0,none⟩) aX.length hF,.slice (some ⟨ng,0,none⟩) aV.length C,vp]] w λ e w'=>EJ w aV aX e w':=by
 obtain⟨m,hL⟩:=xE (aX.length)
 rw[hL]at a8 ⊢;replace hL:=fV hL;have Hb:=fV hR;have X2:=fV W6;clear hR W6;obtain⟨vr,hQ⟩:=xE (MI (some ⟨rg,0,none⟩) m hF)
 rw[hQ];replace hQ:=fV hQ;have HN:=fV hN;have a9:=fV S5;clear hN S5;obtain⟨i0,W7,eN,H4,O3⟩:=QS fG;have HI:QO (Tryz.prog.info? 164=some i0/\i0.zero=some (.agg #[.int .i64 0,.int .i64 0,.bool false])/\i0.size=3/\i0.bytes=24):=⟨W7,eN,H4,O3⟩
 clear W7 eN H4 O3;go_enter func36,ntmps36;go_upto_region 2 with fail;obtain⟨n,eS⟩:=xE (aV.length)
 rw[eS]at hn ⊢;replace eS:=fV eS;obtain⟨W0,aR⟩:=xE (((w.alloc (.cells #[vr,.slice (some ⟨ng,0,none⟩) n C,vp] 44)).alloc (.cells (mQ (.slice none 0 0) (.slice none 0 0) (λ _=>0)) 108)).alloc (.cells (mQ (.slice none 0 0) (.slice none 0 0) (λ _=>0)) 108))
 have eN:W0.heap.size=w.heap.size+1+1+1:=by rw[<-aR];simp
 have W5:QO (Bl w W0):=by unfold QO;rw[<-aR];exact((bR.alloc lR _).alloc (by simp) _).alloc (by simp;omega) _
 have B2:QO (W0.rangeAt w.heap.size 0 [vr,.slice (some ⟨ng,0,none⟩) n C,vp]):=by
  unfold QO;rw[<-aR];exact fY (fY (mA w #[vr,.slice (some ⟨ng,0,none⟩) n C,vp] 44) (MC _ _ _ (by simp))) (MC _ _ _ (by simp;omega))
 have W1:QO (W0.there (w.heap.size+1) 0 12):=by
  unfold QO;rw[<-aR];exact PG (iD (w.alloc (.cells #[vr,.slice (some ⟨ng,0,none⟩) n C,vp] 44)) (mQ (.slice none 0 0) (.slice none 0 0) (λ _=>0)) 108 (w.heap.size+1) 12 rfl (by simp)) _
 have N0:QO (kD W0 (w.heap.size+1+1) (.slice none 0 0) (.slice none 0 0) (λ _=>0)):=by
  unfold QO;rw[<-aR];exact kD.box _ _ _ _ _ _ (by simp)
 have c1:W0.cell? ⟨w.heap.size,1,none⟩=some (.slice (some ⟨ng,0,none⟩) n C):=B2.o 1 _ rfl;unfold mQ at aR;rw[aR];clear aR;go_upto_block 0 with(first|(at_make;refine wpList_make_full W0 rfl _ _ 160 rfl W0.heap.size 164 i0 (.agg #[.int .i64 0,.int .i64 0,.bool false]) 3 underlying160 HI.o.1 HI.o.2.1 HI.o.2.2.1 .i64 .i64 _ _ n rfl rfl rfl rfl (by rw[HI.o.2.2.2];omega) (by unfold QW;omega) lR ?_;intro w1 aW eO;have eL:QO (Bl W0 w1):=(⟨eO.os,eO.tape,eO.output,eO.size,λ k hk=>eO.block k hk (by simp)⟩:Bl W0 w1);have a7:=(eL.o.cell (p:=⟨w.heap.size,1,none⟩) (show w.heap.size<W0.heap.size by omega)).trans c1;clear c1))
 have Q:QO (LW w w1 n (λ _=>qP) (λ _=>0) vr (.slice (some ⟨ng,0,none⟩) n C) vp):=by
  refine⟨W5.o.trans (eL.o.mono (by omega)),fY B2.o (eL.o.block _ (by omega)),gK W1.o (eL.o.block _ (by omega)),N0.o.below eL.o (by omega),?_,?_⟩
  ·first|exact Hg aW|(rw[<-eN];exact Hg aW)
  ·first|(have:=(aW.lt W0.heap.size rfl).2;omega)|(have:=(aW.lt (w.heap.size+1+1+1) rfl).2;omega)
 try rw[eN]
 clear aW eO eL W5 B2 W1 N0 a7 eN;obtain⟨FC,gL⟩:=xE (jJ aV 0 (λ _=>qP) (λ _=>0))
 replace gL:=fV gL
 go_cut [20] from 12 to 47 (λ _ wc=>LW w wc n FC.1 FC.2 vr (.slice (some ⟨ng,0,none⟩) n C) vp)
 case first=>
  go_wp2_with fail
  go_loopg [20] n (λ gk iv wr=>∃(k:Nat)(ps:Nat->qQ)(aG:Nat->Int),iv=.int .i64 (k:Int)/\k+gk=n/\FC=jJ (aV.drop k) k ps aG/\LW w wr n ps aG vr (.slice (some ⟨ng,0,none⟩) n C) vp)
  case atStart=>exact⟨0,_,_,rfl,by omega,gL.o.symm,Q.o⟩
  case round=>
   obtain⟨k,ps,aG,rfl,c4,X1,O5⟩:=hrel;have HQ:=fV X1;have HL:=fV O5;clear X1 O5 Q;by_cases bM:k<n
   ·obtain⟨d,rfl⟩:∃d,gk=d+1:=⟨gk-1,by omega⟩
    have eR:k<aV.length:=by rw[eS.o];exact bM
    have hx:aV[k]?=some (aV[k]):=LD eR;have eM:=fV ((HN.o.below HL.o.bl hg) k _ hx);have hT:=fV (HQ.o.trans (Rh hx ps aG));have H6:=a9.o k _ hx;generalize aV[k]=x at*;obtain⟨D,J,X⟩:=x;simp only at H6 eM;obtain⟨b1,X4,W2,W8⟩:=H6;have N1:0<=D/\D<=5:=⟨b1,X4⟩
    have a0:QO (Bl wr (((wr.alloc (.cells #[.int .i64 D,.int .i64 J,.int .i64 X] 162)).alloc (.cells #[.int .i64 0,.int .i64 0,.bool false] 164)).alloc (.cells #[.int .i64 0,.int .i64 0,.bool false] 164))):=((bR.alloc lR _).alloc (by simp) _).alloc (by simp;omega) _;have bO:QO (jV (((wr.alloc (.cells #[.int .i64 D,.int .i64 J,.int .i64 X] 162)).alloc (.cells #[.int .i64 0,.int .i64 0,.bool false] 164)).alloc (.cells #[.int .i64 0,.int .i64 0,.bool false] 164)) wr.heap.size (.int .i64 D) (.int .i64 J) (.int .i64 X)):=((jV.new wr wr.heap.size _ _ _ _ rfl).alloc (by simp) _).alloc (by simp;omega) _;have bC:QO (jV (((wr.alloc (.cells #[.int .i64 D,.int .i64 J,.int .i64 X] 162)).alloc (.cells #[.int .i64 0,.int .i64 0,.bool false] 164)).alloc (.cells #[.int .i64 0,.int .i64 0,.bool false] 164)) (wr.heap.size+1) (.int .i64 0) (.int .i64 0) (.bool false)):=(jV.new _ (wr.heap.size+1) _ _ _ _ (by simp)).alloc (by simp) _;have bN:QO (jV (((wr.alloc (.cells #[.int .i64 D,.int .i64 J,.int .i64 X] 162)).alloc (.cells #[.int .i64 0,.int .i64 0,.bool false] 164)).alloc (.cells #[.int .i64 0,.int .i64 0,.bool false] 164)) (wr.heap.size+1+1) (.int .i64 0) (.int .i64 0) (.bool false)):=jV.new _ (wr.heap.size+1+1) _ _ _ _ (by simp);have rT:=dT k n (by omega)
    have a2:=iI k n (by omega)
    clear hx eR;go_upto_region 8 with(first
     | (refine QP rfl 162 (.tmp 23) rfl ng (k*3) rfl [.int .i64 D,.int .i64 J,.int .i64 X] _ eM.o OJ rfl dA ?_))
    generalize ((wr.alloc (.cells #[.int .i64 D,.int .i64 J,.int .i64 X] 162)).alloc (.cells #[.int .i64 0,.int .i64 0,.bool false] 164)).alloc (.cells #[.int .i64 0,.int .i64 0,.bool false] 164)=A at*;have Z:=fV (HL.o.below a0.o);have T3:=fV HL.o.hz;clear eM HL;have L1:=fV W8;have c0:=bO.o.c0;have c1:=bO.o.c1;have c2:=bO.o.c2;have d1:w.heap.size+4<=wr.heap.size:=by have:=T3.o;omega
    clear W8;by_cases bK:D=0
    ·have Pl:((D:Int) !=0)=false:=by rw[bK];rfl
     have aO:QO (oV ps (D,J,X) aG=oL D J qP qP aG):=by unfold QO oV;rw[aB bK]
     obtain⟨I,tO⟩:=xE (qP)
     obtain⟨U,tT⟩:=xE (qP)
     have iN:QO (jV A (wr.heap.size+1) (.int .i64 I.1) (.int .i64 I.2.1) (.bool I.2.2)):=by rw[<-tO];exact bC
     have hX:QO (jV A (wr.heap.size+1+1) (.int .i64 U.1) (.int .i64 U.2.1) (.bool U.2.2)):=by rw[<-tT];exact bN
     have qL:QO (oV ps (D,J,X) aG=oL D J I U aG):=by rw[<-tO,<-tT];exact aO
     clear bC bN aO tO tT bK;have bC:=iN;have bN:=hX;have aO:=qL;clear iN hX qL;go_wp2_with (first
      | (refine QP rfl 162 (.tmp 6) rfl wr.heap.size 0 rfl [.int .i64 D,.int .i64 J,.int .i64 X] _ bO.o.range OJ rfl dA ?_)
      | (refine QP rfl 164 (.tmp 7) rfl (wr.heap.size+1) 0 rfl (nC I) _ bC.o.range MY rfl bQ ?_)
      | (refine QP rfl 164 (.tmp 8) rfl (wr.heap.size+1+1) 0 rfl (nC U) _ bN.o.range MY rfl bQ ?_)
      | fail)
     refine(Dt D J X aG I U (w.heap.size+1+1) _ _ A N1 W2 (by have:=Z.o.hz;omega) Z.o.nt).mono ?_;rintro e w7 ⟨hD,hC,rfl⟩;have V:=fV (Z.o.net hD hC);clear hD hC Z bO bC bN;rw[<-aO.o]at V ⊢;obtain⟨NP,bS⟩:=xE (oV ps (D,J,X) aG)
     rw[bS]at V hT ⊢;obtain⟨pp,B1⟩:=NP;have H2:=fV (V.o.pt k bM).2;have H3:=fV (V.o.part bM pp);replace bS:=fV bS;clear aO;go_wp2_with (first
      | (refine QQ rfl 164 (.tmp 46) (.tmp 45) rfl (w.heap.size+1+1+1) (k*3) (nC pp).toArray rfl rfl ?_ ?_ ?_ ?_;exact H2.o;exact bQ;(simp[nC,LK]))
      | fail)
     go_roundg d
     case measure=>omega
     case rel=>exact⟨k+1,_,B1,by go_num,by omega,hT.o,H3.o⟩
    ·have Pl:((D:Int) !=0)=true:=by rw[aD];exact bK
     have aO:QO (oV ps (D,J,X) aG=oL D J (ps J.toNat) (ps X.toNat) aG):=by unfold QO oV;rw[aA bK]
     obtain⟨c9,c3,c8,c6⟩:=L1.o bK;have O7:=fV (Z.o.pt J.toNat (by omega)).1;have O9:=fV (Z.o.pt X.toNat (by omega)).1;have a3:((J.toNat:Nat):Int)=J:=by omega
     have a4:((X.toNat:Nat):Int)=X:=by omega
     generalize ps J.toNat=I at*;generalize ps X.toNat=U at*;generalize J.toNat=nl at*;generalize X.toNat=nr at*;subst a3;subst a4;clear bK L1;have d3:=iI nl n (by omega)
     have a5:=iI nr n (by omega)
     have hB:QO (Below (w.heap.size+4) A (A.setCells (wr.heap.size+1) 0 (nC I))):=fX _ _ _ _ bR (by omega);have nN:QO ((A.setCells (wr.heap.size+1) 0 (nC I)).rangeAt (w.heap.size+1+1+1) (nr*3) (nC U)):=fY O9.o (hB.o.block _ (by omega));have hE:QO (jV (A.setCells (wr.heap.size+1) 0 (nC I)) wr.heap.size (.int .i64 D) (.int .i64 (nl:Int)) (.int .i64 (nr:Int))):=bO.o.block (lY A _ _ _ _ (by omega));have hY:QO (jV (A.setCells (wr.heap.size+1) 0 (nC I)) (wr.heap.size+1) (.int .i64 I.1) (.int .i64 I.2.1) (.bool I.2.2)):=bC.o.stored _ _ _;have hI:QO (jV (A.setCells (wr.heap.size+1) 0 (nC I)) (wr.heap.size+1+1) (.int .i64 0) (.int .i64 0) (.bool false)):=bN.o.block (lY A _ _ _ _ (by omega));have hW:=fV (Z.o.keep hB.o lR);go_upto_region 10 with(first
      | (refine QP rfl 164 (.tmp 33) rfl (w.heap.size+1+1+1) (nl*3) rfl (nC I) _ O7.o MY rfl bQ ?_)
      | (refine QQ rfl 164 (.tmp 7) (.tmp 34) rfl (wr.heap.size+1) 0 (nC I).toArray rfl rfl ?_ ?_ ?_ ?_;exact bC.o.there;exact bQ;(simp[nC,LK])))
     generalize A.setCells (wr.heap.size+1) 0 (nC I)=A1 at*;clear bO bC bN Z O7 O9 c0 c1 c2 hB;have d2:=hE.o.c2;have rO:QO (Below (w.heap.size+4) A1 (A1.setCells (wr.heap.size+1+1) 0 (nC U))):=fX _ _ _ _ bR (by omega);have hV:QO (jV (A1.setCells (wr.heap.size+1+1) 0 (nC U)) wr.heap.size (.int .i64 D) (.int .i64 (nl:Int)) (.int .i64 (nr:Int))):=hE.o.block (lY A1 _ _ _ _ (by omega));have cP:QO (jV (A1.setCells (wr.heap.size+1+1) 0 (nC U)) (wr.heap.size+1) (.int .i64 I.1) (.int .i64 I.2.1) (.bool I.2.2)):=hY.o.block (lY A1 _ _ _ _ (by omega));have nL:QO (jV (A1.setCells (wr.heap.size+1+1) 0 (nC U)) (wr.heap.size+1+1) (.int .i64 U.1) (.int .i64 U.2.1) (.bool U.2.2)):=hI.o.stored _ _ _;have cN:=fV (hW.o.keep rO.o lR);go_upto_region 11 with(first
      | (refine QP rfl 164 (.tmp 38) rfl (w.heap.size+1+1+1) (nr*3) rfl (nC U) _ nN.o MY rfl bQ ?_)
      | (refine QQ rfl 164 (.tmp 8) (.tmp 39) rfl (wr.heap.size+1+1) 0 (nC U).toArray rfl rfl ?_ ?_ ?_ ?_;exact hI.o.there;exact bQ;(simp[nC,LK])))
     generalize A1.setCells (wr.heap.size+1+1) 0 (nC U)=A2 at*;clear hE hY hI hW d2 nN rO;go_wp2_with (first
      | (refine QP rfl 162 (.tmp 6) rfl wr.heap.size 0 rfl [.int .i64 D,.int .i64 (nl:Int),.int .i64 (nr:Int)] _ hV.o.range OJ rfl dA ?_)
      | (refine QP rfl 164 (.tmp 7) rfl (wr.heap.size+1) 0 rfl (nC I) _ cP.o.range MY rfl bQ ?_)
      | (refine QP rfl 164 (.tmp 8) rfl (wr.heap.size+1+1) 0 rfl (nC U) _ nL.o.range MY rfl bQ ?_)
      | fail)
     refine(Dt D (nl:Int) (nr:Int) aG I U (w.heap.size+1+1) _ _ A2 N1 W2 (by have:=cN.o.hz;omega) cN.o.nt).mono ?_;rintro e w7 ⟨hD,hC,rfl⟩;have V:=fV (cN.o.net hD hC);clear hD hC cN hV cP nL;rw[<-aO.o]at V ⊢;obtain⟨NP,bS⟩:∃q,oV ps (D,(nl:Int),(nr:Int)) aG=q:=⟨_,rfl⟩
     rw[bS]at V hT ⊢;obtain⟨pp,B1⟩:=NP;have H2:=fV (V.o.pt k bM).2;have H3:=fV (V.o.part bM pp);replace bS:=fV bS;clear aO;go_wp2_with (first
      | (refine QQ rfl 164 (.tmp 46) (.tmp 45) rfl (w.heap.size+1+1+1) (k*3) (nC pp).toArray rfl rfl ?_ ?_ ?_ ?_;exact H2.o;exact bQ;(simp[nC,LK]))
      | fail)
     go_roundg d
     case measure=>omega
     case rel=>exact⟨k+1,_,B1,by go_num,by omega,hT.o,H3.o⟩
   ·have e:gk=0:=by omega
    subst e;have HE:QO (FC=(ps,aG)):=by unfold QO;rw[HQ.o,show aV.drop k=[] by rw[OF,eS.o];omega];rfl
    have rT:=dF k n (by omega)
    go_wp2;go_meet
    case rel=>rw[HE.o];exact HL.o
 case rest=>
  have H0:=fV hcut.more;clear hcut Q;obtain⟨PS,NX⟩:=FC;simp only at*;have c0:wc.cell? ⟨w.heap.size,0,none⟩=some (.slice (some ⟨rg,0,none⟩) m hF):=by rw[hQ.o];exact H0.o.fl 0 _ rfl
  go_wp2_with fail;clear c0
  go_loopg [51] m (λ gk iv wr=>∃(k:Nat)(fi la:List Int)(vf vl:tV),iv=.int .i64 (k:Int)/\k+gk=m/\fi=(aX.take k).map (λ x=>(PS x.2.2.toNat).1)/\la=(aX.take k).map (λ x=>(PS x.2.2.toNat).2.1)/\LX w wr n PS NX fi la vf vl vr (.slice (some ⟨ng,0,none⟩) n C) vp)
  case atStart=>exact⟨0,[],[],_,_,rfl,by omega,rfl,rfl,H0.o⟩
  case round=>
   obtain⟨k,fi,la,vf,vl,rfl,c7,O0,P0,W4⟩:=hrel;have HL:=fV W4;have hJ:=fV O0;have hG:=fV P0;clear W4 O0 P0 H0;by_cases bM:k<m
   ·obtain⟨d,rfl⟩:∃d,gk=d+1:=⟨gk-1,by omega⟩
    have eR:k<aX.length:=by rw[hL.o];exact bM
    have hx:aX[k]?=some (aX[k]):=LD eR;have eM:=fV ((Hb.o.below HL.o.bl Go) k _ hx);have O6:=X2.o _ (LZ eR);rw[eS.o]at O6;have cF:QO ((aX.take (k+1)).map (λ x=>(PS x.2.2.toNat).1)=fi++[(PS (aX[k]).2.2.toNat).1]):=by unfold QO;rw[PH,hx,NO,<-hJ.o];rfl
    have bT:QO ((aX.take (k+1)).map (λ x=>(PS x.2.2.toNat).2.1)=la++[(PS (aX[k]).2.2.toNat).2.1]):=by unfold QO;rw[PH,hx,NO,<-hG.o];rfl
    have eT:fi.length=k:=by rw[hJ.o,MT,PM];omega
    have eX:la.length=k:=by rw[hG.o,MT,PM];omega
    generalize aX[k]=x at*;obtain⟨f,be,ro⟩:=x;simp only at O6 cF bT;obtain⟨nr,sW⟩:∃nr:Nat,ro=(nr:Int):=⟨ro.toNat,by omega⟩
    subst sW;have sW:nr<n:=by omega
    rw[MJ]at cF bT;have A0:=fV (oY wr [.bool false,.bool false,.bool false,.bool false,.int .i64 0,.int .i64 0] 119 6 rfl);have lH:QO (xZ ((wr.alloc (.cells #[.bool false,.bool false,.bool false,.bool false,.int .i64 0,.int .i64 0] 119)).setCells wr.heap.size 0 (nI (f,be,(nr:Int)))) wr.heap.size (f,be,(nr:Int))):=
     xZ.mk' (LM _ _ _ _ A0.o)
    have W9:QO (Bl wr ((wr.alloc (.cells #[.bool false,.bool false,.bool false,.bool false,.int .i64 0,.int .i64 0] 119)).setCells wr.heap.size 0 (nI (f,be,(nr:Int))))):=fX _ 0 _ wr.heap.size (bR.alloc lR _) lR;have rT:=dT k m (by omega)
    have a2:=iI k m (by omega)
    clear hx eR;go_upto_region 16 with(first
     | (refine QP rfl 119 (.tmp 53) rfl rg (k*6) rfl (nI (f,be,(nr:Int))) _ eM.o NW rfl cA ?_)
     | (refine QQ rfl 119 (.tmp 10) (.tmp 54) rfl wr.heap.size 0 (nI (f,be,(nr:Int))).toArray rfl rfl ?_ ?_ ?_ ?_;exact A0.o;exact cA;(simp[nI,LK])))
    generalize (wr.alloc (.cells #[.bool false,.bool false,.bool false,.bool false,.int .i64 0,.int .i64 0] 119)).setCells wr.heap.size 0 (nI (f,be,(nr:Int)))=A1 at*;have Q:=fV (HL.o.below W9.o);have c5:=lH.o.c5;simp only at c5;have O8:=fV (Q.o.pt nr sW).1;generalize PS nr=PP at*;obtain⟨p1,p2,p3⟩:=PP;simp only at cF bT;have rL:QO (A1.rangeAt (w.heap.size+1+1+1) (nr*3) [.int .i64 p1,.int .i64 p2,.bool p3]):=O8;have aL:=fV (Q.o.below (bR.alloc lR (.cells #[.int .i64 p1,.int .i64 p2,.bool p3] 164)));have sR:=fV (jV.new A1 A1.heap.size 164 (.int .i64 p1) (.int .i64 p2) (.bool p3) rfl);have a5:=iI nr n (by omega)
    have W3:QO (∀q,vf.ownBlock=some q->q<A1.heap.size):=λ q hq=>(Q.o.rf.lt q hq).2
    have b6:QO (∀q,vl.ownBlock=some q->q<A1.heap.size):=λ q hq=>(Q.o.rl.lt q hq).2
    have hP:QO (A1.heap.size<(A1.alloc (.cells #[.int .i64 p1,.int .i64 p2,.bool p3] 164)).heap.size):=by unfold QO;simp
    have a6:QO (w.heap.size+4<=A1.heap.size):=Q.o.hz;clear lH W9 A0 eM O8 HL;go_upto_region 17 with(first
     | (refine QP rfl 164 (.tmp 58) rfl (w.heap.size+1+1+1) (nr*3) rfl [.int .i64 p1,.int .i64 p2,.bool p3] _ rL.o MY rfl bQ ?_))
    generalize A1.alloc (.cells #[.int .i64 p1,.int .i64 p2,.bool p3] 164)=A2 at*;generalize A1.heap.size=tb at*;have d0:fi.length<=1000:=by omega
    have d4:la.length<=1000:=by omega
    replace eT:=fV eT;replace eX:=fV eX;clear Q rL c5;obtain⟨fa,Y,tL⟩:=gA aL.o.rf;subst tL;obtain⟨lb,aT,H1⟩:=gA aL.o.rl;subst H1;have e0:=aL.o.nt.c0;have z0:=aL.o.nt.fz 0;have Ha:=sR.o.c0;have hU:=aL.o.hz;go_upto_region 18 with(first|(at_builtin;refine gB A2 rfl (.tmp 61) (.tmp 64) 48 rfl (w.heap.size+4) 103 (.int .i64 0) 1 8 OB cX rfl (by decide) (by decide) (.slice fa fi.length Y) fi.length (pN fi) [.int .i64 p1] _ rfl aL.o.rf _ rfl rfl rfl (by simp[LK]) (by omega) hU ?_;intro g4 cap4 w4 hH F qR T2;have HM:=fV (aL.o.moreF (x:=p1) hH F qR);have m3:=(HM.o.2.cell (p:=⟨w.heap.size+1+1,0,none⟩) (show w.heap.size+1+1<w.heap.size+4 by omega)).trans e0;have n3:=(HM.o.2.frozen (p:=⟨w.heap.size+1+1,0,none⟩) (show w.heap.size+1+1<w.heap.size+4 by omega)).trans z0;have M2:=fV (sR.o.block ((F.block tb (by have:=hP.o;simp;omega) (λ e=>by have:=W3.o tb e.symm;omega)).trans (MC _ _ _ hP.o)));clear e0 z0 Ha))
    have hM:=fV HM.o.1;have cP:QO (jV (w4.setCell ⟨w.heap.size+1+1,0,none⟩ (.slice (some ⟨g4,0,none⟩) (fi.length+1) cap4)) tb (.int .i64 p1) (.int .i64 p2) (.bool p3)):=M2.o.block (MH _ _ _ _ (by have:=a6.o;simp only;omega));have b5:QO (tb<(w4.setCell ⟨w.heap.size+1+1,0,none⟩ (.slice (some ⟨g4,0,none⟩) (fi.length+1) cap4)).heap.size):=by have:=F.size;have:=hP.o;unfold QO;simp[MG]at*;omega
    generalize w4.setCell ⟨w.heap.size+1+1,0,none⟩ (.slice (some ⟨g4,0,none⟩) (fi.length+1) cap4)=w5 at*;clear HM M2 hH F qR T2 m3 n3 aL sR hP W3 hU;have e1:=hM.o.nt.c1;have z1:=hM.o.nt.fz 1;have b0:=cP.o.c1;have hU:=hM.o.hz;go_wp2_with (first|(at_builtin;refine gB w5 rfl (.tmp 68) (.tmp 71) 48 rfl (w.heap.size+4) 103 (.int .i64 0) 1 8 OB cX rfl (by decide) (by decide) (.slice lb la.length aT) la.length (pN la) [.int .i64 p2] _ rfl hM.o.rl _ rfl rfl rfl (by simp[LK]) (by omega) hU ?_;intro g6 b3 w6 E6 hS S2 b4;have HM:=fV (hM.o.moreL (x:=p2) E6 hS S2);have m3:=(HM.o.2.cell (p:=⟨w.heap.size+1+1,1,none⟩) (show w.heap.size+1+1<w.heap.size+4 by omega)).trans e1;have n3:=(HM.o.2.frozen (p:=⟨w.heap.size+1+1,1,none⟩) (show w.heap.size+1+1<w.heap.size+4 by omega)).trans z1;clear e1 z1 b0)|fail);go_roundg d
    case measure=>omega
    case rel=>exact⟨k+1,_,_,_,_,by go_num,by omega,cF.o.symm,bT.o.symm,HM.o.1⟩
   ·have e:k=m:=by omega
    have A3:(aX.take k)=aX:=List.take_of_length_le (by rw[hL.o];omega);rw[A3]at hJ hG;replace A3:=fV A3;have rT:=dF k m (by omega)
    clear e;obtain⟨fa,Y,tL⟩:=gA HL.o.rf;subst tL;obtain⟨lb,aT,H1⟩:=gA HL.o.rl;subst H1;have eT:fi.length=aX.length:=by rw[hJ.o,MT]
    have eX:la.length=aX.length:=by rw[hG.o,MT]
    replace eT:=fV eT;replace eX:=fV eX;have H5:QO (wr.rangeAt (w.heap.size+1+1) 0 (mQ (.slice fa fi.length Y) (.slice lb la.length aT) NX).toList):=Xc HL.o.nt;have X0:=fV HL.o.t1;obtain⟨NA,hK⟩:=xE (mQ (.slice fa fi.length Y) (.slice lb la.length aT) NX)
    have hA:QO (NA.size=12/\NA.all (·.oneCell')=true):=by rw[<-hK];exact⟨rfl,by simp[mQ,LK]⟩
    rw[hK]at H5;replace hK:=fV hK;go_wp2_with (first
     | (refine QP rfl 108 (.tmp 3) rfl (w.heap.size+1+1) 0 rfl NA.toList _ H5.o NF rfl ?_ ?_;(rw[MR,hA.o.1];exact cD))
     | (refine QQ rfl 108 (.tmp 2) (.tmp 75) rfl (w.heap.size+1) 0 NA rfl rfl ?_ ?_ hA.o.2 ?_;(rw[hA.o.1];exact X0.o);(rw[hA.o.1];exact cD)))
    refine lE results36 (w.heap.size+1) 0 NA.toList _ rfl ?_ NF rfl (by rw[MR,hA.o.1];exact cD) rfl ?_
    ·exact LM _ _ _ _ (by rw[MR,hA.o.1];exact X0.o)
    ·refine⟨.slice fa fi.length Y,.slice lb la.length aT,?_,fX _ 0 _ _ HL.o.bl (PN _),?_,?_⟩
     ·rw[gL.o,hK.o]
     ·rw[gL.o,<-hJ.o,<-eT.o];exact lD HL.o.rf (by omega) _ 0
     ·rw[gL.o,<-hG.o,<-eX.o];exact lD HL.o.rl (by omega) _ 0
def Jx(w:tW)(K:Nat)(cg:Nat)(ls:List (List (Nat×List Int))):Prop:=
 ∃ys:List pF,ys.map (λ y=>y.2.map (·.1))=ls/\w.rangeAt cg 0 (xO ys)/\∀y∈ys,oH w K y
def IT(w:tW)(K:Nat):Option (List (List (Nat×List Int)))->Ending->tW->Prop
 | none,e,w'=>e=.returned (.tuple #[.slice none 0 0,.int .i64 4])/\Bl w w'
 | some ls,e,w'=>∃cg aJ,e=.returned (.tuple #[.slice (some ⟨cg,0,none⟩) ls.length aJ,.int .i64 0])/\Jx w' K cg ls/\cg<w'.heap.size/\Bl w w'
theorem dD:(Tryz.prog.info? 110).map (λ i=>(i.zero,i.size,i.bytes))=some (some (.slice none 0 0),1,24):=by kernel_rfl
theorem Jl{w:tW}{vf vl:tV}{aG:Nat->Int}(h:w.rangeAt nb 0 (mQ vf vl aG).toList)(D:∀i,w.frozen? ⟨nb,i,none⟩=false):kD w nb vf vl aG:=by
 have o:∀k v,(mQ vf vl aG).toList[k]?=some v->w.cell? ⟨nb,k,none⟩=some v:=λ k v C=>by have:=h k v C;rw[LR]at this;exact this
 refine⟨o 0 _ rfl,o 1 _ rfl,λ k C=>?_,D⟩;have:k=0\/k=1\/k=2\/k=3\/k=4\/k=5\/k=6\/k=7\/k=8\/k=9:=by omega
 rcases this with rfl|rfl|rfl|rfl|rfl|rfl|rfl|rfl|rfl|rfl<;>exact o _ _ rfl
theorem DQ(f:Nat->Bool):∀k c,vS f k c<=max c k:=by
 intro k
 induction k with
 | zero=>intro c;rw[vS];exact Nat.le_max_left _ _
 | succ j ih=>
  intro c;have:=ih c;rw[vS];split<;>omega
theorem Ia:∀(aX:List ((Nat->Bool)×Int×Int)) (c:Nat),c<=1000->(∀x∈aX,0<=x.2.1/\x.2.1<=1000)->iP aX c<=1000:=by
 intro aX
 induction aX with
 | nil=>intro c h _;exact h
 | cons x r ih=>
  intro c h o;rw[iP];refine ih _ ?_ (λ y C=>o y (MM _ C));have D:=DQ x.1 4 c;have F:=o x ML;unfold Q9;split<;>omega
structure KK(W:tW)(n0 nb rg rcap m ng ncap nn fg fcap pg:Nat)(vp vl:tV)(NXT:Nat->Int)(FI LA G:List Int)(GA:Array tV)(aX:List ((Nat->Bool)×Int×Int)):Prop where
 fl:W.rangeAt n0 0 [.slice (some ⟨rg,0,none⟩) m rcap,.slice (some ⟨ng,0,none⟩) nn ncap,vp]
 gr:W.rangeAt (n0+1) 0 GA.toList
 nr:W.rangeAt nb 0 (mQ (.slice (some ⟨fg,0,none⟩) m fcap) vl NXT).toList
 nt:kD W nb (.slice (some ⟨fg,0,none⟩) m fcap) vl NXT
 fn:P9 W fg m (λ r=>FI.getD r 0)
 rl:Df W vl LA
 ru:uA W rg aX
 gm:∀j a,G[j]?=some a->W.cell? ⟨pg,j,none⟩=some (.int .i64 a)
 b1:n0+1<nb
 b2:fg<nb
 b3:∀k,vl.ownBlock=some k->k<nb
 b4:rg<n0
 b5:pg<n0
theorem KK.below{W Q:tW}{V F m ng o Y X C:Nat}{vp vl:tV}{I:Nat->Int}{J LA:List Int}{U:Array tV}{aX:List ((Nat->Bool)×Int×Int)}
  (h:KK W n0 nb V F m ng o Y X C pg vp vl I J LA G U aX) (D:Below B W Q) (Z:nb<B):KK Q n0 nb V F m ng o Y X C pg vp vl I J LA G U aX:=by
 have b1:=h.b1;have b2:=h.b2;have b4:=h.b4;have b5:=h.b5;exact⟨fY h.fl (D.block _ (by omega)),fY h.gr (D.block _ (by omega)),fY h.nr (D.block _ Z),h.nt.below D Z,h.fn.below D (by omega),h.rl.below D (λ k hk=>by have:=h.b3 k hk;omega),h.ru.below D (by omega),
  λ j a hj=>(D.cell (p:=⟨pg,j,none⟩) (show pg<B by omega)).trans (h.gm j a hj),b1,b2,h.b3,b4,b5⟩
def rY(aV:List (Int×Int×Int)):Nat->Int:=(jJ aV 0 (λ _=>qP) (λ _=>0)).2
def zD(aV:List (Int×Int×Int))(aX:List ((Nat->Bool)×Int×Int)):List Int:=aX.map λ x=>((jJ aV 0 (λ _=>qP) (λ _=>0)).1 x.2.2.toNat).1
def uZ(aV:List (Int×Int×Int))(aX:List ((Nat->Bool)×Int×Int)):List Int:=aX.map λ x=>((jJ aV 0 (λ _=>qP) (λ _=>0)).1 x.2.2.toNat).2.1
def pO(aV:List (Int×Int×Int))(aX:List ((Nat->Bool)×Int×Int))(G:List Int)(c:Nat):Option (List (Nat×List Int)):=
 Ir (rY aV) (rM (λ r=>(zD aV aX).getD r 0) c aX 0 0) G (uZ aV aX)
theorem BM(aV:List (Int×Int×Int))(aX:List ((Nat->Bool)×Int×Int))(X C V D pg hL:Nat)(vp:tV)(G:List Int)(GA:Array tV)(w:tW)
  (hn:aV.length<=1000) (H5:Ix aV) (hN:F6 w X aV) (hg:X<w.heap.size) (hD:aX.length<=1000) (Pl:0<aX.length) (hR:uA w V aX) (lH:V<w.heap.size) (sW:∀x∈aX,0<=x.2.2/\x.2.2<aV.length) (H0:∀x∈aX,0<=x.2.1/\x.2.1<=1000)
  (E6:GA.size=257) (M2:GA.all (·.oneCell')=true) (H6:GA[256]?=some (.slice (some ⟨pg,0,none⟩) G.length hL)) (sR:G.length<=300) (N1:∀j a,G[j]?=some a->w.cell? ⟨pg,j,none⟩=some (.int .i64 a)) (B1:pg<w.heap.size):
  QX LY 18 #[.agg #[.slice (some ⟨V,0,none⟩) aX.length D,.slice (some ⟨X,0,none⟩) aV.length C,vp],.agg GA] w λ e w'=>IT w G.length (xX (pO aV aX G) (iP aX 1) 0 []) e w':=by
 obtain⟨i1,T2,qL,hW,A3⟩:=QS dD;have HI:QO (Tryz.prog.info? 110=some i1/\i1.zero=some (.slice none 0 0)/\i1.size=1/\i1.bytes=24):=⟨T2,qL,hW,A3⟩
 clear T2 qL hW A3;obtain⟨W0,Q⟩:=xE ((w.alloc (.cells #[.slice (some ⟨V,0,none⟩) aX.length D,.slice (some ⟨X,0,none⟩) aV.length C,vp] 44)).alloc (.cells GA 50))
 have qL:W0.heap.size=w.heap.size+1+1:=by rw[<-Q];simp
 have hA:QO (Below w.heap.size w W0):=by unfold QO;rw[<-Q];exact(bR.alloc lR _).alloc (by simp) _
 have cF:QO (W0.rangeAt w.heap.size 0 [.slice (some ⟨V,0,none⟩) aX.length D,.slice (some ⟨X,0,none⟩) aV.length C,vp]):=by
  unfold QO;rw[<-Q];exact fY (mA w #[.slice (some ⟨V,0,none⟩) aX.length D,.slice (some ⟨X,0,none⟩) aV.length C,vp] 44) (MC _ _ _ (by simp))
 have O6:QO (W0.rangeAt (w.heap.size+1) 0 GA.toList):=by
  unfold QO;rw[<-Q];have:=mA (w.alloc (.cells #[.slice (some ⟨V,0,none⟩) aX.length D,.slice (some ⟨X,0,none⟩) aV.length C,vp] 44)) GA 50;have e:(w.alloc (.cells #[.slice (some ⟨V,0,none⟩) aX.length D,.slice (some ⟨X,0,none⟩) aV.length C,vp] 44)).heap.size=w.heap.size+1:=by simp
  rw[e]at this;exact this
 have hF:=Yy aV aX X C V D vp W0 hn H5 (hN.below hA.o hg) (by omega) hD (hR.below hA.o lH) (by omega) sW;have HN:=fV hN;have HR:=fV hR;have b0:=fV sW;have A0:=fV H0;have N0:=fV H6;have A1:=fV N1;have X0:=fV E6;have c3:=fV M2;clear hN hR sW H0 H6 N1 E6 M2 H5;obtain⟨m,hm⟩:=xE (aX.length)
 obtain⟨nn,qR⟩:=xE (aV.length)
 obtain⟨K,hK⟩:=xE (G.length)
 rw[hm]at hD Pl cF Q hF ⊢;rw[qR]at hn cF Q hF ⊢;rw[hK]at sR N0 ⊢;replace hm:=fV hm;replace qR:=fV qR;replace hK:=fV hK;replace Q:=fV Q;go_enter func18,ntmps18;go_upto_region 1 with(first
  | (refine wpList_boxTo rfl 50 (.tmp 1) rfl _ rfl (w.heap.size+1) (by simp) GA rfl ?_))
 rw[Q.o];go_wp2_with (first|(refine QP rfl 44 (.tmp 2) rfl w.heap.size 0 rfl [.slice (some ⟨V,0,none⟩) m D,.slice (some ⟨X,0,none⟩) nn C,vp] _ cF.o NC rfl bY ?_)|fail);refine hF.mono ?_;rintro e w1 ⟨vf,vl,rfl,bN,O5,T3⟩;have aR:w1.ownsRow (W0.heap.size+4) 103 1 vf (zD aV aX).length (pN (zD aV aX)):=by unfold zD;rw[MT];exact O5
 have aO:w1.ownsRow (W0.heap.size+4) 103 1 vl (uZ aV aX).length (pN (uZ aV aX)):=by unfold uZ;rw[MT];exact T3
 have X4:(zD aV aX).length=m:=by unfold zD;rw[MT,hm.o]
 have c1:(uZ aV aX).length=m:=by unfold uZ;rw[MT,hm.o]
 have tL:QO ((jJ aV 0 (λ _=>qP) (λ _=>0)).2=rY aV):=rfl;rw[tL.o];obtain⟨CS,bS⟩:=xE (pO aV aX G)
 have Hb:QO (∀c,CS c=Ir (rY aV) (rM (λ r=>(zD aV aX).getD r 0) c aX 0 0) G (uZ aV aX)):=λ c=>by rw[<-bS];rfl
 replace bS:=fV bS;generalize rY aV=NXT at*;generalize zD aV aX=FI at*;generalize uZ aV aX=LA at*;obtain⟨fg,J,Ha,_,_⟩:=aR.form (by omega);subst Ha;have O8:QO (P9 w1 fg m (λ r=>FI.getD r 0)):=λ i hi=>by
  have:=aR.cells rfl i (.int .i64 (FI.getD i 0)) (zY FI i _ (by rw[LC,LD (by omega)];rfl));rw[wG]at this;exact this
 have hQ:=(aR.lt fg rfl).2;have tO:=fV (Uo aO);have iN:QO (∀k,vl.ownBlock=some k->k<w1.heap.size):=λ k hk=>(aO.lt k hk).2
 obtain⟨c4,a8,S5⟩:=gA aO;rw[X4];clear O5 T3 aR aO hF tL;have W5:=fV (fY cF.o (bN.block _ (by omega)));have O3:=fV (fY O6.o (bN.block _ (by omega)));have H2:=fV (hA.o.trans (bN.mono (by omega)));have hW:=bN.size;clear cF O6 hA bN;obtain⟨NA,bK⟩:=xE (mQ (.slice (some ⟨fg,0,none⟩) m J) vl NXT)
 have hC:QO (NA.size=12/\NA.all (·.oneCell')=true):=by rw[<-bK];exact⟨rfl,by rw[S5];simp[mQ,LK]⟩
 clear S5;rw[bK];have eT:=fV (iD w1 (mQ (.slice none 0 0) (.slice none 0 0) (λ _=>0)) 108 w1.heap.size 12 rfl rfl);have Z:QO (Below w1.heap.size w1 ((w1.alloc (.cells (mQ (.slice none 0 0) (.slice none 0 0) (λ _=>0)) 108)).setCells w1.heap.size 0 NA.toList)):=fX _ 0 _ w1.heap.size (bR.alloc lR _) lR;have eN:QO (((w1.alloc (.cells (mQ (.slice none 0 0) (.slice none 0 0) (λ _=>0)) 108)).setCells w1.heap.size 0 NA.toList).rangeAt w1.heap.size 0 NA.toList):=LM _ _ _ _ (by rw[MR,hC.o.1];exact eT.o);have rL:QO (∀i,((w1.alloc (.cells (mQ (.slice none 0 0) (.slice none 0 0) (λ _=>0)) 108)).setCells w1.heap.size 0 NA.toList).frozen? ⟨w1.heap.size,i,none⟩=false):=λ i=>by rw[uV,ON]
 have rO:QO (w1.heap.size<((w1.alloc (.cells (mQ (.slice none 0 0) (.slice none 0 0) (λ _=>0)) 108)).setCells w1.heap.size 0 NA.toList).heap.size):=by
  have:=(fX NA.toList 0 (w1.alloc (.cells (mQ (.slice none 0 0) (.slice none 0 0) (λ _=>0)) 108)) w1.heap.size (PC 0 _) zL).size;unfold QO;simp at this;omega
 unfold mQ at eT Z eN rL rO;go_upto_region 2 with(first
  | (refine QQ rfl 108 (.tmp 6) (.tmp 15) rfl w1.heap.size 0 NA rfl rfl ?_ ?_ hC.o.2 ?_;(rw[hC.o.1];exact eT.o);(rw[hC.o.1];exact cD)))
 generalize hW2:(w1.alloc (.cells #[.slice none 0 0,.slice none 0 0,.int .i64 0,.int .i64 0,.int .i64 0,.int .i64 0,.int .i64 0,.int .i64 0,.int .i64 0,.int .i64 0,.int .i64 0,.int .i64 0] 108)).setCells w1.heap.size 0 NA.toList=W2 at*;have bC:QO (Below w.heap.size w W2):=H2.o.trans (Z.o.mono (by omega));have F:QO (KK W2 w.heap.size w1.heap.size V D m X C nn fg J pg vp vl NXT FI LA G GA aX):=by
  refine⟨fY W5.o (Z.o.block _ (by omega)),fY O3.o (Z.o.block _ (by omega)),by rw[bK];exact eN.o,Jl (by rw[bK];exact eN.o) rL.o,O8.o.below Z.o hQ,tO.o.below Z.o iN.o,HR.o.below bC.o lH,λ j a hj=>(bC.o.cell (p:=⟨pg,j,none⟩) B1).trans (A1.o j a hj),by omega,hQ,iN.o,lH,B1⟩
 have aT:QO (w1.heap.size<W2.heap.size):=rO;clear W5 O3 eN rL O8 tO iN A1 Z eT rO H2 hW2;obtain⟨nb,Go⟩:=xE (w1.heap.size)
 rw[Go]at F aT ⊢;replace bK:=fV bK;have gL:=Qq aX V D (.slice (some ⟨X,0,none⟩) nn C) vp W2 (by rw[hm.o];exact hD) A0.o F.o.ru (by have:=bC.o.size;omega);rw[hm.o]at gL;have W9:=Ia aX 1 (by omega) A0.o;obtain⟨CN,bM⟩:=xE (iP aX 1)
 rw[bM]at gL W9;replace bM:=fV bM;go_wp2_with (first|(refine QP rfl 44 (.tmp 2) rfl w.heap.size 0 rfl [.slice (some ⟨V,0,none⟩) m D,.slice (some ⟨X,0,none⟩) nn C,vp] _ F.o.fl NC rfl bY ?_)|fail);refine gL.mono ?_;rintro e w3 ⟨rfl,eS⟩;have hI:=fV (F.o.below eS aT.o);have eM:=fV (bC.o.trans (eS.mono bC.o.size));have hS:nb<w3.heap.size:=by have:=eS.size;have:=aT.o;omega
 clear eS gL F bC aT;go_wp2_with (first|(at_make;refine QU w3 rfl _ _ 52 rfl w3.heap.size 110 i1 (.slice none 0 0) 1 underlying52 HI.o.1 HI.o.2.1 HI.o.2.2.1 .i64 .i64 _ CN rfl rfl rfl (by rw[HI.o.2.2.2];omega) (by unfold QW;omega) lR ?_;intro w4 bT aW));have hT:Below w3.heap.size w3 w4:=⟨aW.os,aW.tape,aW.output,aW.size,λ k hk=>aW.block k hk (by simp)⟩
 have hH:=fV (hI.o.below hT hS);have W7:=fV (eM.o.trans (hT.mono eM.o.size));have hY:=fV bT;have O0:w.heap.size<=w3.heap.size:=eM.o.size;clear bT aW hT hI eM;obtain⟨cg,X2⟩:=xE (w3.heap.size)
 rw[X2]at hY hS O0 ⊢;obtain⟨AL,eL⟩:=xE (xX CS CN 0 [])
 replace eL:=fV eL
 go_loopg [8,9] CN (λ gk cv iv wr=>∃(c:Nat)(aS:List (List (Nat×List Int))) (ys:List pF),cv=.slice (some ⟨cg,0,none⟩) c CN/\iv=.int .i64 (c:Int)/\c+gk=CN/\ys.length=c/\ys.map (λ y=>y.2.map (·.1))=aS/\AL=xX CS gk c aS/\
  wr.ownsRow cg 110 1 (.slice (some ⟨cg,0,none⟩) c CN) c (xO ys)/\(∀y∈ys,oH wr K y/\∀k,U1 y k->cg<k)/\KK wr w.heap.size nb V D m X C nn fg J pg vp vl NXT FI LA G GA aX/\Below w.heap.size w wr)
 case atStart=>exact⟨0,[],[],rfl,rfl,by omega,rfl,rfl,eL.o.symm,hY.o,λ y hy=>absurd hy (LU),hH.o,W7.o⟩
 case round=>
  obtain⟨c,aS,ys,rfl,rfl,a9,S2,hP,W6,bO,W1,W8,hb⟩:=hrel;have HQ:=fV W6;have HO:=fV bO;have eR:=fV W1;have F:=fV W8;have HB:=fV hb;have O7:=fV S2;have cN:=fV hP;have a7:cg<wr.heap.size:=(bO.lt cg rfl).2;have B2:=hb.size;clear W6 bO W1 W8 hb S2 hP hY hH W7;by_cases b6:c<CN
  ·obtain⟨d,rfl⟩:∃d,gk=d+1:=⟨gk-1,by omega⟩
   have X1:=dT c CN (by omega)
   have hX:=Qy aX V D nb fg J c (λ r=>FI.getD r 0) (.slice (some ⟨X,0,none⟩) nn C) vp wr (by rw[hm.o];exact hD) F.o.ru (by omega) (by omega) (by rw[hm.o];exact F.o.nt.c0) (by rw[hm.o];exact F.o.fn) (by have:=F.o.b2;omega);rw[hm.o]at hX;have H3:=fV (Hb.o c);generalize rM (λ r=>FI.getD r 0) c aX 0 0=BG at*;go_wp2_with (first|(refine QP rfl 44 (.tmp 2) rfl w.heap.size 0 rfl [.slice (some ⟨V,0,none⟩) m D,.slice (some ⟨X,0,none⟩) nn C,vp] _ F.o.fl NC rfl bY ?_)|fail);refine hX.mono ?_;rintro e w5 ⟨rfl,hB⟩;have I:=fV (F.o.below hB (by omega));have a6:=hB.size;have W4:=fV hB;clear hB hX;have a2:GA.toList.length=257:=by rw[MR];exact X0.o
   have hU:=Ly (.slice (some ⟨fg,0,none⟩) m J) vl NXT LA G GA pg hL BG w5 (by omega) I.o.rl (λ k hk=>by have:=I.o.b3 k hk;omega) (by rw[hK.o];exact N0.o) (by rw[hK.o];exact sR) I.o.gm (by have:=I.o.b5;omega);rw[hK.o]at hU;go_wp2_with (first
    | (refine QP rfl 108 (.tmp 6) rfl nb 0 rfl (mQ (.slice (some ⟨fg,0,none⟩) m J) vl NXT).toList _ I.o.nr NF rfl cD ?_)
    | (refine QP rfl 50 (.tmp 3) rfl (w.heap.size+1) 0 rfl GA.toList _ I.o.gr NT rfl ?_ ?_;(rw[a2];exact cG))
    | fail)
   refine hU.mono ?_;rintro e w6 ⟨tg,W3,zb,rfl,hV,O9⟩;have hJ:=tU NXT BG G;have c2:=yN hJ.1;have hM:QO (CS c=yZ (jF NXT BG G).1.length (λ s=>yK LA ((jF NXT BG G).1.getD s 0)) (λ s k=>((jF NXT BG G).2.getD s []).getD k 0) K):=by unfold QO;rw[H3.o,<-hK.o];rfl
   have eO:=Rp tg (jF NXT BG G).1.length W3 K zb _ _ w6 (by omega) sR (λ i k hi hk=>BI NXT BG G i k hi (by rw[hK.o];exact hk)) O9;rw[<-hM.o]at eO;have A2:=fV (W4.o.trans (hV.mono a6));have b4:=hV.size;clear hV O9 hU hJ H3 hM I W4;generalize (jF NXT BG G).1.length=rn at*;go_wp2_with fail;refine eO.mono ?_;intro e w7 aL;have eX:QO (AL=match CS c with
    | none=>none
    | some l=>xX CS d (c+1) (aS++[l])):=HQ.o
   cases hcsc:CS c with
   | none=>
    rw[hcsc]at aL eX;obtain⟨rfl,cP⟩:=aL;have HE:QO (AL=none):=eX.o;have nL:=fV (HB.o.trans ((A2.o.trans (cP.mono (by omega))).mono B2));clear cP eO hcsc;go_wp2;go_ret2;rw[bS.o,bM.o,eL.o,HE.o];exact⟨rfl,nL.o⟩
   | some l=>
    rw[hcsc]at aL eX;obtain⟨v,⟨B,zs,b1,hv,L1,nN,hG,cP⟩,rfl⟩:=aL
    cases hv
    have HE:QO (AL=xX CS d (c+1) (aS++[l])):=eX.o;have U:QO (Below wr.heap.size wr w7):=A2.o.trans (cP.mono (by omega));have HY:QO (oH w7 K (B,zs)/\∀k,U1 (B,zs) k->cg<k):=by
     refine⟨⟨(nN.lt B rfl).2,λ i u hu=>?_,λ z hz=>⟨(hG z hz).2.1,(hG z hz).2.2⟩⟩,λ k hk=>?_⟩
     ·have:=nN.cells rfl i u hu;rw[wG]at this;rw[LR];exact this
     ·rcases hk with rfl|⟨z,hz,rfl⟩
      ·omega
      ·have:=(hG z hz).1;omega
    have a3:=fV L1;have a5:=fV (wL HO.o U.o);have tT:QO (∀y∈ys,oH w7 K y/\∀k,U1 y k->cg<k):=λ y hy=>⟨(eR.o y hy).1.below U.o lR,(eR.o y hy).2⟩
    have H4:=fV (F.o.below U.o (by omega));have nL:=fV (HB.o.trans (U.o.mono B2));have c5:=U.o.size;clear cP eO hcsc L1 nN hG HO eR F HB;go_wp2_with (first|(at_builtin;refine kY w7 rfl _ _ 52 rfl cg 110 (.slice none 0 0) 1 24 underlying52 dD cg c CN (xO ys) [.slice (some ⟨B,0,none⟩) zs.length zs.length] _ rfl a5.o _ rfl rfl rfl (by simp[LK]) (by omega) ?_;intro w8 rT hE)|fail);go_roundg d
    case measure=>omega
    case rel=>
     have a0:=OX w7 (.cells #[.slice (some ⟨B,0,none⟩) zs.length zs.length] 110) (some cg);have Y:=gD a0 hE;have H1:∀y:pF,(oH w7 K y/\∀k,U1 y k->cg<k)->oH w8 K y/\∀k,U1 y k->cg<k:=λ y hy=>⟨hy.1.block Y.size (λ k hk ho=>Y.block k hk (λ e=>by injection e with e;have:=hy.2 k ho;omega)),hy.2⟩
     have P0:Below cg w7 w8:=⟨Y.os,Y.tape,Y.output,Y.size,λ k hk=>Y.block k (by omega) (λ e=>by injection e with e;omega)⟩
     refine⟨c+1,aS++[l],ys++[(B,zs)],rfl,by go_num,by omega,by simp[O7.o],?_,HE.o,by rw[Ce];exact rT,λ y hy=>?_,H4.o.below P0 hS,nL.o.trans (P0.mono O0)⟩
     ·rw[NO,cN.o,PB];simp only;rw[a3.o]
     ·rcases LN.1 hy with h1|h1
      ·exact H1 y (tT.o y h1)
      ·rw[LH]at h1;rw[h1];exact H1 _ HY.o
  ·have e:gk=0:=by omega
   subst e;have HE:QO (AL=some aS):=HQ.o;have X1:=dF c CN (by omega)
   go_wp2;go_ret2;rw[bS.o,bM.o,eL.o,HE.o];have a4:aS.length=c:=by rw[<-cN.o,MT,O7.o]
   refine⟨cg,CN,by rw[a4];rfl,⟨ys,cN.o,λ i u hu=>?_,λ y hy=>(eR.o y hy).1⟩,a7,HB.o⟩;have:=HO.o.cells rfl i u hu;rw[wG]at this;rw[LR];exact this
theorem Lk:∀c:Nat,c<256->Hs c C8=Fg (c:Int):=by decide+kernel
theorem CH:∀c:Nat,c<256->c≠92->kV (c:Int) kJ=(nQ (c:Int) && !Hs c Xv):=by decide+kernel
theorem kB{s:tB}(h:i<s.size)(b:Nat):kU s (b:Int) i=decide (bt s i=b):=by
 unfold kU;rw[lK h];congr 1;simp only[eq_iff_iff];omega
theorem wO{s:tB}(h:s.size<=i)(b:Nat):kU s (b:Int) i=false:=by
 unfold kU;rw[jW h,aF];omega
def AK(p:Nat×Nat×Bool):Option (Int×Nat):=if p.2.2=true then some ((p.1:Int),p.2.1)else none
theorem Ca{s:tB}:K9 s i=if s.size<=i then none else AK ((vB (bt s i)).1,i+1,(vB (bt s i)).2):=by
 by_cases h:s.size<=i
 ·rw[aB h];have a1:=wO h 110;have C:=wO h 115;unfold K9;rw[aA (by rw[show((110:Nat):Int)=110 from rfl]at a1;rw[a1];simp),aA (by rw[show((115:Nat):Int)=115 from rfl]at C;rw[C];simp),jW h,aA (by decide)]
 ·rw[aA h];have o:i<s.size:=by omega
  have a1:kU s 110 i=decide (bt s i=110):=kB o 110;have C:kU s 115 i=decide (bt s i=115):=kB o 115;unfold K9;rw[a1,C,lK o,<-Lk _ (mT s i)];unfold vB AK;by_cases D:bt s i=110
  ·simp[D]
  ·by_cases F:bt s i=115
   ·simp[F]
   ·simp[D,F]
theorem B6{s:tB}{i:Nat}:jK s kJ i=AK (qS s i):=by
 by_cases h:s.size<=i
 ·have a1:kU s 92 i=false:=wO h 92;unfold jK qS;rw[a1,aB h,jW h]
  rfl
 ·have o:i<s.size:=by omega
  have a1:kU s 92 i=decide (bt s i=92):=kB o 92;unfold jK qS;rw[a1,aA h];by_cases C:bt s i=92
  ·rw[aB (by simp[C]),aB C,Ca];by_cases D:s.size<=i+1
   ·rw[aB D,aB D];rfl
   ·rw[aA D,aA D]
  ·rw[aA (by simp[C]),aA C,lK o,CH _ (mT s i) C]
   rfl
theorem dH:(Tryz.prog.info? 121).map (·.size)=some 2:=by kernel_rfl
theorem Wm(cg n K aJ:Nat)(yb:Nat->Nat)(zb:Nat->Nat->Nat)(ns:Nat->Nat)(tk:Nat->Nat->Nat)(nx:Nat->Nat->Nat->Int)(g h:Nat)(w:tW)(hn:n<=1000)(aR:∀c,c<n->ns c<=1000)(hg:g<K)(hh:h<K)(hC:CM w w.heap.size cg n K yb zb ns tk nx):
  QX LY 74 #[.slice (some ⟨cg,0,none⟩) n aJ,.int .i64 g,.int .i64 h] w λ e w'=>e=.returned (.bool (mJ ns nx n g h))/\Bl w w':=by
 have HC:=fV hC;have bT:=fV aR;clear hC aR;have eO:=iI g K (by omega)
 have eX:=iI h K (by omega)
 go_enter func74,ntmps74;go_wp2_with fail
 go_loopw [13] (λ x wr=>∃c:Nat,x=.int .i64 (c:Int)/\c<=n/\(∀Q,Q<c->∀s,s<ns Q->nx Q s g=nx Q s h)/\Bl w wr) (λ x _=>n-(intOf x).toNat)
 case atStart=>exact⟨0,rfl,zL,λ c hc=>absurd hc (OS _),bR⟩
 case round=>
  obtain⟨c,rfl,eN,V,hb⟩:=hrel;have HA:=fV V;have HB:=fV hb;clear V hb;by_cases F:c<n
  ·have c1:=(HC.o.below HB.o lR).cc c F;obtain⟨N,hN⟩:=xE (ns c)
   rw[hN]at c1;have eL:N<=1000:=by rw[<-hN];exact bT.o c F
   replace hN:=fV hN;have eR:=iI c n (by omega)
   have aW:=dT c n (by omega)
   go_wp2_with fail;clear c1
   go_loopw [19] (λ x wj=>∃s:Nat,x=.int .i64 (s:Int)/\s<=N/\(∀I,I<s->nx c I g=nx c I h)/\Bl w wj) (λ x _=>N-(intOf x).toNat)
   case atStart=>exact⟨0,rfl,zL,λ s hs=>absurd hs (OS _),HB.o⟩
   case round=>
    obtain⟨s,rfl,eT,U,Y⟩:=hrel;have aT:=fV U;have X:=fV Y;have bS:=Y.size;clear U Y HB;by_cases hs:s<N
    ·have D:s<ns c:=by rw[hN.o];exact hs
     have Z:=fV (HC.o.below X.o lR);have bM:QO (wr.rangeAt (yb c) (s*2) [.int .i64 (tk c s),.slice (some ⟨zb c s,0,none⟩) K K]):=λ i v hv=>by
      have hi:i<2:=(LG.1 hv).1;have:i=0\/i=1:=by omega
      rcases this with rfl|rfl
      ·cases hv;exact Z.o.tc c s F D
      ·cases hv;exact Z.o.nc c s F D
     have C:QO (Bl w (wr.alloc (.cells #[.int .i64 (tk c s),.slice (some ⟨zb c s,0,none⟩) K K] 121))):=X.o.alloc bS _;have d1:(wr.alloc (.cells #[.int .i64 (tk c s),.slice (some ⟨zb c s,0,none⟩) K K] 121)).cell? ⟨wr.heap.size,1,none⟩=some (.slice (some ⟨zb c s,0,none⟩) K K):=(MN _ _ _ 1 rfl).trans rfl;have aL:=fV (HC.o.below C.o lR);have l1:=aL.o.lc c s g F D hg;have l2:=aL.o.lc c s h F D hh;have bK:=fV (@GH ns nx n g h c s F D);have bC:QO (nx c s g=nx c s h->∀I,I<s+1->nx c I g=nx c I h):=λ e I cP=>by
      by_cases q:I=s
      ·rw[q];exact e
      ·exact aT.o I (by omega)
     have eM:=iI s N (by omega)
     have bO:=dT s N (by omega)
     generalize nx c s g=x1 at*;generalize nx c s h=x2 at*;generalize tk c s=aO at*;generalize zb c s=zbs at*;clear Z aL D;go_upto_region 7 with(first|(refine QP rfl 121 (.tmp 21) rfl (yb c) (s*2) rfl [.int .i64 (aO:Int),.slice (some ⟨zbs,0,none⟩) K K] _ bM.o underlying121 rfl dH ?_))
     generalize wr.alloc (.cells #[.int .i64 (aO:Int),.slice (some ⟨zbs,0,none⟩) K K] 121)=A at*;by_cases J:x1=x2
     ·have cN:(x1 !=x2)=false:=by rw[J];simp
      have cF:=fV (bC.o J);clear J;go_quiet (fail);go_wp2;go_roundw
      case rel=>exact⟨s+1,by go_num,hs,cF.o,⟨C.o.os,C.o.tape,C.o.output,C.o.size,C.o.block⟩⟩
      case measure=>simp[intOf];omega
     ·have cN:(x1 !=x2)=true:=by rw[aD];exact J
      have HE:=fV (bK.o J);clear J;go_quiet (fail);go_wp2;go_ret;exact⟨by rw[HE.o];rfl,⟨C.o.os,C.o.tape,C.o.output,C.o.size,C.o.block⟩⟩
    ·have bO:=dF s N (by omega)
     have bN:QO (∀Q,Q<c+1->∀s,s<ns Q->nx Q s g=nx Q s h):=λ Q eS I D=>by
      by_cases q:Q=c
      ·rw[q]at D ⊢;exact aT.o I (by rw[hN.o]at D;omega)
      ·exact HA.o Q (by omega) I D
     go_wp2;go_roundw
     case rel=>exact⟨c+1,by go_num,F,bN.o,X.o⟩
     case measure=>simp[intOf];omega
  ·have e:c=n:=by omega
   subst e;have HE:=fV (Ed HA.o);have aW:=dF c c (by omega)
   go_wp2;go_ret;exact⟨by rw[HE.o];rfl,HB.o⟩
theorem Zj(cg n K aJ:Nat)(yb:Nat->Nat)(zb:Nat->Nat->Nat)(ns:Nat->Nat)(tk:Nat->Nat->Nat)(nx:Nat->Nat->Nat->Int)(w:tW)(hn:n<=1000)(hM:∀c,c<n->ns c<=1000)(hK:K<=300)(hC:CM w w.heap.size cg n K yb zb ns tk nx):
  QX LY 41 #[.int .i64 K,.slice (some ⟨cg,0,none⟩) n aJ] w λ e w'=>Sy w (mR K (mJ ns nx n)).1 (mR K (mJ ns nx n)).2 e w':=by
 obtain⟨i0,hN,hF,aL,hA⟩:=QS bU;have HI:QO (Tryz.prog.info? 3=some i0/\i0.zero=some (.int .i64 0)/\i0.size=1/\i0.bytes=8):=⟨hN,hF,aL,hA⟩
 clear hN hF aL hA;have HC:=fV hC;have hW:=fV hM;clear hC hM;go_enter func41,ntmps41;go_wp2_with (first|(at_make;refine QU w rfl _ _ 59 rfl w.heap.size 3 i0 (.int .i64 0) 1 NJ HI.o.1 HI.o.2.1 HI.o.2.2.1 .i64 .i64 _ K rfl rfl rfl (by rw[HI.o.2.2.2];omega) (by unfold QW;omega) lR ?_;intro w1 V Y));obtain⟨Q,EQ⟩:=xE (mJ ns nx n)
 replace EQ:=fV EQ;have hD:QO (Bl w w1):=⟨Y.os,Y.tape,Y.output,Y.size,λ k hk=>Y.block k hk (by simp)⟩
 have aL:w.heap.size<w1.heap.size:=by have:=(V.lt w.heap.size rfl).2;omega
 have hH:=fV (V.alloc (.cells #[] 3));have eM:=fV (hD.o.alloc (MU aL) (.cells #[] 3));have hB:QO ((w1.alloc (.cells #[] 3)).ownsRow (w.heap.size+1) 3 1 (.slice (some ⟨w1.heap.size,0,none⟩) 0 0) 0 []):=I1 (K5 w1 3) aL;clear V Y hD;generalize w1.alloc (.cells #[] 3)=w2 at*;generalize w1.heap.size=g20 at*
 go_loopg [6,7,8] K (λ gk fv sv iv wr=>∃(aK aN:List Nat)(s g2 c2:Nat),fv=.slice (some ⟨w.heap.size,0,none⟩) aK.length K/\sv=.slice (some ⟨g2,0,none⟩) aN.length c2/\iv=.int .i64 (s:Int)/\s+gk=K/\aK.length=s/\aN.length<=s/\
  (∀x∈aN,x<s)/\mR K Q=uX Q gk s aK aN/\wr.ownsRow w.heap.size 3 1 (.slice (some ⟨w.heap.size,0,none⟩) aK.length K) aK.length (pA aK)/\
  wr.ownsRow (w.heap.size+1) 3 1 (.slice (some ⟨g2,0,none⟩) aN.length c2) aN.length (pA aN)/\Bl w wr)
 case atStart=>exact⟨[],[],0,g20,0,rfl,rfl,rfl,by omega,rfl,by simp,λ x hx=>absurd hx (LU),rfl,hH.o,hB.o,eM.o⟩
 case round=>
  obtain⟨aK,aN,s,g2,c2,rfl,rfl,rfl,nN,hI,hV,hE,hQ,eL,hJ,hb⟩:=hrel;have HQ:=fV hQ;have X:=fV eL;have F:=fV hJ;have HB:=fV hb;have cF:=fV hE;have bK:=fV hI;clear hQ eL hJ hb hE hI hH hB eM;have bM:w.heap.size<wr.heap.size:=(X.o.lt _ rfl).2;by_cases hS:s<K
  ·obtain⟨d,rfl⟩:∃d,gk=d+1:=⟨gk-1,by omega⟩
   have hT:=dT s K (by omega)
   have eR:=fV (P9.of_row F.o);have hG:=(F.o.lt g2 rfl).2;go_upto_block 2 with fail
   go_cut [9] from 13 to 45 (λ fv wc=>fv=.int .i64 ((gW Q aN s aN.length:Nat):Int)/\Bl wr wc)
   case first=>
    go_wp2_with fail
    go_loopg [9] aN.length (λ gj fv wj=>∃(f:Nat),fv=.int .i64 (f:Int)/\f+gj=aN.length/\Bl wr wj/\gW Q aN s aN.length=gW Q aN s gj)
    case atStart=>exact⟨0,rfl,by omega,bR,rfl⟩
    case round=>
     obtain⟨f,rfl,hU,bT,eN⟩:=hrel;have cP:=fV eN;have aR:=fV bT;have eO:=bT.size;clear eN bT;by_cases gL:f<aN.length
     ·obtain⟨j,rfl⟩:∃j,gk=j+1:=⟨gk-1,by omega⟩
      have c1:=(eR.o.below aR.o hG) f gL;have nL:=D8 cF.o gL;have HL:QO (iY aN f=((aN.getD f 0:Nat):Int)):=rfl;rw[HL.o]at c1;have C:= @D0 Q aN s f j hU;have hP:QO (Bl w wr):=HB.o.trans (qA aR.o (MU bM));generalize aN.getD f 0=x at*;have aO:=Wm cg n K aJ yb zb ns tk nx x s wr hn hW.o (by omega) hS ((HC.o.below hP.o lR).raise hP.o.size);rw[EQ.o]at aO;have cN:decide ((f:Int)<(aN.length:Int))=true:=by simp;omega
      have qL:(0:Int)<=(f:Int)/\(f:Int)<(aN.length:Int):=by omega
      cases hq:Q x s with
      | true=>
       rw[hq]at aO C;rw[aB rfl]at C;have HE:QO (gW Q aN s aN.length=f):=cP.o.trans C;clear C hq;go_wp2_with fail;refine aO.mono ?_;rintro e w3 ⟨rfl,aT⟩;have bS:=fV aT;clear aT;go_wp2;go_meet
       case rel=>exact⟨by rw[HE.o],aR.o.trans (qA bS.o eO)⟩
      | false=>
       rw[hq]at aO C;rw[aA (by decide)]at C;have HE:QO (gW Q aN s aN.length=gW Q aN s j):=cP.o.trans C;clear C hq;go_wp2_with fail;refine aO.mono ?_;rintro e w3 ⟨rfl,aT⟩;have bS:=fV aT;clear aT;go_wp2;go_roundg j
       case measure=>omega
       case rel=>exact⟨f+1,by go_num,by omega,aR.o.trans (qA bS.o eO),HE.o⟩
     ·have e:gk=0:=by omega
      subst e;have cN:decide ((f:Int)<(aN.length:Int))=false:=by simp;omega
      have HE:QO (gW Q aN s aN.length=f):=cP.o.trans (by rw[gW];omega);go_wp2;go_meet
      case rel=>exact⟨by rw[HE.o],aR.o⟩
   case rest=>
    obtain⟨rfl,bC⟩:=hcut;have bO:QO (wc.ownsRow w.heap.size 3 1 (.slice (some ⟨w.heap.size,0,none⟩) aK.length K) aK.length (pA aK)):=rD X.o bC lR;have J:QO (wc.ownsRow (w.heap.size+1) 3 1 (.slice (some ⟨g2,0,none⟩) aN.length c2) aN.length (pA aN)):=rD F.o bC lR;have eX:QO (Bl w wc):=HB.o.trans (qA bC (MU bM));have bN:w.heap.size<wc.heap.size:=LO bM bC.size;have C:uX Q (d+1) s aK aN=if gW Q aN s aN.length=aN.length then uX Q d (s+1) (aK++[aN.length]) (aN++[s])else uX Q d (s+1) (aK++[gW Q aN s aN.length]) aN:=rfl;have iN:=tF Q aN s aN.length;clear X F HB eR bC;generalize wc=wq at*;generalize gW Q aN s aN.length=fp at*;by_cases Z:fp=aN.length
    ·rw[aB Z]at C;have cN:((fp:Int)==(aN.length:Int))=true:=by rw[Z];simp
     have lH:=(J.o.lt g2 rfl).1;have HE:QO (mR K Q=uX Q d (s+1) (aK++[fp]) (aN++[s])):=by unfold QO;rw[Z];exact HQ.o.trans C
     clear C Z;go_wp2_with (first|(at_builtin;refine gB wq rfl (.tmp 38) (.tmp 40) 59 rfl (w.heap.size+1) 3 (.int .i64 0) 1 8 NJ bU rfl (by decide) (by decide) (.slice (some ⟨g2,0,none⟩) aN.length c2) aN.length (pA aN) [.int .i64 (s:Int)] _ rfl J.o _ rfl rfl rfl (by simp[LK]) (by omega) (by omega) ?_;intro g4 cap4 w4 aW I hR hY;have eT:=fV ((bO.o.alloc _).kept I (.inr (λ e=>absurd (show w.heap.size=g2 by simpa[ME]using e) (by omega))));have hX:QO (Bl w w4):=(eX.o.alloc (MU bN) _).grown I (NN (MU bN) (by simp)) (λ k hk=>NN (PN _) (J.o.lt k hk).1);have eS:=fV aW;clear aW I hR)|(at_builtin;refine kY w4 rfl (.tmp 42) (.tmp 44) 59 rfl w.heap.size 3 (.int .i64 0) 1 8 NJ bU w.heap.size aK.length K (pA aK) [.int .i64 (fp:Int)] _ rfl eT.o _ rfl rfl rfl (by simp[LK]) (by have:=bK.o;omega) ?_;intro w6 U D));go_roundg d
     case measure=>omega
     case rel=>
      have hL:=(eT.o.lt _ rfl).2;refine⟨aK++[fp],aN++[s],s+1,g4,cap4,by simp,by simp,by go_num,by omega,by have:=bK.o;simp;omega,by simp;omega,λ x hx=>?_,HE.o,by rw[sA,LJ];exact U,?_,?_⟩
      ·rcases LN.1 hx with h|h
       ·have:=cF.o x h;omega
       ·rw[LH]at h;omega
      ·rw[sA,LJ];exact(eS.o.alloc _).kept D (.inr (by have:=(eS.o.lt g4 rfl).1;simp[ME];omega))
      ·exact(hX.o.alloc (MU hL) _).grown D (NN (MU hL) (by simp)) (λ k hk=>by injection hk;omega)
    ·rw[aA Z]at C;have HE:QO (mR K Q=uX Q d (s+1) (aK++[fp]) aN):=HQ.o.trans C;have cN:((fp:Int)==(aN.length:Int))=false:=by rw[aC];omega
     clear C Z;go_wp2_with (first|(at_builtin;refine kY wq rfl (.tmp 42) (.tmp 44) 59 rfl w.heap.size 3 (.int .i64 0) 1 8 NJ bU w.heap.size aK.length K (pA aK) [.int .i64 (fp:Int)] _ rfl bO.o _ rfl rfl rfl (by simp[LK]) (by have:=bK.o;omega) ?_;intro w6 U D));go_roundg d
     case measure=>omega
     case rel=>
      refine⟨aK++[fp],aN,s+1,g2,c2,by simp,rfl,by go_num,by omega,by have:=bK.o;simp;omega,by omega,λ x hx=>by have:=cF.o x hx;omega,HE.o,by rw[sA,LJ];exact U,?_,?_⟩
      ·exact(J.o.alloc _).kept D (.inr (by have:=(J.o.lt g2 rfl).1;simp[ME];omega))
      ·exact(eX.o.alloc (MU bN) _).grown D (NN (MU bN) (by simp)) (λ k hk=>by injection hk;omega)
  ·have e:gk=0:=by omega
   subst e;have hT:=dF s K (by omega)
   have HE:QO (mR K Q=(aK,aN)):=HQ.o;go_wp2;go_ret2;refine⟨w.heap.size,K,g2,c2,?_,?_,?_,?_,?_,lR,?_,HB.o⟩
   ·rw[EQ.o,HE.o];rfl
   ·rw[EQ.o,HE.o];exact P9.of_row X.o
   ·rw[EQ.o,HE.o];exact P9.of_row F.o
   ·exact bM
   ·exact(F.o.lt _ rfl).2
   ·have:=(F.o.lt g2 rfl).1;omega
theorem Xf(x:Int)(w:tW)(C:x= -1\/(0<=x/\x<=255)):
  QX LY 42 #[.int .i64 x] w λ e w'=>e=.returned (.int .u8 ((G7 x:Nat):Int))/\w'=w:=by
 go_enter func42,ntmps42;rcases C with rfl|⟨J,I⟩
 ·go_wp2;go_ret;exact⟨rfl,rfl⟩
 ·have F:(x== -1)=false:=by rw[aC];omega
  have D:QO (((G7 x:Nat):Int)=x):=by unfold QO G7;rw[aA (by omega)];omega
  go_wp2;go_ret;exact⟨by rw[D.o];simp;try omega,rfl⟩
section
structure WI(w2 w:tW)(g aJ:Nat)(aS:List UInt8):Prop where
 bl:Bl w2 w
 rw:w.ownsRow w2.heap.size 5 1 (.slice (some ⟨g,0,none⟩) aS.length aJ) aS.length (oE aS)
variable {w2 w w4:tW}{g aJ g4 cap4:Nat}{aS:List UInt8}
theorem WI.alloc(h:WI w2 w g aJ aS)(o:Obj):WI w2 (w.alloc o) g aJ aS:=⟨h.bl.alloc h.bl.size o,h.rw.alloc o⟩
theorem WI.below{w':tW}(h:WI w2 w g aJ aS)(o:Bl w w'):WI w2 w' g aJ aS:=⟨h.bl.trans (qA o h.bl.size),rD h.rw o lR⟩
theorem WI.grow(h:WI w2 w g aJ aS){o:Obj}(C:(w.alloc o).grownBy w4 (some g)):Bl w2 w4:=
 (h.bl.alloc h.bl.size _).grown C (NN h.bl.size (by simp)) (λ k D=>by injection D with e;have:=(h.rw.lt g rfl).1;omega)
theorem WI.app(h:WI w2 w g aJ aS){o:Obj}{n:Nat}(hn:n<256)(D:w4.ownsRow w2.heap.size 5 1 (.slice (some ⟨g4,0,none⟩) (aS.length+1) cap4) (aS.length+1) (oE aS++[.int .u8 (n:Int)]))(C:(w.alloc o).grownBy w4 (some g)):
  WI w2 w4 g4 cap4 (aS++[LF n]):=⟨h.grow C,by rw[<-Ol aS hn,LJ];exact D⟩
theorem WI.app2(h:WI w2 w g aJ aS){o:Obj}{n m:Nat}(hn:n<256)(F:m<256)(D:w4.ownsRow w2.heap.size 5 1 (.slice (some ⟨g4,0,none⟩) (aS.length+2) cap4) (aS.length+2) (oE aS++[.int .u8 (n:Int),.int .u8 (m:Int)]))(C:(w.alloc o).grownBy w4 (some g)):
  WI w2 w4 g4 cap4 (aS++[LF n,LF m]):=⟨h.grow C,by rw[<-No aS hn F,LJ];exact D⟩
theorem WI.new(w1:tW){m:Nat}(o:m<256):WI w1 (w1.alloc (.cells #[.int .u8 83,.int .u8 84,.int .u8 1,.int .u8 (m:Int)] 5)) w1.heap.size 4 [LF 83,LF 84,LF 1,LF m]:=
 ⟨bR.alloc lR _,rfl,.inr ⟨w1.heap.size,4, #[.int .u8 83,.int .u8 84,.int .u8 1,.int .u8 (m:Int)],rfl,lR,heap_alloc_new w1 _,lR,by unfold QW;omega,rfl,by
   unfold oE;simp only[OL,PF];rw[R4 o]
   rfl⟩⟩
theorem WI.text(h:WI w2 w g aJ aS):(convert 116 9 (.slice (some ⟨g,0,none⟩) aS.length aJ)).run LY w=.ok (.string ⟨aS.toArray⟩) w:=
 run_convert_bytes_back w 116 9 5 ⟨g,0,none⟩ aJ aS MZ underlying5 underlying9 (λ j o=>h.rw.cells rfl j _ (by unfold oE;rw[MA,LD o];rfl))
end
theorem dW(w:tW):(sizeOf 3).run LY w=.ok 1 w:=by kernel_rfl
theorem eV(w:tW):(isAgg 3).run LY w=.ok false w:=by kernel_rfl
theorem eY(A:Array tV)(v:tV)(j:Nat)(D:j<256)(C:A[j]?=some v)(w:tW):(Instr.index 47 (.agg A) (.int .i64 (j:Int))).run LY w=.ok v w:=by
 have o:(0:Int)<=(j:Int)/\(j:Int)<((256:Nat):Int):=by omega
 unfold Instr.index part;simp only[asIntOf,Sem.run_bind,Sem.run_pure,Result.andThen_ok,run_underlying underlying47,aB o,dW,eV];simp[C,Sem.run_pure]
theorem fF{o:Oper}{w:tW}{Q:Exit->Act->tW->Prop}(hg:o.guard=none)(x y:Operand)(J:o.op=.index 47 x y)(A:Array tV)(v:tV)(j:Nat)(U:j<256)(F:A[j]?=some v)
  (C:a.eval x=.agg A) (V:a.eval y=.int .i64 (j:Int)) (h:wpList LY ops Q rest (a.put o.dst v) w):wpList LY ops Q (o::rest) a w:=by
 refine QV hg λ K I=>?_
 have D:=eY A v j U F w;unfold Oper.wp execOp;simp only[J,C,V,Sem.run_bind,D,Result.andThen_ok];exact I _ _ h
theorem dS{o:Oper}{w2 w:tW}{aS:List UInt8}{Q:Exit->Act->tW->Prop}(hg:o.guard=none)(x:Operand)(J:o.op=.convert 116 9 x)
  (C:WI w2 w g aJ aS) (D:a.eval x=.slice (some ⟨g,0,none⟩) aS.length aJ) (h:wpList LY ops Q rest (a.put o.dst (.string ⟨aS.toArray⟩)) w):wpList LY ops Q (o::rest) a w:=by
 refine QV hg λ K I=>?_
 have F:=C.text;unfold Oper.wp execOp;simp only[J,D,Sem.run_bind,F,Result.andThen_ok];exact I _ _ h
theorem fS:(Tryz.prog.info? 47).map (·.size)=some 256:=by kernel_rfl
theorem Ov(aX:List ((Nat->Bool)×Int×Int))(rg aT cg n K aJ pg eT:Nat)(vn vp:tV)(GA OA:Array tV)(bG:Nat->Nat)(yb:Nat->Nat)(zb:Nat->Nat->Nat)(ns:Nat->Nat)(tk:Nat->Nat->Nat)(nx:Nat->Nat->Nat->Int)(w:tW)
  (b6:aX.length<=255) (hR:uA w rg aX) (X2:rg<w.heap.size) (H5:∀x∈aX,0<=x.2.1/\x.2.1<=255)
  (hn:n<=255) (qR:∀c,c<n->ns c<=255) (a8:0<K) (hK:K<=256) (hC:CM w w.heap.size cg n K yb zb ns tk nx) (H2:∀c s,c<n->s<ns c->tk c s<=255) (N1:∀c s k,c<n->s<ns c->k<K->nx c s k= -1\/(0<=nx c s k/\nx c s k<=255))
  (hJ:OA.size=256) (E6:∀b,b<256->OA[b]?=some (.int .i64 (bG b:Int))) (P0:∀b,b<256->bG b<K)
  (hG:GA.toList=OA.toList++[.slice (some ⟨pg,0,none⟩) K eT]):
  QX LY 19 #[.agg #[.slice (some ⟨rg,0,none⟩) aX.length aT,vn,vp],.agg GA,.slice (some ⟨cg,0,none⟩) n aJ] w λ e w'=>e=.returned (.string ⟨(Jv aX n K bG ns tk nx).toArray⟩)/\Below w.heap.size w w':=by
 obtain⟨W0,aW⟩:=xE ((w.alloc (.cells #[.slice (some ⟨rg,0,none⟩) aX.length aT,vn,vp] 44)).alloc (.cells GA 50))
 have h2:W0.heap.size=w.heap.size+1+1:=by rw[<-aW];simp
 have eR:QO (Below w.heap.size w W0):=by unfold QO;rw[<-aW];exact(bR.alloc lR _).alloc (by simp) _
 have O5:QO (W0.rangeAt w.heap.size 0 [.slice (some ⟨rg,0,none⟩) aX.length aT,vn,vp]):=by
  unfold QO;rw[<-aW];exact fY (mA w #[.slice (some ⟨rg,0,none⟩) aX.length aT,vn,vp] 44) (MC _ _ _ (by simp))
 have rL:QO (W0.rangeAt (w.heap.size+1) 0 GA.toList):=by
  unfold QO;rw[<-aW];have:=mA (w.alloc (.cells #[.slice (some ⟨rg,0,none⟩) aX.length aT,vn,vp] 44)) GA 50;have e:(w.alloc (.cells #[.slice (some ⟨rg,0,none⟩) aX.length aT,vn,vp] 44)).heap.size=w.heap.size+1:=by simp
  rw[e]at this;exact this
 have tT:QO (W0.rangeAt (w.heap.size+1) 0 OA.toList):=λ i v hv=>rL.o i v (by rw[hG,LQ (LG.1 hv).1];exact hv)
 have cP:W0.cell? ⟨w.heap.size+1,256,none⟩=some (.slice (some ⟨pg,0,none⟩) K eT):=by
  have:=rL.o 256 (.slice (some ⟨pg,0,none⟩) K eT) (by rw[hG,LS (by simp[hJ])];simp[hJ])
  rwa [LR]at this
 have hH:=Zj cg n K aJ yb zb ns tk nx W0 (by omega) (λ c hc=>by have:=qR c hc;omega) (by omega) ((hC.below eR.o lR).raise (by omega));obtain⟨f1,f2,f3,f4,f5⟩:=K8 (mJ ns nx n) K;have W8:=f5 a8;have HL:QO (Jv aX n K bG ns tk nx=sX aX++oS aX.length (λ k=>[LF (tM aX k)])
  ++[LF n,LF ((mR K (mJ ns nx n)).2.length-1)]++oS 256 (λ b=>[LF ((mR K (mJ ns nx n)).1.getD (bG b) 0)])
  ++oS n (λ c=>[LF (ns c)]++oS (ns c) (S7 tk nx (mR K (mJ ns nx n)).2 c))):=rfl
 generalize Jv aX n K bG ns tk nx=R at*;generalize (mR K (mJ ns nx n)).1=co at*;generalize (mR K (mJ ns nx n)).2=fi at*;have N0:=fV (hC.below eR.o lR);have O6:=fV (hR.below eR.o X2);have W4:=fV H5;have b5:=fV qR;have b1:=fV H2;have a2:=fV N1;have c3:=fV E6;have d3:=fV P0;have b3:=fV hJ;have S2:=fV f1;have b4:=fV f3;have O9:=fV f4;clear hC hR H5 qR H2 N1 E6 P0 hJ f1 f3 f4 f5 hG rL;replace aW:=fV aW;have cF:=O5.o 0 _ rfl;rw[LR]at cF;obtain⟨m,hm⟩:=xE (aX.length)
 rw[hm]at b6 aW cF HL ⊢;replace hm:=fV hm;clear O5;go_enter func19,ntmps19;go_upto_region 1 with(first
  | (refine wpList_boxTo rfl 50 (.tmp 1) rfl _ rfl (w.heap.size+1) (by simp) GA rfl ?_))
 rw[aW.o];go_wp2_with fail;refine hH.mono ?_;rintro e w1 ⟨g1,c1,g2,c2,rfl,qL,sW,a0,X1,h7,g3,bK⟩;obtain⟨FL,eM⟩:=xE (fi.length)
 rw[S2.o]at qL ⊢;rw[eM]at sW f2 W8 O9 HL ⊢;replace eM:=fV eM;have a5:=fV qL;have a3:=fV sW;have a9:=(bK.cell (p:=⟨w.heap.size,0,none⟩) (by show w.heap.size<W0.heap.size;omega)).trans cF;have a4:=fV (nB tT.o bK (by omega));have hP:=fV (N0.o.below bK (by omega));have d5:=fV (O6.o.below bK (by omega));have X4:=fV (eR.o.trans (bK.mono (by omega)));have f9:=bK.size;clear qL sW bK cF cP tT N0 O6 eR hH aW;go_upto_region 3 with fail;have rO:QO (WI w1 (w1.alloc (.cells #[.int .u8 83,.int .u8 84,.int .u8 1,.int .u8 (m:Int)] 5)) w1.heap.size 4 (sX aX)):=by
  unfold QO sX;rw[hm.o];exact WI.new w1 (by omega)
 have bN:(sX aX).length=4:=rfl;have i1:=(rO.o.bl.cell (p:=⟨w.heap.size,0,none⟩) (by show w.heap.size<w1.heap.size;omega)).trans a9;generalize w1.alloc (.cells #[.int .u8 83,.int .u8 84,.int .u8 1,.int .u8 (m:Int)] 5)=w3 at*;generalize sX aX=A0 at*;replace bN:=fV bN;go_wp2_with fail
 go_loopg [9,37] m (λ gk iv kv wr=>∃(k g aJ:Nat)(aS:List UInt8),iv=.slice (some ⟨g,0,none⟩) aS.length aJ/\kv=.int .i64 (k:Int)/\k+gk=m/\aS.length=4+k/\aS=A0++oS k (λ k=>[LF (tM aX k)])/\WI w1 wr g aJ aS)
 case atStart=>exact⟨0,w1.heap.size,4,A0,by rw[bN.o],rfl,by omega,bN.o,(MS _).symm,rO.o⟩
 case round=>
  obtain⟨k,g,C,aS,rfl,rfl,g7,hQ,J,D⟩:=hrel;have hB:=fV hQ;have F:=fV J;have Y:=fV D;have eO:=D.bl.size;clear hQ J D rO;by_cases Ha:k<m
  ·obtain⟨d,rfl⟩:∃d,gk=d+1:=⟨gk-1,by omega⟩
   have nN:k<aX.length:=by rw[hm.o];exact Ha
   have hx:aX[k]?=some (aX[k]):=LD nN;have eL:=fV ((d5.o.below Y.o.bl (by omega)) k _ hx);have W2:=W4.o _ (LZ nN);have B1:QO (tM aX k=aX[k].2.1.toNat):=by unfold QO tM;rw[LC,MA,hx];rfl
   generalize aX[k]=x at*;obtain⟨f,be,ro⟩:=x;simp only at W2;obtain⟨bn,rfl⟩:∃bn:Nat,be=(bn:Int):=⟨be.toNat,by omega⟩
   have H1:QO (tM aX k=bn):=B1.o.trans (by simp);clear B1;have hU:QO (xZ ((wr.alloc (.cells #[.bool false,.bool false,.bool false,.bool false,.int .i64 0,.int .i64 0] 119)).setCells wr.heap.size 0 (nI (f,(bn:Int),ro))) wr.heap.size (f,(bn:Int),ro)):=
    xZ.mk' (LM _ _ _ _ (oY wr [.bool false,.bool false,.bool false,.bool false,.int .i64 0,.int .i64 0] 119 6 rfl))
   have hW:QO (WI w1 ((wr.alloc (.cells #[.bool false,.bool false,.bool false,.bool false,.int .i64 0,.int .i64 0] 119)).setCells wr.heap.size 0 (nI (f,(bn:Int),ro))) g C aS):=Y.o.below (fX _ 0 _ wr.heap.size (bR.alloc lR _) lR);have T3:=fV (oY wr [.bool false,.bool false,.bool false,.bool false,.int .i64 0,.int .i64 0] 119 6 rfl);have W3:=dT k m (by omega)
   have h4:=iI k m (by omega)
   clear hx nN;go_upto_region 6 with(first
    | (refine QP rfl 119 (.tmp 39) rfl rg (k*6) rfl (nI (f,(bn:Int),ro)) _ eL.o NW rfl cA ?_)
    | (refine QQ rfl 119 (.tmp 11) (.tmp 40) rfl wr.heap.size 0 (nI (f,(bn:Int),ro)).toArray rfl rfl ?_ ?_ ?_ ?_;exact T3.o;exact cA;(simp[nI,LK])))
   generalize (wr.alloc (.cells #[.bool false,.bool false,.bool false,.bool false,.int .i64 0,.int .i64 0] 119)).setCells wr.heap.size 0 (nI (f,(bn:Int),ro))=w5 at*;have c4:=hU.o.c4;simp only at c4;have h9:=hW.o.bl.size;have Hb:bn<256:=by omega
   clear hU T3 eL Y;go_wp2_with (first|(at_builtin;refine gB w5 rfl (.tmp 41) (.tmp 45) 116 rfl w1.heap.size 5 (.int .u8 0) 1 1 MZ bV rfl (by decide) (by decide) (.slice (some ⟨g,0,none⟩) aS.length C) aS.length (oE aS) [.int .u8 (bn:Int)] _ rfl hW.o.rw _ rfl rfl rfl (by simp[LK]) (by have:=hB.o;omega) (by omega) ?_;intro g4 cap4 w4 aO Q hE eN;have cN:=fV (hW.o.app Hb aO Q);clear aO Q hE));go_roundg d
   case measure=>omega
   case rel=>exact⟨k+1,g4,cap4,aS++[LF bn],by simp,by go_num,by omega,by rw[LJ,hB.o];rfl,by rw[nZ,<-LP,<-F.o,H1.o],cN.o⟩
  ·have e:gk=0:=by omega
   subst e;have e:k=m:=by omega
   subst e;have W3:=dF k k (by omega)
   obtain⟨L,rfl⟩:∃L,FL=L+1:=⟨FL-1,by omega⟩
   have h6:((L+1:Nat):Int)-1=(L:Int):=by omega
   have H3:QO (R=aS++[LF n,LF L]++oS 256 (λ b=>[LF (co.getD (bG b) 0)])++oS n (λ c=>[LF (ns c)]++oS (ns c) (S7 tk nx fi c))):=by
    unfold QO;rw[HL.o,F.o];rfl
   clear F HL;go_upto_region 9 with(first|(at_builtin;refine Y3 wr rfl (.tmp 48) (.tmp 56) 116 rfl w1.heap.size 5 (.int .u8 0) 1 1 MZ bV rfl (by decide) (by decide) (.slice (some ⟨g,0,none⟩) aS.length C) aS.length (oE aS) [.int .u8 (n:Int),.int .u8 (L:Int)] _ rfl Y.o.rw _ rfl rfl rfl (by simp[LK]) (by have:=hB.o;omega) (by omega) ?_;intro g4 cap4 w4 aO Q hE eN;have cN:=fV (Y.o.app2 (show n<256 by omega) (show L<256 by omega) aO Q);clear aO Q hE))
   have B2:=fV (nB a4.o cN.o.bl (by omega));have a7:QO (OA.toList.toArray=OA):=by unfold QO;simp
   have nL:QO ((aS++[LF n,LF L]).length=aS.length+2):=by unfold QO;simp
   have X0:(aS++[LF n,LF L]).length<=300:=by rw[nL.o,hB.o];omega
   rw[<-nL.o];generalize aS++[LF n,LF L]=A1 at*;clear Y hB nL;go_wp2_with (first|(refine QP rfl 47 (.tmp 58) rfl (w.heap.size+1) 0 rfl OA.toList _ B2.o underlying47 rfl ?_ ?_;(rw[MR,b3.o];exact fS);rw[a7.o]))
   go_loopg [9,60] 256 (λ gk iv kv wr=>∃(b g aJ:Nat)(aS:List UInt8),iv=.slice (some ⟨g,0,none⟩) aS.length aJ/\kv=.int .i64 (b:Int)/\b+gk=256/\aS.length<=300+b/\aS=A1++oS b (λ b=>[LF (co.getD (bG b) 0)])/\WI w1 wr g aJ aS)
   case atStart=>exact⟨0,g4,cap4,A1,rfl,rfl,by omega,X0,(MS _).symm,cN.o⟩
   case round=>
    obtain⟨b,g,C,aS,rfl,rfl,f0,hQ,J,D⟩:=hrel;have F:=fV J;have Y:=fV D;have eO:=D.bl.size;clear J D cN B2;by_cases hF:b<256
    ·obtain⟨d,rfl⟩:∃d,gk=d+1:=⟨gk-1,by omega⟩
     have W5:=fV (c3.o b hF);have H6:=d3.o b hF;have c9:=(a5.o.below Y.o.bl a0) (bG b) H6;have HV:QO (iY co (bG b)=((co.getD (bG b) 0:Nat):Int)):=rfl;rw[HV.o]at c9;have hv:co.getD (bG b) 0<256:=by
      have:=D8 O9.o (show bG b<co.length by rw[S2.o];exact H6);omega
     have e2:(0:Int)<=(bG b:Int)/\(bG b:Int)<(K:Int):=by omega
     have g0:QO ((λ b=>[LF (co.getD (bG b) 0)]) b=[LF (co.getD (bG b) 0)]):=rfl;have iN:QO (A1++oS (b+1) (λ b=>[LF (co.getD (bG b) 0)])=aS++[LF (co.getD (bG b) 0)]):=by
      unfold QO;rw[nZ,<-LP,<-F.o]
     have h3:decide ((b:Int)<256)=true:=by simp;omega
     generalize co.getD (bG b) 0=v at*;generalize bG b=ob at*;go_wp2_with (first|(refine fF rfl (.tmp 59) (.tmp 60) rfl OA (.int .i64 (ob:Int)) b hF W5.o rfl rfl ?_)|(at_builtin;refine gB wr rfl (.tmp 63) (.tmp 69) 116 rfl w1.heap.size 5 (.int .u8 0) 1 1 MZ bV rfl (by decide) (by decide) (.slice (some ⟨g,0,none⟩) aS.length C) aS.length (oE aS) [.int .u8 (v:Int)] _ rfl Y.o.rw _ rfl rfl rfl (by simp[LK]) (by omega) (by omega) ?_;intro g5 hD w5 aR U hA bM;have hL:=fV (Y.o.app hv aR U);clear aR U hA));go_roundg d
     case measure=>omega
     case rel=>exact⟨b+1,g5,hD,aS++[LF v],by simp,by go_num,by omega,by simp;omega,iN.o.symm,hL.o⟩
    ·have e:gk=0:=by omega
     subst e;have e:b=256:=by omega
     subst e;have T2:QO (R=aS++oS n (λ c=>[LF (ns c)]++oS (ns c) (S7 tk nx fi c))):=by unfold QO;rw[F.o];exact H3.o
     clear H3 F;go_wp2_with fail;obtain⟨CB,sR⟩:∃f:Nat->List UInt8,(λ c=>[LF (ns c)]++oS (ns c) (S7 tk nx fi c))=f:=⟨_,rfl⟩
     have c6:QO (∀c,CB c=[LF (ns c)]++oS (ns c) (S7 tk nx fi c)):=λ c=>by rw[<-sR]
     rw[sR]at T2;clear sR;generalize aS=A2 at*
     go_loopg [9,74] n (λ gk iv kv wr=>∃(c g aJ:Nat)(aS:List UInt8),iv=.slice (some ⟨g,0,none⟩) aS.length aJ/\kv=.int .i64 (c:Int)/\c+gk=n/\aS.length<=1000+c*100000/\aS=A2++oS c CB/\WI w1 wr g aJ aS)
     case atStart=>exact⟨0,g,C,A2,rfl,rfl,by omega,by omega,(MS _).symm,Y.o⟩
     case round=>
      obtain⟨c,g,C,aS,rfl,rfl,e1,hQ,J,D⟩:=hrel;have F:=fV J;have I:=fV D;have eO:=D.bl.size;clear J D Y;by_cases V:c<n
      ·obtain⟨d,rfl⟩:∃d,gk=d+1:=⟨gk-1,by omega⟩
       have c9:=(hP.o.below I.o.bl (by omega)).cc c V;have W1:=b5.o c V;have bS:=c6.o c;have O7:QO (∀s,s<ns c->tk c s<=255):=λ s hs=>b1.o c s V hs
       obtain⟨N,hN⟩:=xE (ns c)
       rw[hN]at c9 W1 bS;replace hN:=fV hN;have iN:QO (∀X,aS++[LF N]++oS N (S7 tk nx fi c)=X->X=A2++oS (c+1) CB):=λ X hX=>by
        rw[<-hX,nZ,<-LP,<-F.o,bS,LP]
       have d4:=dT c n (by omega)
       have h8:=iI c n (by omega)
       clear bS F;go_upto_region 18 with(first|(at_builtin;refine gB wr rfl (.tmp 78) (.tmp 82) 116 rfl w1.heap.size 5 (.int .u8 0) 1 1 MZ bV rfl (by decide) (by decide) (.slice (some ⟨g,0,none⟩) aS.length C) aS.length (oE aS) [.int .u8 (N:Int)] _ rfl I.o.rw _ rfl rfl rfl (by simp[LK]) (by omega) (by omega) ?_;intro g5 hD w5 aR U hA bM;have hL:=fV (I.o.app (show N<256 by omega) aR U);clear aR U hA))
       have bT:QO ((aS++[LF N]).length=aS.length+1):=by unfold QO;simp
       have h5:(aS++[LF N]).length<=1001+c*100000:=by rw[bT.o];omega
       rw[<-bT.o];generalize aS++[LF N]=A3 at*;clear I bT c9;go_wp2_with fail
       go_loopg [9,86] N (λ gk iv kv wr=>∃(s g aJ:Nat)(aS:List UInt8),iv=.slice (some ⟨g,0,none⟩) aS.length aJ/\kv=.int .i64 (s:Int)/\s+gk=N/\aS.length<=1001+c*100000+s*300/\aS=A3++oS s (S7 tk nx fi c)/\WI w1 wr g aJ aS)
       case atStart=>exact⟨0,g5,hD,A3,rfl,rfl,by omega,by omega,(MS _).symm,hL.o⟩
       case round=>
        obtain⟨s,g,C,aS,rfl,rfl,e5,e7,J,D⟩:=hrel;have F:=fV J;have I:=fV D;have eO:=D.bl.size;have a6:=(D.rw.lt g rfl).2;clear J D hL;by_cases eN:s<N
        ·obtain⟨ds,rfl⟩:∃d,gk=d+1:=⟨gk-1,by omega⟩
         have bO:s<ns c:=by rw[hN.o];exact eN
         have rT:=fV (hP.o.below I.o.bl (by omega));have eL:QO (wr.rangeAt (yb c) (s*2) [.int .i64 (tk c s),.slice (some ⟨zb c s,0,none⟩) K K]):=λ i v hv=>by
          have hi:i<2:=(LG.1 hv).1;have:i=0\/i=1:=by omega
          rcases this with rfl|rfl
          ·cases hv;exact rT.o.tc c s V bO
          ·cases hv;exact rT.o.nc c s V bO
         have Pl:QO (∀k,k<K->w1.cell? ⟨zb c s,k,none⟩=some (.int .i64 (nx c s k))):=λ k hk=>hP.o.lc c s k V bO hk
         have d6:QO (zb c s<w1.heap.size):=by have:=hP.o.b2 c s V bO;unfold QO;omega
         have e4:=O7.o s bO;have S5:QO (∀k,k<K->nx c s k= -1\/(0<=nx c s k/\nx c s k<=255)):=λ k hk=>a2.o c s k V bO hk
         have hM:=fV (I.o.alloc (.cells #[.int .i64 (tk c s),.slice (some ⟨zb c s,0,none⟩) K K] 121));have d0:(wr.alloc (.cells #[.int .i64 (tk c s),.slice (some ⟨zb c s,0,none⟩) K K] 121)).cell? ⟨wr.heap.size,0,none⟩=some (.int .i64 (tk c s)):=(MN _ _ _ 0 rfl).trans rfl;have d1:(wr.alloc (.cells #[.int .i64 (tk c s),.slice (some ⟨zb c s,0,none⟩) K K] 121)).cell? ⟨wr.heap.size,1,none⟩=some (.slice (some ⟨zb c s,0,none⟩) K K):=(MN _ _ _ 1 rfl).trans rfl;have hV:(wr.alloc (.cells #[.int .i64 (tk c s),.slice (some ⟨zb c s,0,none⟩) K K] 121)).heap.size=wr.heap.size+1:=by simp
         have lH:QO (S7 tk nx fi c s=[LF (tk c s)]++oS fi.length (λ i=>[LF (G7 (nx c s (fi.getD i 0)))])):=rfl;rw[eM.o]at lH;have L1:QO (∀X,aS++[LF (tk c s)]++oS (L+1) (λ i=>[LF (G7 (nx c s (fi.getD i 0)))])=X->X=A3++oS (s+1) (S7 tk nx fi c)):=λ X hX=>by
          rw[<-hX,nZ s,<-LP,<-F.o,lH.o,LP]
         have b0:=dT s N (by omega)
         have g9:=iI s N (by omega)
         clear lH F rT;generalize nx c s=nxs at*;generalize tk c s=bC at*;generalize zb c s=zbs at*;go_upto_region 21 with(first|(refine QP rfl 121 (.tmp 88) rfl (yb c) (s*2) rfl [.int .i64 (bC:Int),.slice (some ⟨zbs,0,none⟩) K K] _ eL.o underlying121 rfl dH ?_))
         generalize wr.alloc (.cells #[.int .i64 (bC:Int),.slice (some ⟨zbs,0,none⟩) K K] 121)=WA at*;obtain⟨sb,hY⟩:=xE (wr.heap.size)
         rw[hY]at d0 d1 hV a6⊢;replace hY:=fV hY;have hI:=fV hV;clear eL I eO hV;go_upto_region 22 with(first|(at_builtin;refine gB WA rfl (.tmp 90) (.tmp 94) 116 rfl w1.heap.size 5 (.int .u8 0) 1 1 MZ bV rfl (by decide) (by decide) (.slice (some ⟨g,0,none⟩) aS.length C) aS.length (oE aS) [.int .u8 (bC:Int)] _ rfl hM.o.rw _ rfl rfl rfl (by simp[LK]) (by omega) (by have:=hM.o.bl.size;omega) ?_;intro g6 H0 w6 gL Z hS e6;have O0:=fV (hM.o.app (show bC<256 by omega) gL Z);have O3:=fV (((gH Z (show sb<WA.heap.size by have:=hI.o;omega) (λ e=>absurd (show sb=g by simpa[ME]using e) (by omega))).1 1).trans d1);have H4:QO (g6≠sb):=(by unfold QO;have:=hI.o;rcases hS with h|h;(have:g=g6:=by simpa[ME]using h);omega;omega);have O8:QO (sb<w6.heap.size):=(by unfold QO;have q1:=Z.size;have q2:=hI.o;simp at q1;omega);clear gL Z hS))
         have eS:QO ((aS++[LF bC]).length=aS.length+1):=by unfold QO;simp
         have bN:(aS++[LF bC]).length<=1002+c*100000+s*300:=by rw[eS.o];omega
         rw[<-eS.o];generalize aS++[LF bC]=A4 at*;clear hM eS d0 d1 hI;go_wp2_with fail
         go_loopg [9,98] (L+1) (λ gk iv kv wr=>∃(i g aJ:Nat)(aS:List UInt8),iv=.slice (some ⟨g,0,none⟩) aS.length aJ/\kv=.int .i64 (i:Int)/\i+gk=L+1/\aS.length<=1002+c*100000+s*300+i/\aS=A4++oS i (λ i=>[LF (G7 (nxs (fi.getD i 0)))])/\WI w1 wr g aJ aS/\wr.cell? ⟨sb,1,none⟩=some (.slice (some ⟨zbs,0,none⟩) K K)/\g≠sb/\sb<wr.heap.size)
         case atStart=>exact⟨0,g6,H0,A4,rfl,rfl,by omega,bN,(MS _).symm,O0.o,O3.o,H4.o,O8.o⟩
         case round=>
          obtain⟨i,g,C,aS,rfl,rfl,f6,e9,J,D,d1,h1,c5⟩:=hrel;have F:=fV J;have I:=fV D;have eO:=D.bl.size;clear J D O0 O3 H4 O8;by_cases bM:i<L+1
          ·obtain⟨di,rfl⟩:∃d,gk=d+1:=⟨gk-1,by omega⟩
           have c8:=(a3.o.below I.o.bl X1) i bM;have HV:QO (iY fi i=((fi.getD i 0:Nat):Int)):=rfl;rw[HV.o]at c8;have hv:fi.getD i 0<K:=D8 b4.o (by rw[eM.o];exact bM);have tO:QO (A4++oS (i+1) (λ i=>[LF (G7 (nxs (fi.getD i 0)))])=aS++[LF (G7 (nxs (fi.getD i 0)))]):=by
            unfold QO;rw[nZ i,<-LP,<-F.o]
           generalize fi.getD i 0=v at*;have c7:=(I.o.bl.cell (p:=⟨zbs,v,none⟩) d6.o).trans (Pl.o v hv);have hx:=S5.o v hv;have W9:G7 (nxs v)<256:=by unfold G7;split<;>omega
           generalize nxs v=xv at*;have hH:=Xf xv wr hx;replace hx:=fV hx;have f8:=iI v K (by omega)
           have W6:decide ((i:Int)<((L+1:Nat):Int))=true:=by simp;omega
           have h0:(0:Int)<=(i:Int)/\(i:Int)<((L+1:Nat):Int):=by omega
           generalize G7 xv=lb at*;clear HV;go_wp2_with fail;refine hH.mono ?_;rintro e w7 ⟨rfl,M2⟩;rw[M2];clear M2 w7;go_wp2_with (first|(at_builtin;refine gB wr rfl (.tmp 108) (.tmp 110) 116 rfl w1.heap.size 5 (.int .u8 0) 1 1 MZ bV rfl (by decide) (by decide) (.slice (some ⟨g,0,none⟩) aS.length C) aS.length (oE aS) [.int .u8 (lb:Int)] _ rfl I.o.rw _ rfl rfl rfl (by simp[LK]) (by omega) (by omega) ?_;intro g8 tL w8 eX aL hT e3;have W7:=fV (I.o.app W9 eX aL);have e0:=fV (((gH aL c5 (λ e=>absurd (show sb=g by simpa[ME]using e) (by omega))).1 1).trans d1);have d2:QO (g8≠sb):=(by unfold QO;rcases hT with h|h;(have:g=g8:=by simpa[ME]using h);omega;omega);have Go:QO (sb<w8.heap.size):=(by unfold QO;have:=aL.size;simp at this;omega);clear eX aL hT));go_roundg di
           case measure=>omega
           case rel=>exact⟨i+1,g8,tL,aS++[LF lb],by simp,by go_num,by omega,by simp;omega,tO.o.symm,W7.o,e0.o,d2.o,Go.o⟩
          ·have e:gk=0:=by omega
           subst e;have e:i=L+1:=by omega
           subst e;have W6:decide (((L+1:Nat):Int)<((L+1:Nat):Int))=false:=by simp
           have HE:=fV (L1.o aS F.o.symm);go_wp2_with fail;go_roundg ds
           case measure=>omega
           case rel=>exact⟨s+1,g,C,aS,rfl,by go_num,by omega,by omega,HE.o,I.o⟩
        ·have e:gk=0:=by omega
         subst e;have e:s=N:=by omega
         subst e;have b0:=dF s s (by omega)
         have HE:=fV (iN.o aS F.o.symm);go_wp2_with fail;go_roundg d
         case measure=>omega
         case rel=>exact⟨c+1,g,C,aS,rfl,by go_num,by omega,by omega,HE.o,I.o⟩
      ·have e:gk=0:=by omega
       subst e;have e:c=n:=by omega
       subst e;have d4:=dF c c (by omega)
       have HE:QO (R=aS):=by unfold QO;rw[T2.o,F.o]
       go_wp2_with (first|(refine dS rfl (.tmp 115) rfl I.o rfl ?_));go_ret;exact⟨by rw[HE.o];rfl,X4.o.trans (qA I.o.bl (by omega))⟩
theorem KQ{w:tW}{cg:Nat}{ls:List (List (Nat×List Int))}(h:Jx w K cg ls)(aL:cg<w.heap.size)(hl:∀l∈ls,∀z∈l,z.2.length=K):
  ∃yb zb,CM w w.heap.size cg ls.length K yb zb (S4 ls) (Vj ls) (V7 ls):=by
 obtain⟨ys,rfl,hr,F⟩:=h;have Y:∀c,c<ys.length->∃y,ys[c]?=some y/\y∈ys/\(ys.map (λ y=>y.2.map (·.1))).getD c []=y.2.map (·.1):=λ c C=>
  ⟨ys[c],LD C,LZ C,by rw[LC,MA,LD C];rfl⟩
 have hz:∀(y:pF) s,s<y.2.length->∃z,y.2[s]?=some z/\z∈y.2/\(y.2.map (·.1)).getD s (0,[])=z.1:=λ y s o=>
  ⟨y.2[s],LD o,LZ o,by rw[LC,MA,LD o];rfl⟩
 refine⟨λ c=>(ys.getD c (0,[])).1,λ c s=>((ys.getD c (0,[])).2.getD s ((0,[]),0)).2,?_⟩;have V:∀c y,ys[c]?=some y->ys.getD c (0,[])=y:=λ c y e=>by rw[LC,e];rfl
 have gz:∀(y:pF) s z,y.2[s]?=some z->y.2.getD s ((0,[]),0)=z:=λ y s z e=>by rw[LC,e];rfl
 have I:∀c y,ys[c]?=some y->S4 (ys.map (λ y=>y.2.map (·.1))) c=y.2.length:=λ c y e=>by
  unfold S4;rw[LC,MA,e];simp
 rw[MT];refine⟨λ c C=>?_,λ c s C o=>?_,λ c s C o=>?_,λ c s k C o hk=>?_,aL,λ c C=>?_,λ c s C o=>?_⟩
 ·obtain⟨y,e,Q,_⟩:=Y c C;have:=hr c _ (Gp ys c y e);rw[LR]at this;rw[this,I c y e,V c y e]
 ·obtain⟨y,e,Q,X⟩:=Y c C;rw[I c y e]at o;obtain⟨z,U,D,J⟩:=hz y s o;have:=(F y Q).rg (s*2) _ (PV 2 s▸(Bc K y.2 s z U).1);rw[LR]at this;simp only[V c y e];rw[this];unfold Vj;rw[X,J]
 ·obtain⟨y,e,Q,X⟩:=Y c C;rw[I c y e]at o;obtain⟨z,U,D,J⟩:=hz y s o;have:=(F y Q).rg (s*2+1) _ (PV 2 s▸(Bc K y.2 s z U).2);rw[LR]at this;simp only[V c y e,gz y s z U];rw[this]
 ·obtain⟨y,e,Q,X⟩:=Y c C;rw[I c y e]at o;obtain⟨z,U,D,J⟩:=hz y s o;have aO:z.1.2.length=K:=hl _ (OP.2 ⟨y,Q,rfl⟩) _ (OP.2 ⟨z,D,rfl⟩);have Z:k<z.1.2.length:=by omega
  have:=((F y Q).bF z D).2 k _ (zY z.1.2 k _ (LD Z));rw[LR]at this;simp only[V c y e,gz y s z U];rw[this];unfold V7;rw[X,J,LC,LD Z];rfl
 ·obtain⟨y,e,Q,X⟩:=Y c C;simp only[V c y e];exact(F y Q).lt
 ·obtain⟨y,e,Q,X⟩:=Y c C;rw[I c y e]at o;obtain⟨z,U,D,J⟩:=hz y s o;simp only[V c y e,gz y s z U];exact((F y Q).bF z D).1
def pH(t:tB):List UInt8×Int:=
 if kC t=0 then
  match xX (pO (iB t).aV (iB t).aX (qG (iB t).aW).2) (iP (iB t).aX 1) 0 []with
  | none=>([],4)
  | some ls=>(Jv (iB t).aX ls.length (qG (iB t).aW).2.length (λ b=>(qG (iB t).aW).1.getD b 0) (S4 ls) (Vj ls) (V7 ls),0)
 else([],kC t)
theorem Yd(t:tB)(w:tW)(hF:kC t=0->AF (iB t))
  (hA:kC t=0->∀ls,xX (pO (iB t).aV (iB t).aX (qG (iB t).aW).2) (iP (iB t).aX 1) 0 []=some ls->Be (qG (iB t).aW).2.length ls):
  QX LY 7 #[.string t] w λ e w'=>e=.returned (.tuple #[.string ⟨(pH t).1.toArray⟩,.int .i64 (pH t).2])/\Bl w w':=by
 have hp:=Om t w;have HF:=fV hF;have HA:=fV hA;clear hF hA;go_enter func7,ntmps7;go_wp2_with fail;refine hp.mono ?_;rintro e w1 ⟨cF,vr,vn,vp,rfl,eN,eR⟩;have hI:=fV cF;have nL:=cF.size;have eO:QO (∀o,Bl w (w1.alloc o)):=λ o=>hI.o.alloc nL o
 clear cF hp;by_cases hz:kC t=0
 ·clear eR;have J:=fV (eN hz);have I:=fV (HF.o hz);have A0:=fV (HA.o hz);clear eN HF HA;have HE:QO (∀X,xX (pO (iB t).aV (iB t).aX (qG (iB t).aW).2) (iP (iB t).aX 1) 0 []=X->pH t=match X with
   | none=>([],4)
   | some ls=>(Jv (iB t).aX ls.length (qG (iB t).aW).2.length (λ b=>(qG (iB t).aW).1.getD b 0) (S4 ls) (Vj ls) (V7 ls),0)):=λ X hX=>by
   rw[<-hX];unfold pH;rw[aB hz]
  rw[hz];generalize iB t=st at*;clear hz;have H4:=I.o.r0;have H0:=I.o.r1;have L1:=I.o.n0;have A3:=I.o.nn;have M2:=I.o.p0;have A1:=I.o.p1;have E6:=I.o.g0;have tT:=I.o.g1;obtain⟨rg,F,H3,_,_⟩:=J.o.rr.form (by omega);obtain⟨ng,D,H1,_,_⟩:=J.o.rn.form (by omega);obtain⟨qg,C,eX,_,_⟩:=J.o.rp.form (by omega);subst H3 H1 eX;have hV:QO (uA w1 rg st.aX):=λ k x hk=>J7 (f:=nI) (m:=6) (λ _=>rfl) (vP J.o.rr) hk
  have hL:QO (F6 w1 ng st.aV):=λ k x hk=>J7 (f:=λ x=>[NQ .i64 x.1,NQ .i64 x.2.1,NQ .i64 x.2.2]) (m:=3) (λ _=>rfl) (vP J.o.rn) hk
  have hT:QO (yQ w1 qg st.aW):=λ k x hk=>J7 (f:=gQ) (m:=256) (λ f=>gP f) (vP J.o.rp) hk
  have lH:=J.o.lr rg rfl;have tO:=J.o.ln ng rfl;have sW:=J.o.lp qg rfl;clear J;have bS:=fV (eO.o (.cells #[.slice (some ⟨rg,0,none⟩) st.aX.length F,.slice (some ⟨ng,0,none⟩) st.aV.length D,.slice (some ⟨qg,0,none⟩) st.aW.length C] 44));have bN:QO (Bl w1 (w1.alloc (.cells #[.slice (some ⟨rg,0,none⟩) st.aX.length F,.slice (some ⟨ng,0,none⟩) st.aV.length D,.slice (some ⟨qg,0,none⟩) st.aW.length C] 44))):=bR.alloc lR _;have eM:=fV (mA w1 #[.slice (some ⟨rg,0,none⟩) st.aX.length F,.slice (some ⟨ng,0,none⟩) st.aV.length D,.slice (some ⟨qg,0,none⟩) st.aW.length C] 44);have hG:(w1.alloc (.cells #[.slice (some ⟨rg,0,none⟩) st.aX.length F,.slice (some ⟨ng,0,none⟩) st.aV.length D,.slice (some ⟨qg,0,none⟩) st.aW.length C] 44)).heap.size=w1.heap.size+1:=by simp
  go_upto_region 4 with fail;generalize w1.alloc (.cells #[.slice (some ⟨rg,0,none⟩) st.aX.length F,.slice (some ⟨ng,0,none⟩) st.aV.length D,.slice (some ⟨qg,0,none⟩) st.aW.length C] 44)=w2 at*;have hP:=Oi st.aW qg C (.slice (some ⟨rg,0,none⟩) st.aX.length F) (.slice (some ⟨ng,0,none⟩) st.aV.length D) w2 A1 (hT.o.below bN.o sW) (by omega);have bC:=fV hG;clear hG;go_wp2_with (first|(refine QP rfl 44 (.tmp 4) rfl w1.heap.size 0 rfl [.slice (some ⟨rg,0,none⟩) st.aX.length F,.slice (some ⟨ng,0,none⟩) st.aV.length D,.slice (some ⟨qg,0,none⟩) st.aW.length C] _ eM.o NC rfl bY ?_));refine hP.mono ?_;rintro e Q ⟨vpl,rfl,hN,Z,aL⟩;have aO:=fV hN;have hY:=fV I.o.gl;have H2:=fV I.o.ok;have qR:=fV I.o.ro;have hD:=fV I.o.be;clear hN hP I;generalize (qG st.aW).2=G at*;generalize (qG st.aW).1=O at*;obtain⟨pg,Y,eX,_,_⟩:=Z.form (by omega);subst eX;have rO:QO (∀j a,G[j]?=some a->Q.cell? ⟨pg,j,none⟩=some (.int .i64 a)):=λ j a hj=>by
   have:=vP Z j _ (zY G j a hj);rwa [LR]at this
  have sR:=(Z.lt pg rfl).2;have hS:=fV (nB eM.o aL (by have:=bC.o;omega));have hU:=fV ((hV.o.below bN.o lH).below aL (by have:=bC.o;omega));have hQ:=fV ((hL.o.below bN.o tO).below aL (by have:=bC.o;omega));have bT:=fV (bS.o.trans (qA aL bS.o.size));have hW:w1.heap.size<Q.heap.size:=by have:=aL.size;have:=bC.o;omega
  clear Z aL hV hL hT bS bN eM bC eO hI;obtain⟨V,aR⟩:=xE (uY O (.slice (some ⟨pg,0,none⟩) G.length Y))
  have bK:QO (V.length=257):=by rw[<-aR];exact P4 _ _ aO.o
  have hM:QO (∀v∈V,v.oneCell'=true):=λ v hv=>by
   rw[<-aR]at hv;unfold uY pA at hv;rcases LN.1 hv with h1|h1
   ·rw[OP]at h1;obtain⟨y,_,rfl⟩:=h1;rfl
   ·rw[LH]at h1;rw[h1];rfl
  have B2:QO (V[256]?=some (.slice (some ⟨pg,0,none⟩) G.length Y)):=by rw[<-aR];exact Ma _ _ aO.o
  have nN:QO (V=pA O++[.slice (some ⟨pg,0,none⟩) G.length Y]):=by rw[<-aR];rfl
  rw[aR];clear aR;have cP:QO (V.toArray.size=257):=by unfold QO;simpa using bK.o
  have eS:=fV (iD Q LI 50 Q.heap.size 257 cC rfl);have aT:QO (Bl Q ((Q.alloc (.cells LI 50)).setCells Q.heap.size 0 V)):=fX _ 0 _ Q.heap.size (bR.alloc lR _) lR;have hJ:QO (((Q.alloc (.cells LI 50)).setCells Q.heap.size 0 V).rangeAt Q.heap.size 0 V):=LM _ _ _ _ (by rw[bK.o];exact eS.o);have rT:QO (Q.heap.size<((Q.alloc (.cells LI 50)).setCells Q.heap.size 0 V).heap.size):=by
   have:=(fX V 0 (Q.alloc (.cells LI 50)) Q.heap.size (PC 0 _) zL).size;unfold QO;simp at this;omega
  go_upto_region 5 with(first
   | (refine QQ rfl 50 (.tmp 6) (.tmp 17) rfl Q.heap.size 0 V.toArray rfl rfl ?_ ?_ (QR hM.o) ?_;(rw[cP.o];exact eS.o);(rw[cP.o];exact cG)))
  generalize (Q.alloc (.cells LI 50)).setCells Q.heap.size 0 V=w4 at*;have H6:=aT.o.size;have hR:=fV (nB hS.o aT.o hW);have hH:=fV (hU.o.below aT.o (by omega));have iN:=fV (hQ.o.below aT.o (by omega));have bO:=fV (bT.o.trans (qA aT.o bT.o.size));have eT:=BM st.aV st.aX ng D rg F pg Y (.slice (some ⟨qg,0,none⟩) st.aW.length C) G V.toArray w4 A3 H2.o iN.o (by omega) (by omega) H4 hH.o (by omega) qR.o (λ x hx=>by have:=hD.o x hx;omega)
   cP.o (QR hM.o) (by rw[OU];exact B2.o) (by omega) (λ j a hj=>(aT.o.cell (p:=⟨pg,j,none⟩) sR).trans (rO.o j a hj)) (by omega)
  have H5:QO (V.toArray.toList=V):=by unfold QO;simp
  clear hS hU hQ eS bT;go_wp2_with (first
   | (refine QP rfl 44 (.tmp 4) rfl w1.heap.size 0 rfl [.slice (some ⟨rg,0,none⟩) st.aX.length F,.slice (some ⟨ng,0,none⟩) st.aV.length D,.slice (some ⟨qg,0,none⟩) st.aW.length C] _ hR.o NC rfl bY ?_)
   | (refine QP rfl 50 (.tmp 6) rfl Q.heap.size 0 rfl V _ hJ.o NT rfl ?_ ?_;(rw[bK.o];exact cG)))
  refine eT.mono ?_;intro e w5 ho
  cases hx:xX (pO st.aV st.aX G) (iP st.aX 1) 0 []with
  | none=>
   rw[hx]at ho;obtain⟨rfl,U⟩:=ho;have cN:=fV (HE.o _ hx);have bM:=fV (bO.o.trans (qA U bO.o.size));clear hx U eT;go_wp2;go_ret2;rw[cN.o];exact⟨rfl,bM.o⟩
  | some ls=>
   rw[hx]at ho;obtain⟨cg,gL,rfl,hE,rL,U⟩:=ho;have cN:=fV (HE.o _ hx);have eL:=fV (A0.o _ hx);have bM:=fV (bO.o.trans (qA U bO.o.size));have N0:=U.size;have B1:=fV (nB hR.o U (by omega));have A2:=fV (nB hJ.o U rT.o);have qL:=fV (hH.o.below U (by omega));obtain⟨yb,zb,hC⟩:=KQ hE rL eL.o.k1;obtain⟨q1,q2,q3⟩:=eL.o.at;have hK:=Ov st.aX rg F cg ls.length G.length gL pg Y (.slice (some ⟨ng,0,none⟩) st.aV.length D) (.slice (some ⟨qg,0,none⟩) st.aW.length C) V.toArray (pA O).toArray (λ b=>O.getD b 0) yb zb (S4 ls) (Vj ls) (V7 ls) w5
    H0 qL.o (by omega) hD.o eL.o.l1 q1 E6 tT hC q2 q3 (by simp[nJ,aO.o]) (λ b hb=>by rw[OU,P8 _ _ (by rw[aO.o];exact hb),LC,LD (by rw[aO.o];exact hb)];rfl) (λ b hb=>D8 hY.o (by rw[aO.o];exact hb)) (by simpa using nN.o)
   clear hx U eT hC q1 q2 q3 hE;go_wp2_with (first
    | (refine QP rfl 44 (.tmp 4) rfl w1.heap.size 0 rfl [.slice (some ⟨rg,0,none⟩) st.aX.length F,.slice (some ⟨ng,0,none⟩) st.aV.length D,.slice (some ⟨qg,0,none⟩) st.aW.length C] _ B1.o NC rfl bY ?_)
    | (refine QP rfl 50 (.tmp 6) rfl Q.heap.size 0 rfl V _ A2.o NT rfl ?_ ?_;(rw[bK.o];exact cG)))
   refine hK.mono ?_;rintro e w6 ⟨rfl,hB⟩;have tL:=fV (bM.o.trans (qA hB bM.o.size));clear hB hK;go_wp2;go_ret2;rw[cN.o];exact⟨rfl,tL.o⟩
 ·obtain⟨rfl,rfl,rfl⟩:=eR hz;have HE:QO (pH t=([],kC t)):=by unfold QO pH;rw[aA hz]
  clear eN eR HA HF;have hd:(kC t !=0)=true:=by rw[aD];exact hz
  replace hz:=fV hz;generalize kC t=pc at*;go_wp2;go_ret2;rw[HE.o];exact⟨rfl,eO.o _⟩
