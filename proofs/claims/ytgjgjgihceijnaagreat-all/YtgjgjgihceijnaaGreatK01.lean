import Derived.WalkKit
import Derived.WalkSpells
import Derived.WalkLawsBesides
import Derived.Deep.MidRow
import Derived.Deep.WholeRow
import Derived.Laws.ResultCell
import Derived.Deep.AppendLies
import Derived.Deep.AppendSrc
import Derived.Test.YtgjgjgihceijnaaGreatChecked
import Derived.Deep.QuietTactic
import Derived.Deep.LoopGhost
import Derived.BigQuiet
import Derived.Laws.StructEq
import Derived.Deep.CutBlock
import Derived.Deep.RegionLaw
import Derived.Laws.Tables
import Derived.Great.BuildSlice
import Derived.Great.Ranges
import Derived.Deep.OwnRows
import Derived.Deep.DrawnRows
import Derived.Deep.RegionHeld3
import Derived.Deep.RegionWith
open Go.RowKit renaming ownsRow_setCell_below->QO,intOf->QP,Hid->QQ
open Go renaming wpList_load_mid->QR,wpList_store_mid->QS,all_oneCell_toArray->QT,info_parts->QU,madeCells->QV,heap_alloc_new->QW,wpList_make_own->QX,wpList_append_lies->QY,run_loadVar_mid->QZ,maxLen->RA,Calls->RC
open Go.World renaming cell?_of_block->LD,cell?_setCell_other->LF,frozen?_setCell->LH,cell?_setCell_same->LI,setCell->LO,cell?_alloc_new->LP,frozen?_of_block->LQ,ownsRow_nil->LU,rangeAt_setCells_same->MA,frozen?_alloc_new->ML,cell?_alloc_past->MY,news_of_block->NN,grownBy_alloc->OD,frozen?_alloc_past->OE,there_setCells->ON,cell?_alloc_at->PW,there_alloc->QB
open Go.Proofs.Tryz renaming zeroCells72->LG,prog->LM,zeroCells141->LZ,underlying72->MQ,underlying29->MW,ntmps111->NC,underlying59->NE,func111->NG,underlying222->NJ,zeroCells154->NY,results24->OV,ntmps118->OZ,func118->PG,ntmps80->PH,ntmps88->PK
open List renaming getElem?_eq_some_iff->LJ,getElem?_eq_getElem->LR,length_append->LS,getElem?_append_right->MC,getElem?_map->MD,replicate->ME,range->MI,length_singleton->MJ,getElem?_range->MN,map_congr_left->MO,mem_singleton->MS,getElem?_append_left->MT,mem_append->MU,getElem?_cons_succ->ND,getElem?_cons_zero->NO,range_succ_eq_map->NR,map_cons->NS,contains_iff_mem->NT,singleton_append->NU,append_assoc->NW,length_cons->OB,map_append->OF,getElem?_set_self->OH,getElem_mem->OJ,not_mem_nil->OK,getElem?_set_ne->OL,append_nil->OQ,length_nil->OR,nil_append->OS,mem_range->OU,map_toArray->PA,map_map->PC,mem_map->PE,range_succ->PM,getElem?_toArray->PQ,length_replicate->PT,set_append_right->PU,map_singleton->PX,set_cons_succ->PY,map_nil->PZ,take_add_one->QA,length->QD,length_set->QG
open Nat renaming lt_of_lt_of_le->LK,zero_add->LN,le_of_lt->MV,le_trans->NF,mul_le_mul->NI,le_succ->NK,add_mul->NQ,lt_succ_self->OC,not_lt_zero->OG,sub_self->OI,mul_le_mul_right->OM,mul_comm->PF,div_eq_of_lt->QC,mul_add_div->QH,add_comm->QJ,mod_one->QL
open Array renaming length_toList->LY,getElem?_eq_some_iff->NZ,getElem?_eq_getElem->OX,all_eq_true->OY,getElem?_eq_none->PB
open Go.RowKit.Below renaming heap_alloc->MB,heap_setCell->MR,refl->NB,alloc->QK
open Bool renaming and_eq_true->MF,eq_iff_iff->OO,or_self->QI
open Go.Value renaming oneCell'->MG,ownBlock->MH,int->MM,slice->MZ,string->NM,cells->PV,bool->QM,agg->QN
open Option renaming getD_some->NH,map_some->PN
open Int renaming natCast_add->OP,natCast_one->QF
open UInt8 renaming toNat_inj->PO
open ByteArray renaming empty->QE
open Go.Proofs.Tryz
set_option maxRecDepth 100000
set_option maxHeartbeats 8000000
namespace Go.Stn
theorem aA.{u}{c:Prop}{h:Decidable c}(n:¬c){α:Sort u}{t e:α}:ite c t e=e:=if_neg n
theorem aB.{u}{c:Prop}{h:Decidable c}(n:c){α:Sort u}{t e:α}:ite c t e=t:=if_pos n
theorem aC{α:Type _}[BEq α][LawfulBEq α]{a b:α}:(a==b)=false↔a≠b:=beq_eq_false_iff_ne
theorem aD{α:Type _}[BEq α][LawfulBEq α]{a b:α}:(a != b)=true↔a≠b:=bne_iff_ne
theorem aE{p:Prop}[Decidable p]:(decide p=true)=p:=decide_eq_true_eq
theorem aF{p:Prop}[Decidable p]:decide p=false↔¬p:=decide_eq_false_iff_not
open Go.RowKit
abbrev Bl(w v:World):Prop:=Below w.heap.size w v
theorem _root_.Go.RowKit.Hid.o{p:Prop}(h:QQ p):p:=h
theorem dT(a b:Nat)(h:a<b):decide ((a:Int)<(b:Int))=true:=by simp;omega
theorem dF(a b:Nat)(h:b<=a):decide ((a:Int)<(b:Int))=false:=by simp;omega
theorem iI(a b:Nat)(h:a<b):(0:Int)<=(a:Int)/\(a:Int)<(b:Int):=by omega
theorem sE{a:Nat}(h:0<a):∃d,a=d+1:=⟨a-1,by omega⟩
theorem xE{α:Sort _}(a:α):∃x,a=x:=⟨_,rfl⟩
theorem sJ{α:Type _}{a b:α}(h:some a=some b):a=b:=Option.some.inj h
theorem lR{a:Nat}:a<=a:=Nat.le_refl a
theorem zL{a:Nat}:0<=a:=Nat.zero_le a
theorem bR{B:Nat}{w:World}:Below B w w:=NB _ _
abbrev tB:=ByteArray
abbrev tW:=World
abbrev tV:=Value
variable {b n B aH size i j aX aM c lo hi ru cl g p d st f bb vg top st' i' L:Nat}{ty e:TypeId}{P:Program}{a:Act}{r:Option Nat}{ops:Array Oper}{rest:List Oper}{op:Oper}{most m:Int}{zs:List ((Nat×List Int)×Nat)}{H S T:List (Int×Int×Int)}{l:List Nat}
def gQ(f:Nat->Bool):List tV:=(MI 256).map λ i=>QM (f i)
theorem gM(f:Nat->Bool):(gQ f).length=256:=by simp[gQ]
theorem iJ(f:Nat->Bool):(gQ f).toArray.size=256:=by simp[gQ]
theorem wJ(f:Nat->Bool)(k:Nat)(h:k<256):(gQ f)[k]?=some (.bool (f k)):=by
 unfold gQ;rw[MD,MN h];rfl
theorem mB(f:Nat->Bool):∀v∈gQ f,v.oneCell'=true:=by
 intro v o;unfold gQ at o;rw[PE]at o;obtain⟨i,_,rfl⟩:=o
 rfl
theorem tJ{f g:Nat->Bool}(h:∀i,i<256->f i=g i):gQ f=gQ g:=by
 unfold gQ;exact MO (λ i hi=>by rw[h i (OU.1 hi)])
theorem Ag{w:tW}{f:Nat->Bool}(h:w.rangeAt b 0 (gQ f)){k:Nat}(F:k<256)(v:Bool):(w.setCell ⟨b,k,none⟩ (.bool v)).rangeAt b 0 (gQ λ i=>if i=k then v else f i):=by
 intro j u o;have C:j<256:=by have:=(LJ.1 o).1;rw[gM]at this;exact this
 rw[wJ _ _ C]at o;injection o with o;by_cases e:j=k
 ·subst e;rw[<-o,aB rfl,LN];have:=h j _ (wJ f j C);rw[LN]at this;exact LI _ _ _ this
 ·rw[<-o,aA e,LN,LF (h:=by intro D;injection D;omega)];have:=h j _ (wJ f j C);rw[LN]at this;exact this
theorem pM{w:tW}{o:Nat}(h:w.there b o n)(a:Addr)(v:tV):(w.setCell a v).there b o n:=by
 intro j I;obtain⟨D,F⟩:=h j I;refine⟨?_,by rw[LH];exact F⟩;obtain⟨u,J⟩:=Option.isSome_iff_exists.1 D;obtain⟨Q,C⟩:=cell?_setCell_some (p:=a) (x:=v) J;rw[C];rfl
theorem sG{w w':tW}{o:Nat}(h:w.there b o n)(C:Below B w w')(D:b<B):w'.there b o n:=by
 intro j J;obtain⟨F,I⟩:=h j J;exact⟨by rw[C.cell (p:=⟨b,o+j,none⟩) D];exact F,by rw[C.frozen (p:=⟨b,o+j,none⟩) D];exact I⟩
theorem nB{w w':tW}{o:Nat}{cs:List tV}(h:w.rangeAt b o cs)(C:Below B w w')(D:b<B):w'.rangeAt b o cs:=by
 intro j v F;rw[C.cell (p:=⟨b,o+j,none⟩) D];exact h j v F
theorem Yu(w:tW)(c:Array tV)(t:TypeId):(w.alloc (.cells c t)).there w.heap.size 0 c.size:=by
 intro j o;rw[LN,LP,ML];exact⟨by simp[o],rfl⟩
theorem pA(w:tW)(cs:List tV)(t:TypeId)(n:Nat)(h:cs.length=n):(w.alloc (.cells cs.toArray t)).there w.heap.size 0 n:=by
 intro j o;rw[LN,LP,ML];exact⟨by simp;omega,rfl⟩
theorem zG(w:tW)(cs:List tV)(t:TypeId):(w.alloc (.cells cs.toArray t)).rangeAt w.heap.size 0 cs:=by
 intro j v o;rw[LN,LP];simpa using o
theorem iD(w:tW)(c:Array tV)(t:TypeId)(B n:Nat)(h:c.size=n)(o:w.heap.size=B):(w.alloc (.cells c t)).there B 0 n:=by
 subst o;subst h;exact Yu w c t
theorem mE(w:tW)(c:Array tV)(t:TypeId):(w.alloc (.cells c t)).rangeAt w.heap.size 0 c.toList:=by
 intro j v o;rw[LN,LP];simpa using o
theorem Fi{C:Func}{p:Tmp}(h:C.results= #[.cell p ty])(o:Array tV)(P:Program)(w:tW):
  (results C o).run P w=((asAddr (o.getD p undef)).run P w).andThen λ a D=>(loadVar ty a).run P D:=by
 simp only[results,h];simp[Sem.run_bind,Result.andThen]
theorem lE{D:Func}{R:Ending->tW->Prop}{w:tW}{p:Tmp}(h:D.results= #[.cell p ty])(b o:Nat)(cs:List tV)(d:TypeDesc)
  (Q:a.tmps.getD p undef=.pointer (some ⟨b,o,none⟩)) (I:w.rangeAt b o cs) (U:P.underlying ty=some d) (J:d.isRow=true) (hi:(P.info? ty).map (·.size)=some cs.length)
  (C:a.defers=[]) (F:R (.returned (.agg cs.toArray)) w):bodyPost P D R .ret a w:=by
 refine bodyPost_ret (v:= .agg cs.toArray) ?_ C F;rw[Fi h,Q];simp[Result.andThen,asAddr,QZ w b o ty cs d I U J hi]
theorem jH{D:Func}{R:Ending->tW->Prop}{w:tW}{p u:Tmp}(h:D.results= #[.cell p ty,.tmp u])(b o:Nat)(cs:List tV)(d:TypeDesc)(v:tV)
  (Q:a.tmps.getD p undef=.pointer (some ⟨b,o,none⟩)) (V:a.tmps.getD u undef=v) (I:w.rangeAt b o cs) (U:P.underlying ty=some d) (J:d.isRow=true) (hi:(P.info? ty).map (·.size)=some cs.length)
  (C:a.defers=[]) (F:R (.returned (.tuple #[.agg cs.toArray,v])) w):bodyPost P D R .ret a w:=by
 refine bodyPost_ret (v:= .tuple #[.agg cs.toArray,v]) ?_ C F;rw[results_cell_tmp h,Q,V];simp[Result.andThen,asAddr,QZ w b o ty cs d I U J hi]
theorem gD{a b c:tW}(h:a.grownBy b r)(k:b.grownBy c r):a.grownBy c r:=
 ⟨k.os.trans h.os,k.tape.trans h.tape,k.output.trans h.output,NF h.size k.size,λ i hi o=>(k.block i (LK hi h.size) o).trans (h.block i hi o)⟩
theorem jZ{a w:tW}(h:a.grownBy w r)(n:Nat):a.grownBy (w.drewN n) r:=⟨h.os,h.tape,h.output,h.size,h.block⟩
theorem lP{a w:tW}(h:a.grownBy w (some b))(i:Nat)(v:tV):a.grownBy (w.setCell ⟨b,i,none⟩ v) (some b):=
 ⟨h.os,h.tape,h.output,by have:=h.size;simp[LO];omega,λ k C o=>(MR w ⟨b,i,none⟩ v k (by intro e;exact o (by rw[e]))).trans (h.block k C o)⟩
theorem Li{a w:tW}(h:a.grownBy w (some b))(o:b<=a.heap.size):Below b a w:=
 ⟨h.os,h.tape,h.output,h.size,λ k C=>h.block k (by omega) (by intro e;injection e;omega)⟩
theorem fY{w w':tW}{o:Nat}{cs:List tV}(h:w.rangeAt b o cs)(C:w'.heap[b]?=w.heap[b]?):w'.rangeAt b o cs:=λ j v D=>by
 rw[LD (w:=w) C];exact h j v D
theorem gJ{w w':tW}{o:Nat}(h:w.there b o n)(C:w'.heap[b]?=w.heap[b]?):w'.there b o n:=λ j D=>by
 rw[LD (w:=w) C,LQ (w:=w) C];exact h j D
theorem xR{w:tW}{Q:Exit->Act->tW->Prop}(C:op.guard=none)(ty:TypeId)(x y:Operand)(D:op.op=.store ty x y)
  (b o:Nat) (f:Nat->Bool) (I:a.eval x=.pointer (some ⟨b,o,none⟩)) (J:a.eval y=.agg (gQ f).toArray) (F:w.there b o 256) (hi:(P.info? ty).map (·.size)=some 256)
  (h:wpList P ops Q rest (a.put op.dst undef) (w.setCells b o (gQ f))):wpList P ops Q (op::rest) a w:=
 QS C ty x y D b o (gQ f).toArray I J (by rw[iJ];exact F) (by rw[iJ];exact hi) (QT (mB f)) h
theorem Y3{w:tW}{Q:Exit->Act->tW->Prop}(C:op.guard=none)(ty:TypeId)(x:Operand)(I:op.op=.load ty x)
  (b o:Nat) (f:Nat->Bool) (d:TypeDesc) (U:a.eval x=.pointer (some ⟨b,o,none⟩)) (D:w.rangeAt b o (gQ f)) (J:P.underlying ty=some d) (F:d.isRow=true) (hi:(P.info? ty).map (·.size)=some 256)
  (h:wpList P ops Q rest (a.put op.dst (.agg (gQ f).toArray)) w):wpList P ops Q (op::rest) a w:=
 QR C ty x I b o U (gQ f) d D J F (by rw[gM];exact hi) h
def T4(X:tW)(B:Nat):Nat->Bool:=λ i=>match X.cell? ⟨B,i,none⟩with
 | some (.bool b)=>b
 | _=>false
def Po(X:tW)(B:Nat):Prop:=X.rangeAt B 0 (gQ (T4 X B))
theorem Wc{X:tW}{f:Nat->Bool}(h:X.rangeAt B 0 (gQ f)):gQ (T4 X B)=gQ f/\Po X B:=by
 have e:gQ (T4 X B)=gQ f:=tJ (λ i hi=>by
  have:=h i _ (wJ f i hi);rw[LN]at this;unfold T4;rw[this])
 exact⟨e,by unfold Po;rw[e];exact h⟩
theorem gA{w:tW}{v:tV}{xs:List tV}(h:w.ownsRow aH e size v n xs):∃a aJ,v=.slice a n aJ:=by
 rcases h.2 with⟨rfl,rfl⟩|⟨g,aJ,_,rfl,_⟩
 ·exact⟨none,0,rfl⟩
 ·exact⟨_,aJ,rfl⟩
theorem gH{W w4:tW}{o:Obj}(hg:(W.alloc o).grownBy w4 r){k:Nat}(D:k<W.heap.size)(F:some k≠r):(∀i,w4.cell? ⟨k,i,none⟩=W.cell? ⟨k,i,none⟩)/\∀i,w4.frozen? ⟨k,i,none⟩=W.frozen? ⟨k,i,none⟩:=by
 have C:w4.heap[k]?=W.heap[k]? :=(hg.block k (by simp;omega) F).trans (MB W o k D);exact⟨λ i=>LD (w:=W) (a:=⟨k,i,none⟩) C,λ i=>LQ (w:=W) (a:=⟨k,i,none⟩) C⟩
theorem kA{a w:tW}(h:a.grownBy w r)(o:Obj):a.grownBy (w.alloc o) r:=gD h (OD w o r)
theorem iQ{a w:tW}(h:Below B a w)(o:a.heap.size<=B)(r:Option Nat):a.grownBy w r:=⟨h.os,h.tape,h.output,h.size,λ k C _=>h.block k (by omega)⟩
theorem fX{a:tW}:∀(vs:List tV)(o:Nat)(w:tW)(b:Nat),Below B a w->B<=b->Below B a (w.setCells b o vs):=by
 intro vs
 induction vs with
 | nil=>intro o w b h _;exact h
 | cons v r ih=>intro o w b h C;exact ih (o+1) _ b (h.setCell (p:=⟨b,o,none⟩) C v) C
theorem oJ{a w:tW}(h:a.grownBy w r)(b o:Nat)(vs:List tV)(F:a.heap.size<=b):a.grownBy (w.setCells b o vs) r:=by
 have C:Below a.heap.size w (w.setCells b o vs):=fX vs o w b bR F;exact⟨C.os.trans h.os,C.tape.trans h.tape,C.output.trans h.output,NF h.size C.size,λ k D I=>(C.block k D).trans (h.block k D I)⟩
theorem gB(w:tW){ops:Array Oper}{rest:List Oper}{o:Oper}{a:Act}{Q:Exit->Act->tW->Prop}(X:o.guard=none)(s x:Operand)(t:TypeId)
  (ho:o.op=.call {callee:= .builtin .append,args:= #[s,x],argTypes:= #[t,t]})
  (aH:Nat) (e:TypeId) (z:tV) (size C:Nat) (ht:P.underlying t=some (.slice e)) (D:(P.info? e).map (λ i=>(i.zero,i.size,i.bytes))=some (some z,size,C))
  (Z:z.cells.size=size) (Y:0<size) (V:C<=1000)
  (v:tV) (n:Nat) (xs:List tV) (cs:List tV) (J:TypeId) (hs:a.eval s=v) (I:w.ownsRow aH e size v n xs)
  (B:Nat) (hB:w.heap.size=B) (hx:a.eval x=.slice (some ⟨B,0,none⟩) 1 1) (hl:cs.length=size) (h1:∀u∈cs,u.oneCell'=true)
  (hn:n<=1000000000) (U:aH<=w.heap.size)
  (h:∀g aJ w',w'.ownsRow aH e size (.slice (some ⟨g,0,none⟩) (n+1) aJ) (n+1) (xs++cs)->(w.alloc (.cells cs.toArray J)).grownBy w' v.ownBlock->(v.ownBlock=some g\/g=w.heap.size+1)->g<w'.heap.size->
   wpList P ops Q rest (a.put o.dst (.slice (some ⟨g,0,none⟩) (n+1) aJ)) w'):wpList P ops Q (o::rest) a (w.alloc (.cells cs.toArray J)):=by
 subst hB;obtain⟨i,hi,hz,F,hb⟩:=QU D;refine QY _ X s x t ho aH e i z size C ht hi hz F hb Z Y v n xs hs (I.alloc _) ⟨w.heap.size,0,none⟩ 1 1 cs hx (by omega) ?_ h1 (by omega) (by unfold RA;omega) ?_ (by simp;omega) (w.heap.size+1) (by simp) h
 ·have:=NN (w:=w.alloc (.cells cs.toArray J)) (B:=w.heap.size) (cs:=cs.toArray) (t:=J) (fr:=(0,0)) (QW w _);simpa using this
 ·have:=NI (show n+1<=1000000001 by omega) V;omega
theorem sF(w:tW){ops:Array Oper}{o:Oper}{a:Act}{K:Act->tW->Prop}{Q:Exit->Act->tW->Prop}{E:Prop}(X:o.guard=none)(s x:Operand)(t:TypeId)
  (ho:o.op=.call {callee:= .builtin .append,args:= #[s,x],argTypes:= #[t,t]})
  (aH:Nat) (e:TypeId) (z:tV) (size C:Nat) (ht:P.underlying t=some (.slice e)) (D:(P.info? e).map (λ i=>(i.zero,i.size,i.bytes))=some (some z,size,C))
  (Z:z.cells.size=size) (Y:0<size) (V:C<=1000)
  (v:tV) (n:Nat) (xs:List tV) (cs:List tV) (J:TypeId) (hs:a.eval s=v) (I:w.ownsRow aH e size v n xs)
  (B:Nat) (hB:w.heap.size=B) (hx:a.eval x=.slice (some ⟨B,0,none⟩) 1 1) (hl:cs.length=size) (h1:∀u∈cs,u.oneCell'=true)
  (hn:n<=1000000000) (U:aH<=w.heap.size)
  (h:∀g aJ w',w'.ownsRow aH e size (.slice (some ⟨g,0,none⟩) (n+1) aJ) (n+1) (xs++cs)->(w.alloc (.cells cs.toArray J)).grownBy w' v.ownBlock->(v.ownBlock=some g\/g=w.heap.size+1)->g<w'.heap.size->
   K (a.put o.dst (.slice (some ⟨g,0,none⟩) (n+1) aJ)) w'):if Region.wanted o (yielded ops a.tmps)=true then Oper.wp P o a (w.alloc (.cells cs.toArray J)) K Q else E:=by
 subst hB;obtain⟨i,hi,hz,F,hb⟩:=QU D;refine step_append_lies _ X s x t ho aH e i z size C ht hi hz F hb Z Y v n xs hs (I.alloc _) ⟨w.heap.size,0,none⟩ 1 1 cs hx (by omega) ?_ h1 (by omega) (by unfold RA;omega) ?_ (by simp;omega) (w.heap.size+1) (by simp) h
 ·have:=NN (w:=w.alloc (.cells cs.toArray J)) (B:=w.heap.size) (cs:=cs.toArray) (t:=J) (fr:=(0,0)) (QW w _);simpa using this
 ·have:=NI (show n+1<=1000000001 by omega) V;omega
theorem Nd(w:tW)(t ty:TypeId)(aH:Nat)(e:TypeId)(z:tV)(size o:Nat)(J:P.underlying t=some (.slice e))(C:(P.info? e).map (λ i=>(i.zero,i.size,i.bytes))=some (some z,size,o))
  (v:tV) (n:Nat) (xs:List tV) (D:w.ownsRow aH e size v n xs):(Builtin.append_ #[t,t] ty #[v,.slice none 0 0]).run P w=.ok v w:=by
 obtain⟨i,hi,hz,I,hb⟩:=QU C;rcases D.2 with⟨rfl,rfl⟩|⟨g,aJ,U,rfl,V,hg,Z,X,Y,Q⟩
 ·simp[Builtin.append_,run_underlying J,sizeOf,typeInfo,hi,Builtin.lenOf,Builtin.firstCells]
 ·have h:=run_append_room_src (P:=P) w t t ty e i J hi g 0 n aJ (.slice none 0 0) 0 [] (Src.ofNil (size:=i.size) w J 0) (by omega) (λ j F=>by simp at F) (λ j F=>by simp at F);rw[h]
  rfl
theorem An(w:tW){ops:Array Oper}{rest:List Oper}{o:Oper}{a:Act}{Q:Exit->Act->tW->Prop}(I:o.guard=none)(s x:Operand)(t:TypeId)
  (U:o.op=.call {callee:= .builtin .append,args:= #[s,x],argTypes:= #[t,t]})
  (aH:Nat) (e:TypeId) (z:tV) (size C:Nat) (Y:P.underlying t=some (.slice e)) (D:(P.info? e).map (λ i=>(i.zero,i.size,i.bytes))=some (some z,size,C))
  (v:tV) (n:Nat) (xs:List tV) (X:a.eval s=v) (F:w.ownsRow aH e size v n xs) (Z:a.eval x=.slice none 0 0)
  (h:wpList P ops Q rest (a.put o.dst v) w):wpList P ops Q (o::rest) a w:=by
 refine wpList_plain I λ K J=>?_
 have V:=Nd (P:=P) w t o.type aH e z size C Y D v n xs F;unfold Oper.wp execOp;simp only[U,resolve,invoke,builtin,Sem.run_bind,Sem.run_pure,Result.andThen_ok,PA,NS,PZ,X,Z,V];exact J _ _ h
theorem yB(w:tW){ops:Array Oper}{rest:List Oper}{o:Oper}{a:Act}{Q:Exit->Act->tW->Prop}(Y:o.guard=none)(s x:Operand)(t:TypeId)
  (ho:o.op=.call {callee:= .builtin .append,args:= #[s,x],argTypes:= #[t,t]})
  (aH F:Nat) (e:TypeId) (z:tV) (size C:Nat) (ht:P.underlying t=some (.slice e)) (J:(P.info? e).map (λ i=>(i.zero,i.size,i.bytes))=some (some z,size,C))
  (aL:z.cells.size=size) (Z:0<size) (X:C<=1000)
  (v:tV) (n:Nat) (xs:List tV) (sv:tV) (m:Nat) (ys:List tV) (hs:a.eval s=v) (V:w.ownsRow aH e size v n xs)
  (hx:a.eval x=sv) (D:w.ownsRow F e size sv m ys) (h1:∀u∈ys,u.oneCell'=true) (hm:0<m)
  (hn:n+m<=1000000000) (I:aH<=w.heap.size)
  (h:∀g aJ w',w'.ownsRow aH e size (.slice (some ⟨g,0,none⟩) (n+m) aJ) (n+m) (xs++ys)->w.grownBy w' v.ownBlock->(v.ownBlock=some g\/g=w.heap.size)->g<w'.heap.size->
   wpList P ops Q rest (a.put o.dst (.slice (some ⟨g,0,none⟩) (n+m) aJ)) w'):wpList P ops Q (o::rest) a w:=by
 obtain⟨i,hi,hz,U,hb⟩:=QU J;obtain⟨g,aJ,rfl,aO,aR⟩:=D.form hm;refine QY _ Y s x t ho aH e i z size C ht hi hz U hb aL Z v n xs hs V ⟨g,0,none⟩ m aJ ys hx D.1 (D.cells rfl) h1 hm (by unfold RA;omega) ?_ I _ rfl h;have:=NI hn X;omega
theorem lN{a w w1:tW}{o:Obj}{v:tV}{xs:List tV}(h:Below B a w)(F:B<=w.heap.size)(D:w.ownsRow aH e size v n xs)(I:B<=aH)
  (hg:(w.alloc o).grownBy w1 v.ownBlock):Below B a w1:=
 (h.alloc F o).grown hg (by simp;omega) (λ k C=>by have:=D.lt k C;omega)
def bt(s:tB)(i:Nat):Nat:=(s.data.toList.getD i 0).toNat
theorem mT(s:tB)(i:Nat):bt s i<256:=by
 unfold bt;exact UInt8.toNat_lt _
theorem kL(s:tB)(i:Nat)(h:i<s.size):(s[i]).toNat=bt s i:=by
 unfold bt;have:i<s.data.toList.length:=by simpa using h
 rw[List.getD_eq_getElem?_getD,LR this]
 rfl
def kT(s:tB)(i n:Nat)(most:Int):Bool:=
 decide (i+n<=s.size)&&decide (∀j,j<n->(bt s (i+j):Int)<=most)
theorem If{s:tB}(h:s.size<i+n):kT s i n most=false:=by
 unfold kT;simp;omega
theorem oC{s:tB}(h:i+n<=s.size)(o:∀j,j<n->(bt s (i+j):Int)<=most):kT s i n most=true:=by
 unfold kT;simp[h];exact o
theorem Vf{s:tB}(o:j<n)(C:most<(bt s (i+j):Int)):kT s i n most=false:=by
 unfold kT;simp only[Bool.and_eq_false_iff,aF];right;intro h;have:=h j o;omega
def I4(s:tB)(aX aM n at_:Nat):Bool:=
 decide (bt s at_<=aX)&&decide (∀k,k<aM->bt s (at_+(k+1))<n\/bt s (at_+(k+1))=255)
def rX(s:tB)(aX aM i:Nat):Bool:=
 decide (i+1<=s.size)&&(decide (bt s i<=100)&&(decide (bt s i≠0)&&(decide (i+1+bt s i*(1+aM)<=s.size) &&
  decide (∀st,st<bt s i->I4 s aX aM (bt s i) (i+1+st*(1+aM))=true))))
theorem qJ{s:tB}{at_:Nat}:I4 s aX aM n at_=true↔
  bt s at_<=aX/\∀k,k<aM->bt s (at_+(k+1))<n\/bt s (at_+(k+1))=255:=by
 unfold I4;simp only[MF,aE]
theorem nJ{s:tB}:rX s aX aM i=true↔
  i+1<=s.size/\bt s i<=100/\bt s i≠0/\i+1+bt s i*(1+aM)<=s.size/\
   ∀st,st<bt s i->I4 s aX aM (bt s i) (i+1+st*(1+aM))=true:=by
 unfold rX;simp only[MF,aE]
def IR(s:tB)(aX aM i:Nat):Nat:=if rX s aX aM i=true then bt s i else 0
def tZ(s:tB)(aX aM i:Nat):Nat:=if rX s aX aM i=true then i+1+bt s i*(1+aM)else i
theorem Hn{s:tB}(h:¬(rX s aX aM i=true)):
  IR s aX aM i=0/\tZ s aX aM i=i/\rX s aX aM i=false:=by
 refine⟨?_,?_,?_⟩
 ·simp[IR,h]
 ·simp[tZ,h]
 ·simpa using h
theorem Ed{s:tB}(h:rX s aX aM i=true):
  IR s aX aM i=bt s i/\tZ s aX aM i=i+1+bt s i*(1+aM):=by
 refine⟨?_,?_⟩
 ·simp[IR,h]
 ·simp[tZ,h]
def iR(s:tB):Nat:=bt s 3
def iM(s:tB):Nat:=bt s (4+iR s)
def iK(s:tB):Nat:=bt s (5+iR s)+1
def pE(s:tB):Nat->Nat
 | 0=>262+iR s
 | c+1=>tZ s (iR s) (iK s) (pE s c)
def B0(s:tB):Bool:=
 decide (4<=s.size)&&(decide (bt s 0=83/\bt s 1=84/\bt s 2=1)&&(decide (1<=iR s)&&decide (iR s<=8)))
def xJ(s:tB):Bool:=kT s (4+iR s) 1 4&&decide (iM s≠0)
def zO(s:tB):Bool:=kT s 4 (iR s) (1+(iM s:Int))&&kT s (5+iR s) 1 255
def yH(s:tB):Bool:=kT s (6+iR s) 256 ((iK s:Int)-1)
def iF(s:tB):Bool:=
 B0 s&&(xJ s&&(zO s&&(yH s&&(decide (∀c,c<iM s->rX s (iR s) (iK s) (pE s c)=true)&&decide (pE s (iM s)=s.size)))))
theorem JM(s:tB):1<=iK s:=by unfold iK;omega
theorem Tj(s:tB):iK s<=256:=by unfold iK;have:=mT s (5+iR s);omega
theorem mM{s:tB}:iF s=true↔
  B0 s=true/\xJ s=true/\zO s=true/\yH s=true/\(∀c,c<iM s->rX s (iR s) (iK s) (pE s c)=true)/\pE s (iM s)=s.size:=by
 unfold iF;simp only[MF,aE]
theorem pJ{s:tB}:B0 s=true↔4<=s.size/\(bt s 0=83/\bt s 1=84/\bt s 2=1)/\1<=iR s/\iR s<=8:=by
 unfold B0;simp only[MF,aE]
theorem B3{s:tB}(h:rX s (iR s) (iK s) (pE s c)=true):
  pE s (c+1)=pE s c+1+bt s (pE s c)*(1+iK s)/\pE s (c+1)<=s.size:=by
 have o:pE s (c+1)=tZ s (iR s) (iK s) (pE s c):=rfl;rw[o,(Ed h).2];exact⟨rfl,(nJ.1 h).2.2.2.1⟩
theorem sA{s:tB}(h:kT s i n m=true):i+n<=s.size:=by
 unfold kT at h;simp only[MF,aE]at h;exact h.1
theorem yF{s:tB}(h:kT s i n m=true):∀j,j<n->(bt s (i+j):Int)<=m:=by
 unfold kT at h;simp only[MF,aE]at h;exact h.2
theorem Ws{s:tB}(h:B0 s=false):iF s=false:=by
 unfold iF;rw[h];rfl
theorem Wt{s:tB}(h:xJ s=false):iF s=false:=by
 unfold iF;rw[h];simp
theorem Wu{s:tB}(h:zO s=false):iF s=false:=by
 unfold iF;rw[h];simp
theorem Wv{s:tB}(h:yH s=false):iF s=false:=by
 unfold iF;rw[h];simp
theorem Qi{s:tB}(o:c<iM s)(h:rX s (iR s) (iK s) (pE s c)=false):iF s=false:=by
 cases hi:iF s with
 | false=>rfl
 | true=>rw[mM]at hi;rw[hi.2.2.2.2.1 c o]at h;cases h
def qZ(s:tB)(c:Nat):Nat:=bt s (pE s c)
def qC(s:tB)(c st:Nat):Nat:=pE s c+1+st*(1+iK s)
def tK(s:tB)(v:Nat):Nat:=bt s (6+iR s+v)
def iA(s:tB)(c st v:Nat):Nat:=bt s (qC s c st+1+tK s v)
def jM(s:tB)(c st:Nat):Nat:=bt s (qC s c st)
theorem kZ{s:tB}(h:iF s=true):iR s<=8/\1<=iR s/\1<=iM s/\iM s<=4/\6+iR s+256<=s.size:=by
 rw[mM]at h;have C:=pJ.1 h.1;have o:=h.2.1;unfold xJ at o;simp only[MF,aE]at o;have F:=yF o.1 0 (by omega);have D:=h.2.2.2.1;unfold yH at D;have:=sA D;have e:(bt s (4+iR s+0):Int)=(iM s:Int):=rfl;rw[e]at F;exact⟨C.2.2.2,C.2.2.1,by omega,by omega,by omega⟩
theorem wK{s:tB}(h:iF s=true)(v:Nat)(C:v<256):tK s v<iK s:=by
 rw[mM]at h;have o:=h.2.2.2.1;unfold yH at o;have:=yF o v C;unfold tK;omega
theorem B5{s:tB}(h:iF s=true){c:Nat}(o:c<iM s):rX s (iR s) (iK s) (pE s c)=true:=(mM.1 h).2.2.2.2.1 c o
theorem Rm{s:tB}(h:iF s=true){c st:Nat}(C:c<iM s)(o:st<qZ s c):qC s c st+iK s<s.size:=by
 have D:=nJ.1 (B5 h C);have F:=D.2.2.2.1;unfold qC qZ at*;have:st*(1+iK s)+(1+iK s)<=bt s (pE s c)*(1+iK s):=by
  have:=OM (1+iK s) (show st+1<=bt s (pE s c) from o);rw[NQ]at this;omega
 omega
theorem EV{s:tB}(h:iF s=true){c st v:Nat}(C:c<iM s)(o:st<qZ s c)(D:v<256):qC s c st+1+tK s v<s.size:=by
 have:=Rm h C o;have:=wK h v D;omega
theorem Iv{s:tB}(h:iF s=true){c st v:Nat}(D:c<iM s)(o:st<qZ s c)(I:v<256):iA s c st v<qZ s c\/iA s c st v=255:=by
 have F:=nJ.1 (B5 h D);have C:=F.2.2.2.2 st o;rw[qJ]at C;have:=C.2 (tK s v) (wK h v I);unfold iA qC qZ;have e:pE s c+1+st*(1+iK s)+(tK s v+1)=pE s c+1+st*(1+iK s)+1+tK s v:=by omega
 rw[e]at this;exact this
theorem Tu{s:tB}(h:iF s=true){c st:Nat}(D:c<iM s)(o:st<qZ s c):jM s c st<=iR s:=by
 have F:=nJ.1 (B5 h D);have C:=F.2.2.2.2 st o;rw[qJ]at C;exact C.1
theorem K5{s:tB}(h:iF s=true){c:Nat}(C:c<iM s):qZ s c<=100/\1<=qZ s c:=by
 have o:=nJ.1 (B5 h C);unfold qZ;have:=o.2.1;have:=o.2.2.1;omega
theorem Nf(s:tB)(c st:Nat):((pE s c+1:Nat):Int)+(st:Int)*(1+(iK s:Int))=(qC s c st:Int):=by
 unfold qC;simp
abbrev vY:=Nat×Bool
def iX(s:tB)(lo hi:Nat)(r:vY):Nat×vY:=
 if r.1<s.size then
  if bt s r.1<lo\/hi<bt s r.1 then(lo,(r.1+1,true))else(bt s r.1,(r.1+1,r.2))
 else(lo,(r.1,true))
def oN(s:tB)(hi:Nat):Nat->List Nat->vY->List Nat×vY
 | 0,l,r=>(l,r)
 | n+1,l,r=>oN s hi n (l++[(iX s 0 hi r).1]) (iX s 0 hi r).2
def rE(s:tB)(o:Nat)(r:vY):Int×vY:=
 if(iX s 0 255 r).1=255 then(-1,(iX s 0 255 r).2)
 else if o<=(iX s 0 255 r).1 then(((iX s 0 255 r).1:Int),((iX s 0 255 r).2.1,true))
 else(((iX s 0 255 r).1:Int),(iX s 0 255 r).2)
def oX(s:tB)(o:Nat):Nat->List Int->vY->List Int×vY
 | 0,l,r=>(l,r)
 | n+1,l,r=>oX s o n (l++[(rE s o r).1]) (rE s o r).2
def Au(s:tB)(aX o C:Nat):Nat->List (Nat×List Int)->vY->List (Nat×List Int)×vY
 | 0,l,r=>(l,r)
 | n+1,l,r=>Au s aX o C n (l++[((iX s 0 aX r).1,(oX s C o [] (iX s 0 aX r).2).1)]) (oX s C o [] (iX s 0 aX r).2).2
def rD(s:tB)(aX o:Nat)(r:vY):List (Nat×List Int)×vY:=
 Au s aX o (iX s 1 100 r).1 (iX s 1 100 r).1 [] (iX s 1 100 r).2
def pW(s:tB)(aX o:Nat):Nat->List (List (Nat×List Int))->vY->List (List (Nat×List Int))×vY
 | 0,l,r=>(l,r)
 | n+1,l,r=>pW s aX o n (l++[(rD s aX o r).1]) (rD s aX o r).2
def vF(l:List Nat)(m:Nat):Bool:=decide (∃x∈l,m<x)
def x7(s:tB):vY:=(iX s 1 1 (iX s 84 84 (iX s 83 83 (0,false)).2).2).2
def jU(s:tB):Nat:=(iX s 1 8 (x7 s)).1
def Wm(s:tB):vY:=(iX s 1 8 (x7 s)).2
def oG(s:tB):List Nat:=(oN s 5 (jU s) [] (Wm s)).1
def Nv(s:tB):vY:=(oN s 5 (jU s) [] (Wm s)).2
def xK(s:tB):Nat:=(iX s 1 4 (Nv s)).1
def Pw(s:tB):vY:=((iX s 1 4 (Nv s)).2.1,(iX s 1 4 (Nv s)).2.2||vF (oG s) (1+xK s))
def mV(s:tB):Nat:=1+(iX s 0 255 (Pw s)).1
def Tn(s:tB):vY:=(iX s 0 255 (Pw s)).2
def gP(s:tB):List Nat:=(oN s (mV s-1) 256 [] (Tn s)).1
def x8(s:tB):vY:=(oN s (mV s-1) 256 [] (Tn s)).2
def J8(s:tB):List (List (Nat×List Int)):=(pW s (jU s) (mV s) (xK s) [] (x8 s)).1
def Nw(s:tB):vY:=(pW s (jU s) (mV s) (xK s) [] (x8 s)).2
theorem Q7{s:tB}{r:vY}(h:lo<=hi):lo<=(iX s lo hi r).1/\(iX s lo hi r).1<=hi:=by
 unfold iX;split
 ·split
  ·exact⟨lR,h⟩
  ·rename_i o;simp only;omega
 ·exact⟨lR,h⟩
theorem lV{s:tB}{r:vY}(h:r.1<=s.size):(iX s lo hi r).2.1<=s.size:=by
 unfold iX;split
 ·split<;>simp only<;>omega
 ·exact h
theorem Q6{s:tB}{r:vY}(h:r.2=true):(iX s lo hi r).2.2=true:=by
 unfold iX;split
 ·split
  ·rfl
  ·exact h
 ·rfl
theorem kP{s:tB}{a:Nat}(h:a<s.size)(o:lo<=bt s a)(C:bt s a<=hi):iX s lo hi (a,false)=(bt s a,(a+1,false)):=by
 unfold iX;rw[aB h,aA (by simp only;omega)]
theorem pL{s:tB}{r:vY}(h:(iX s lo hi r).2.2=false):r.2=false/\r.1<s.size/\lo<=bt s r.1/\bt s r.1<=hi:=by
 unfold iX at h;split at h
 ·split at h
  ·cases h
  ·rename_i o C;exact⟨h,o,by omega,by omega⟩
 ·cases h
theorem Dc{s:tB}:∀n l r,r.1<=s.size->(oN s hi n l r).2.1<=s.size:=by
 intro n;induction n with
 | zero=>intro l r h;exact h
 | succ k ih=>intro l r h;exact ih _ _ (lV h)
theorem lQ{s:tB}:∀n l r,(oN s hi n l r).1.length=l.length+n:=by
 intro n;induction n with
 | zero=>intro l r;rfl
 | succ k ih=>intro l r;rw[oN,ih];simp;omega
theorem AF{s:tB}:∀n l r,(∀x∈l,x<=hi)->∀x∈(oN s hi n l r).1,x<=hi:=by
 intro n;induction n with
 | zero=>intro l r h;exact h
 | succ k ih=>
  intro l r h;refine ih _ _ (λ x C=>?_);rcases MU.1 C with o|o
  ·exact h x o
  ·rw[MS]at o;rw[o];exact(Q7 zL).2
theorem Dd{s:tB}:∀n l r,(oN s hi n l r).2.2=false->r.2=false/\(r.1<=s.size->r.1+n<=s.size)/\∀j,j<n->bt s (r.1+j)<=hi:=by
 intro n;induction n with
 | zero=>intro l r h;exact⟨h,λ h=>h,λ j J=>by omega⟩
 | succ k ih=>
  intro l r h;rw[oN]at h;obtain⟨I,o,C⟩:=ih _ _ h;obtain⟨D,F,Q,g4⟩:=pL I;have e:iX s 0 hi r=(bt s r.1,(r.1+1,false)):=by
   have:r=(r.1,false):=by rw[<-D]
   rw[this];exact kP F (by omega) g4
  rw[e]at o C;simp only at o C;refine⟨D,λ _=>by have:=o (by omega);omega,λ j J=>?_⟩
  cases j with
  | zero=>exact g4
  | succ m=>have:=C m (by omega);rw[show r.1+(m+1)=r.1+1+m by omega];exact this
theorem U9{s:tB}:∀n l a,a+n<=s.size->(∀j,j<n->bt s (a+j)<=hi)->oN s hi n l (a,false)=(l++(MI n).map (λ j=>bt s (a+j)),(a+n,false)):=by
 intro n;induction n with
 | zero=>intro l a _ _;simp[oN]
 | succ k ih=>
  intro l a C o;have e:=kP (s:=s) (lo:=0) (hi:=hi) (a:=a) (by omega) zL (o 0 (by omega));rw[oN,e];rw[ih _ _ (by omega) (λ j D=>by have:=o (j+1) (by omega);rw[show a+1+j=a+(j+1) by omega];exact this)];refine Prod.ext ?_ (by simp only;congr 1;omega);simp only[NW];congr 1;rw[NR];simp only[NS,PC];rw[NU];congr 1;refine MO (λ j _=>?_);simp only[Function.comp];rw[show a+1+j=a+(j+1) by omega]
def oL(x:Nat):Int:=if x=255 then -1 else(x:Int)
theorem Lu{s:tB}{r:vY}(h:r.1<=s.size):(rE s n r).2.1<=s.size:=by
 unfold rE;split
 ·exact lV h
 ·split<;>exact lV h
theorem Wj{s:tB}{r:vY}(h:r.2=true):(rE s n r).2.2=true:=by
 unfold rE;split
 ·exact Q6 h
 ·split
  ·rfl
  ·exact Q6 h
theorem Pt{s:tB}{r:vY}(h:(rE s n r).2.2=false):r.2=false/\r.1<s.size/\(bt s r.1<n\/bt s r.1=255):=by
 have hg:(iX s 0 255 r).2.2=false:=by
  unfold rE at h;split at h
  ·exact h
  ·split at h
   ·cases h
   ·exact h
 obtain⟨o,C,D,g4⟩:=pL hg;have e:iX s 0 255 r=(bt s r.1,(r.1+1,false)):=by
  have:r=(r.1,false):=by rw[<-o]
  rw[this];exact kP C (by omega) g4
 refine⟨o,C,?_⟩;unfold rE at h;rw[e]at h;simp only at h;split at h
 ·right;assumption
 ·split at h
  ·cases h
  ·left;omega
theorem Gm{s:tB}{a:Nat}(h:a<s.size)(C:bt s a<n\/bt s a=255):rE s n (a,false)=(oL (bt s a),(a+1,false)):=by
 have e:=kP (s:=s) (lo:=0) (hi:=255) (a:=a) h zL (by have:=mT s a;omega);unfold rE oL;rw[e];simp only;by_cases o:bt s a=255
 ·rw[aB o,aB o]
 ·rw[aA o,aA o,aA (by omega)]
theorem Wk{s:tB}:∀n l r,r.1<=s.size->(oX s c n l r).2.1<=s.size:=by
 intro n;induction n with
 | zero=>intro l r h;exact h
 | succ k ih=>intro l r h;exact ih _ _ (Lu h)
theorem Pu{s:tB}:∀n l r,r.2=true->(oX s c n l r).2.2=true:=by
 intro n;induction n with
 | zero=>intro l r h;exact h
 | succ k ih=>intro l r h;exact ih _ _ (Wj h)
theorem Lv{s:tB}:∀n l r,(oX s c n l r).2.2=false->r.2=false/\(r.1<=s.size->r.1+n<=s.size)/\∀j,j<n->bt s (r.1+j)<c\/bt s (r.1+j)=255:=by
 intro n;induction n with
 | zero=>intro l r h;exact⟨h,λ h=>h,λ j J=>by omega⟩
 | succ k ih=>
  intro l r h;rw[oX]at h;obtain⟨I,o,C⟩:=ih _ _ h;obtain⟨D,F,g4⟩:=Pt I;have e:rE s c r=(oL (bt s r.1),(r.1+1,false)):=by
   have:r=(r.1,false):=by rw[<-D]
   rw[this];exact Gm F g4
  rw[e]at o C;simp only at o C;refine⟨D,λ _=>by have:=o (by omega);omega,λ j J=>?_⟩
  cases j with
  | zero=>exact g4
  | succ m=>have:=C m (by omega);rw[show r.1+(m+1)=r.1+1+m by omega];exact this
theorem Pv{s:tB}:∀n l a,a+n<=s.size->(∀j,j<n->bt s (a+j)<c\/bt s (a+j)=255)->oX s c n l (a,false)=(l++(MI n).map (λ j=>oL (bt s (a+j))),(a+n,false)):=by
 intro n;induction n with
 | zero=>intro l a _ _;simp[oX]
 | succ k ih=>
  intro l a C o;have e:=Gm (s:=s) (n:=c) (a:=a) (by omega) (o 0 (by omega));rw[oX,e];rw[ih _ _ (by omega) (λ j D=>by have:=o (j+1) (by omega);rw[show a+1+j=a+(j+1) by omega];exact this)];refine Prod.ext ?_ (by simp only;congr 1;omega);simp only[NW];congr 1;rw[NR];simp only[NS,PC];rw[NU];congr 1;refine MO (λ j _=>?_);simp only[Function.comp];rw[show a+1+j=a+(j+1) by omega]
def Ji(s:tB)(o a:Nat):Nat×List Int:=(bt s a,(MI o).map λ k=>oL (bt s (a+(k+1))))
theorem GS{s:tB}:∀n l r,r.1<=s.size->(Au s ru cl c n l r).2.1<=s.size:=by
 intro n;induction n with
 | zero=>intro l r h;exact h
 | succ k ih=>intro l r h;exact ih _ _ (Wk _ _ _ (lV h))
theorem CG{s:tB}:∀n l r,r.2=true->(Au s ru cl c n l r).2.2=true:=by
 intro n;induction n with
 | zero=>intro l r h;exact h
 | succ k ih=>intro l r h;exact ih _ _ (Pu _ _ _ (Q6 h))
theorem BO{s:tB}{r:vY}(h:(oX s c cl [] (iX s 0 ru r).2).2.2=false):r.2=false/\r.1+1+cl<=s.size/\I4 s ru cl c r.1=true:=by
 obtain⟨I,o,C⟩:=Lv _ _ _ h;obtain⟨D,F,Q,g4⟩:=pL I;have e:iX s 0 ru r=(bt s r.1,(r.1+1,false)):=by
  have:r=(r.1,false):=by rw[<-D]
  rw[this];exact kP F (by omega) g4
 rw[e]at o C;simp only at o C;refine⟨D,o (by omega),qJ.2 ⟨g4,λ k J=>?_⟩⟩;have:=C k J;rw[show r.1+(k+1)=r.1+1+k by omega];exact this
theorem Uf{s:tB}{a:Nat}(h:a+1+cl<=s.size)(o:I4 s ru cl c a=true):
  iX s 0 ru (a,false)=(bt s a,(a+1,false))/\oX s c cl [] (a+1,false)=((Ji s cl a).2,(a+(1+cl),false)):=by
 obtain⟨C,D⟩:=qJ.1 o;refine⟨kP (by omega) (by omega) C,?_⟩;rw[Pv _ _ _ (by omega) (λ j F=>by have:=D j F;rw[show a+1+j=a+(j+1) by omega];exact this)];refine Prod.ext ?_ (by simp only;congr 1;omega);simp only[OS,Ji];refine MO (λ j _=>?_);rw[show a+1+j=a+(j+1) by omega]
theorem Ys{s:tB}:∀n l r,(Au s ru cl c n l r).2.2=false->r.2=false/\(r.1<=s.size->r.1+n*(1+cl)<=s.size)/\∀j,j<n->I4 s ru cl c (r.1+j*(1+cl))=true:=by
 intro n;induction n with
 | zero=>intro l r h;exact⟨h,λ h=>by omega,λ j V=>by omega⟩
 | succ k ih=>
  intro l r h;rw[Au]at h;obtain⟨U,o,C⟩:=ih _ _ h;obtain⟨F,Q,g4⟩:=BO U;have J:r=(r.1,false):=by rw[<-F]
  obtain⟨D,I⟩:=Uf Q g4;rw[<-J]at D;rw[D]at o C;simp only at o C;rw[I]at o C;simp only at o C;refine⟨F,λ _=>by have:=o (by omega);rw[NQ];omega,λ j V=>?_⟩
  cases j with
  | zero=>simpa using g4
  | succ m=>have:=C m (by omega);rw[show r.1+(m+1)*(1+cl)=r.1+(1+cl)+m*(1+cl) by rw[NQ];omega];exact this
theorem CH{s:tB}:∀n l a,a+n*(1+cl)<=s.size->(∀j,j<n->I4 s ru cl c (a+j*(1+cl))=true)->
  Au s ru cl c n l (a,false)=(l++(MI n).map (λ j=>Ji s cl (a+j*(1+cl))),(a+n*(1+cl),false)):=by
 intro n;induction n with
 | zero=>intro l a _ _;simp[Au]
 | succ k ih=>
  intro l a F o;rw[NQ]at F;obtain⟨C,D⟩:=Uf (s:=s) (ru:=ru) (cl:=cl) (c:=c) (a:=a) (by omega) (by simpa using o 0 (by omega));rw[Au,C];simp only;rw[D];simp only;rw[ih _ _ (by omega) (λ j I=>by have:=o (j+1) (by omega);rw[show a+(1+cl)+j*(1+cl)=a+(j+1)*(1+cl) by rw[NQ];omega];exact this)];refine Prod.ext ?_ (by simp only;congr 1;rw[NQ];omega);simp only[NW];congr 1;rw[NR];simp only[NS,PC];rw[NU];congr 1
  ·simp[Ji]
  refine MO (λ j _=>?_);simp only[Function.comp];rw[show a+(1+cl)+j*(1+cl)=a+(j+1)*(1+cl) by rw[NQ];omega]
theorem Ky{s:tB}{r:vY}(h:r.1<=s.size):(rD s ru cl r).2.1<=s.size:=GS _ _ _ (lV h)
theorem Gb{s:tB}{r:vY}(h:r.2=true):(rD s ru cl r).2.2=true:=CG _ _ _ (Q6 h)
theorem Oy{s:tB}{r:vY}(h:(rD s ru cl r).2.2=false):r.2=false/\rX s ru cl r.1=true:=by
 unfold rD at h;obtain⟨J,o,C⟩:=Ys _ _ _ h;obtain⟨D,F,I,g4⟩:=pL J;have e:iX s 1 100 r=(bt s r.1,(r.1+1,false)):=by
  have:r=(r.1,false):=by rw[<-D]
  rw[this];exact kP F I g4
 rw[e]at o C;simp only at o C;exact⟨D,nJ.2 ⟨by omega,g4,by omega,o (by omega),C⟩⟩
theorem Gc{s:tB}{a:Nat}(h:rX s ru cl a=true):rD s ru cl (a,false)=((MI (bt s a)).map (λ j=>Ji s cl (a+1+j*(1+cl))),(tZ s ru cl a,false)):=by
 obtain⟨F,o,I,C,D⟩:=nJ.1 h;have e:=kP (s:=s) (lo:=1) (hi:=100) (a:=a) (by omega) (by omega) o;unfold rD;rw[e];simp only;rw[CH _ _ _ C D,(Ed h).2];simp
theorem Vj{s:tB}:∀n l r,r.1<=s.size->(pW s ru cl n l r).2.1<=s.size:=by
 intro n;induction n with
 | zero=>intro l r h;exact h
 | succ k ih=>intro l r h;exact ih _ _ (Ky h)
theorem La{s:tB}:∀n l c r,r.1=pE s c->(pW s (iR s) (iK s) n l r).2.2=false->r.2=false/\(∀j,j<n->rX s (iR s) (iK s) (pE s (c+j))=true)/\(pW s (iR s) (iK s) n l r).2.1=pE s (c+n):=by
 intro n;induction n with
 | zero=>intro l c r C h;exact⟨h,λ j U=>by omega,C⟩
 | succ k ih=>
  intro l c r C h;rw[pW]at h ⊢;have o:(rD s (iR s) (iK s) r).2.2=false:=by
   cases hb:(rD s (iR s) (iK s) r).2.2 with
   | false=>rfl
   | true=>
    have:∀n l (r:vY),r.2=true->(pW s (iR s) (iK s) n l r).2.2=true:=by
     intro n;induction n with
     | zero=>intro l r h;exact h
     | succ k ih=>intro l r h;exact ih _ _ (Gb h)
    rw[this _ _ _ hb]at h;cases h
  obtain⟨F,D⟩:=Oy o;have I:r=(r.1,false):=by rw[<-F]
  have e:=Gc D;rw[<-I,C]at e;obtain⟨V,J,Q⟩:=ih (l++[(rD s (iR s) (iK s) r).1]) (c+1) (rD s (iR s) (iK s) r).2 (by rw[e];rfl) h;refine⟨F,λ j U=>?_,by rw[Q];congr 1;omega⟩
  cases j with
  | zero=>rw[C]at D;exact D
  | succ m=>have:=J m (by omega);rw[show c+(m+1)=c+1+m by omega];exact this
theorem Pb{s:tB}:∀n l c,(∀j,j<n->rX s (iR s) (iK s) (pE s (c+j))=true)->
  pW s (iR s) (iK s) n l (pE s c,false)=(l++(MI n).map (λ j=>(MI (qZ s (c+j))).map λ st=>Ji s (iK s) (qC s (c+j) st)),(pE s (c+n),false)):=by
 intro n;induction n with
 | zero=>intro l c _;simp[pW]
 | succ k ih=>
  intro l c h;have e:=Gc (h 0 (by omega));rw[Nat.add_zero]at e;rw[pW,e];simp only;have o:tZ s (iR s) (iK s) (pE s c)=pE s (c+1):=rfl;rw[o,ih _ _ (λ j C=>by have:=h (j+1) (by omega);rw[show c+1+j=c+(j+1) by omega];exact this)];refine Prod.ext ?_ (by simp only;congr 2;omega);simp only[NW];congr 1;rw[NR];simp only[NS,PC];rw[NU];refine congr (congrArg List.cons rfl) ?_;refine MO (λ j _=>?_);simp only[Function.comp];rw[show c+1+j=c+(j+1) by omega]
theorem lD(w:tW){ops:Array Oper}{rest:List Oper}{o:Oper}{a:Act}{Q:Exit->Act->tW->Prop}(U:o.guard=none)(s x:Operand)(t:TypeId)
  (Z:o.op=.call {callee:= .builtin .append,args:= #[s,x],argTypes:= #[t,t]})
  (aH:Nat) (e:TypeId) (z:tV) (size C:Nat) (ht:P.underlying t=some (.slice e)) (D:(P.info? e).map (λ i=>(i.zero,i.size,i.bytes))=some (some z,size,C))
  (g k aJ:Nat) (xs cs:List tV) (J:TypeId) (hs:a.eval s=.slice (some ⟨g,0,none⟩) k aJ) (I:w.ownsRow aH e size (.slice (some ⟨g,0,none⟩) k aJ) k xs)
  (B:Nat) (X:w.heap.size=B) (hx:a.eval x=.slice (some ⟨B,0,none⟩) 1 1) (hl:cs.length=size) (V:∀u∈cs,u.oneCell'=true) (Y:k+1<=aJ)
  (h:∀w',w'.ownsRow aH e size (.slice (some ⟨g,0,none⟩) (k+1) aJ) (k+1) (xs++cs)->(w.alloc (.cells cs.toArray J)).grownBy w' (some g)->
   wpList P ops Q rest (a.put o.dst (.slice (some ⟨g,0,none⟩) (k+1) aJ)) w'):wpList P ops Q (o::rest) a (w.alloc (.cells cs.toArray J)):=by
 subst X;obtain⟨i,hi,hz,F,hb⟩:=QU D;refine wpList_append_fits _ U s x t Z aH e i size ht hi F g k aJ xs hs (I.alloc _) ⟨w.heap.size,0,none⟩ 1 1 cs hx (by omega) ?_ V Y h;have:=NN (w:=w.alloc (.cells cs.toArray J)) (B:=w.heap.size) (cs:=cs.toArray) (t:=J) (fr:=(0,0)) (QW w _);simpa using this
theorem U0{a w w':tW}(h:a.grownBy w r)(k:w.grownBy w' (some B))(C:a.heap.size<=B):a.grownBy w' r:=
 ⟨k.os.trans h.os,k.tape.trans h.tape,k.output.trans h.output,NF h.size k.size,λ i hi o=>(k.block i (LK hi h.size) (by intro e;injection e;omega)).trans (h.block i hi o)⟩
theorem T9{a w:tW}(h:a.grownBy w none)(r:Option Nat):a.grownBy w r:=⟨h.os,h.tape,h.output,h.size,λ i hi _=>h.block i hi (by simp)⟩
def oY(l:List Nat):List tV:=l.map λ(x:Nat)=>MM .i64 (x:Int)
def pQ(l:List Int):List tV:=l.map λ(x:Int)=>MM .i64 x
theorem sC(l:List Nat)(x:Nat):oY (l++[x])=oY l++[.int .i64 (x:Int)]:=by simp[oY]
theorem tP(l:List Int)(x:Int):pQ (l++[x])=pQ l++[.int .i64 x]:=by simp[pQ]
def Jw(cl:Nat)(zs:List ((Nat×List Int)×Nat)):List tV:=zs.flatMap λ z=>[MM .i64 (z.1.1:Int),MZ (some ⟨z.2,0,none⟩) cl cl]
theorem Nr(cl:Nat)(zs:List ((Nat×List Int)×Nat))(z:(Nat×List Int)×Nat):Jw cl (zs++[z])=Jw cl zs++[MM .i64 (z.1.1:Int),MZ (some ⟨z.2,0,none⟩) cl cl]:=by simp[Jw]
def pN(w:tW)(lo:Nat)(zs:List ((Nat×List Int)×Nat)):Prop:=∀z∈zs,lo<=z.2/\z.2<w.heap.size/\w.rangeAt z.2 0 (pQ z.1.2)
theorem pN.grown{w w':tW}(h:pN w lo zs)(hg:w.grownBy w' (some g))(I:g<lo):pN w' lo zs:=λ z F=>by
 obtain⟨C,o,D⟩:=h z F;exact⟨C,LK o hg.size,fY D (hg.block z.2 o (by intro e;injection e;omega))⟩
theorem pN.nil(w:tW)(lo:Nat):pN w lo []:=λ _ o=>absurd o (OK)
theorem pN.snoc{w:tW}{z:(Nat×List Int)×Nat}(h:pN w lo zs)(C:lo<=z.2/\z.2<w.heap.size/\w.rangeAt z.2 0 (pQ z.1.2)):pN w lo (zs++[z]):=λ y D=>by
 rcases MU.1 D with o|o
 ·exact h y o
 ·rw[MS]at o;rw[o];exact C
theorem pN.below{w w':tW}(h:pN w lo zs)(hg:RowKit.Below B w w')(I:w.heap.size<=B):pN w' lo zs:=λ z F=>by
 obtain⟨o,C,D⟩:=h z F;exact⟨o,LK C hg.size,fY D (hg.block z.2 (by omega))⟩
theorem nV{w:tW}{e k aJ:Nat}{xs:List tV}(h:w.ownsRow aH e 1 (.slice (some ⟨g,0,none⟩) k aJ) k xs):w.rangeAt g 0 xs:=λ j v C=>by
 have:=h.cells rfl j v C;by_cases o:j=0
 ·subst o;simpa[Addr.add]using this
 ·simpa[Addr.add,o]using this
def oO(s aI:tB)(c p:Nat):Nat->Option Nat
 | 0=>some 0
 | d+1=>match oO s aI c p d with
  | none=>none
  | some st=>if iA s c st (bt aI (p+d))=255 then none else some (iA s c st (bt aI (p+d)))
def zP(s aI:tB)(c p d:Nat):Option Nat:=
 match oO s aI c p d with
 | none=>none
 | some st=>if 0<jM s c st then some (jM s c st-1)else none
def sN(s aI:tB)(c p:Nat):Nat->Int×Nat
 | 0=>(-1,p)
 | d+1=>match zP s aI c p (d+1)with
  | some r=>((r:Int),p+(d+1))
  | none=>sN s aI c p d
theorem Am{s aI:tB}(h:oO s aI c p d=some st):
  oO s aI c p (d+1)=if iA s c st (bt aI (p+d))=255 then none else some (iA s c st (bt aI (p+d))):=by
 rw[oO,h]
theorem Nt{s aI:tB}(h:oO s aI c p j=none):∀d,j<=d->oO s aI c p d=none:=by
 intro d o
 induction d with
 | zero=>
  have:j=0:=by omega
  subst this;exact h
 | succ n ih=>
  by_cases e:j=n+1
  ·rw[<-e];exact h
  ·rw[oO,ih (by omega)]
theorem yS{s aI:tB}(hi:iF s=true){c p:Nat}(o:c<iM s):∀d st,oO s aI c p d=some st->st<qZ s c:=by
 intro d
 induction d with
 | zero=>intro st h;rw[oO]at h;have:=(K5 hi o).2;simp at h;omega
 | succ n ih=>
  intro st h
  cases h2:oO s aI c p n with
  | none=>rw[oO,h2]at h;cases h
  | some t=>
   rw[Am h2]at h;split at h
   ·cases h
   ·rcases Iv hi o (ih t h2) (mT aI (p+n))with C|C
    ·simp at h;omega
    ·contradiction
theorem K2{s aI:tB}(h:zP s aI c p (d+1)=none):sN s aI c p (d+1)=sN s aI c p d:=by
 rw[sN,h]
theorem Cs{s aI:tB}{r:Nat}(h:zP s aI c p (d+1)=some r):sN s aI c p (d+1)=((r:Int),p+(d+1)):=by
 rw[sN,h]
theorem Sq{s aI:tB}(h:oO s aI c p d=none):zP s aI c p d=none:=by
 unfold zP;rw[h]
theorem CK{s aI:tB}(h:oO s aI c p d=some st)(o:jM s c st=0):zP s aI c p d=none:=by
 unfold zP;rw[h];simp[o]
theorem Yw{s aI:tB}(h:oO s aI c p d=some st)(o:0<jM s c st):zP s aI c p d=some (jM s c st-1):=by
 unfold zP;rw[h];simp[o]
def sV(l:List (Int×Int×Int))(x:Int×Int×Int):Bool:=l.contains x
def Fe(s aI:tB)(c p:Nat):Int×Nat:=sN s aI c p (aI.size-p)
def uR(c st i:Nat):Int×Int×Int:=((c:Int),(st:Int),(i:Int))
def pF(s aI:tB)(c:Nat)(H:List (Int×Int×Int)):Nat->Nat->Nat->List (Int×Int×Int)->Nat->List (Int×Int×Int)×Nat
 | 0,_,_,S,n=>(S,n)
 | d+1,st,i,S,n=>
  if sV H (uR c st i)=true then(S,n)
  else if iA s c st (bt aI i)=255 then(S++[uR c st i],n+1)
  else pF s aI c H d (iA s c st (bt aI i)) (i+1) (if 0<jM s c (iA s c st (bt aI i))then []else S++[uR c st i]) (n+1)
theorem C0{s aI:tB}(h:sV H (uR c st i)=true):pF s aI c H (d+1) st i S n=(S,n):=by
 rw[pF,aB h]
theorem xY{s aI:tB}{c d st i n:Nat}{H S:List (Int×Int×Int)}(h:sV H (uR c st i)=false)(o:iA s c st (bt aI i)=255):
  pF s aI c H (d+1) st i S n=(S++[uR c st i],n+1):=by
 rw[pF,aA (by rw[h];decide),aB o]
theorem C1{s aI:tB}{c d st i n:Nat}{H S:List (Int×Int×Int)}(h:sV H (uR c st i)=false)(o:iA s c st (bt aI i)≠255)(C:0<jM s c (iA s c st (bt aI i))):
  pF s aI c H (d+1) st i S n=pF s aI c H d (iA s c st (bt aI i)) (i+1) [] (n+1):=by
 rw[pF,aA (by rw[h];decide),aA o,aB C]
theorem K3{s aI:tB}{c d st i n:Nat}{H S:List (Int×Int×Int)}(h:sV H (uR c st i)=false)(o:iA s c st (bt aI i)≠255)(C:jM s c (iA s c st (bt aI i))=0):
  pF s aI c H (d+1) st i S n=pF s aI c H d (iA s c st (bt aI i)) (i+1) (S++[uR c st i]) (n+1):=by
 rw[pF,aA (by rw[h];decide),aA o,aA (by omega)]
def iE(s aI:tB)(c:Nat)(H:List (Int×Int×Int))(p:Nat):List (Int×Int×Int)×Nat:=pF s aI c H (aI.size-p) 0 p [] 0
theorem Wo{s aI:tB}:∀d st i S n,(pF s aI c H d st i S n).1.length<=S.length+d/\(pF s aI c H d st i S n).2<=n+d:=by
 intro d
 induction d with
 | zero=>intro st i S n;simp[pF]
 | succ e ih=>
  intro st i S n;rw[pF];split
  ·exact⟨by simp only;omega,by simp only;omega⟩
  ·split
   ·simp
   ·have:=ih (iA s c st (bt aI i)) (i+1) (if 0<jM s c (iA s c st (bt aI i))then []else S++[uR c st i]) (n+1);split at this
    ·rename_i o;rw[aB o];simp at this⊢;omega
    ·rename_i o;rw[aA o];simp at this⊢;omega
def nC(s:tB)(r:Nat):Nat:=bt s (4+r)
def yP(s aI:tB):Nat->Nat->Nat->List (Int×Int×Int)->Nat->List (Int×Int×Int)->List (Int×Int×Int)×Nat×Nat
 | 0,_,c,_,n,T=>(T,n,c)
 | f+1,p,c,H,n,T=>
  if p<aI.size then
   if(Fe s aI c p).1= -1 then(T++[(-1,(p:Int),(p:Int))],n+(iE s aI c H p).2,c)
   else yP s aI f (Fe s aI c p).2 (if 1<nC s (Fe s aI c p).1.toNat then nC s (Fe s aI c p).1.toNat-2 else c) (H++(iE s aI c H p).1) (n+(iE s aI c H p).2)
    (if nC s (Fe s aI c p).1.toNat=1 then T else T++[((Fe s aI c p).1,(p:Int),((Fe s aI c p).2:Int))])
  else(T,n,c)
def pX(s aI:tB)(c:Nat):List (Int×Int×Int)×Nat×Nat:=yP s aI (aI.size+1) 0 c [] 0 []
theorem Ma{s aI:tB}(hi:iF s=true){c p:Nat}(C:c<iM s):∀d,sN s aI c p d=(-1,p)\/∃r q:Nat,sN s aI c p d=((r:Int),q)/\r<iR s/\p<q/\q<=p+d:=by
 intro d
 induction d with
 | zero=>exact .inl rfl
 | succ e ih=>
  cases ht:zP s aI c p (e+1)with
  | none=>
   rw[K2 ht];rcases ih with h|⟨r,q,D,F,I,J⟩
   ·exact .inl h
   ·exact .inr ⟨r,q,D,F,I,by omega⟩
  | some r=>
   right;refine⟨r,p+(e+1),Cs ht,?_,by omega,by omega⟩;unfold zP at ht;split at ht
   ·cases ht
   ·rename_i st o;split at ht
    ·rename_i Q;have:=Tu hi C (yS hi C _ _ o);simp at ht;omega
    ·cases ht
theorem yK{s aI:tB}(hi:iF s=true){c p:Nat}(F:c<iM s)(J:p<=aI.size):Fe s aI c p=(-1,p)\/∃r q:Nat,Fe s aI c p=((r:Int),q)/\r<iR s/\p<q/\q<=aI.size:=by
 unfold Fe;rcases Ma hi F (aI:=aI) (p:=p) (aI.size-p)with h|⟨r,q,o,C,D,I⟩
 ·exact .inl h
 ·exact .inr ⟨r,q,o,C,D,by omega⟩
theorem vX{s:tB}(hi:iF s=true){r:Nat}(C:r<iR s):nC s r<=1+iM s:=by
 have o:=(mM.1 hi).2.2.1;unfold zO at o;simp only[MF]at o;have:=yF o.1 r C;unfold nC;omega
theorem yQ{s aI:tB}(h:¬p<aI.size):yP s aI (f+1) p c H n T=(T,n,c):=by
 rw[yP,aA h]
theorem wB{s aI:tB}{f p c n:Nat}{H T:List (Int×Int×Int)}(h:p<aI.size)(o:Fe s aI c p=(-1,p)):
  yP s aI (f+1) p c H n T=(T++[(-1,(p:Int),(p:Int))],n+(iE s aI c H p).2,c):=by
 rw[yP,aB h,o,aB rfl]
theorem wC{s aI:tB}{f p c n r q:Nat}{H T:List (Int×Int×Int)}(h:p<aI.size)(o:Fe s aI c p=((r:Int),q)):
  yP s aI (f+1) p c H n T=yP s aI f q (if 1<nC s r then nC s r-2 else c) (H++(iE s aI c H p).1) (n+(iE s aI c H p).2)
   (if nC s r=1 then T else T++[((r:Int),(p:Int),(q:Int))]):=by
 rw[yP,aB h,o,aA (by simp)];simp
theorem Xz{s aI:tB}(hi:iF s=true):∀(f f':Nat) {p c n:Nat}{H T:List (Int×Int×Int)},c<iM s->aI.size-p<f->aI.size-p<f'->yP s aI f p c H n T=yP s aI f' p c H n T:=by
 intro f
 induction f with
 | zero=>intro f' p c n H T _ h;omega
 | succ e ih=>
  intro f' p c n H T I h U;obtain⟨F,rfl⟩:∃F,f'=F+1:=⟨f'-1,by omega⟩
  by_cases o:p<aI.size
  ·rcases yK hi I (MV o)with D|⟨r,q,C,Q,J,V⟩
   ·rw[wB o D,wB o D]
   ·rw[wC o C,wC o C];have:=vX hi Q;exact ih F (by split<;>omega) (by omega) (by omega)
  ·rw[yQ o,yQ o]
theorem P7{s aI:tB}{c p:Nat}{H:List (Int×Int×Int)}:(iE s aI c H p).1.length<=aI.size-p/\(iE s aI c H p).2<=aI.size-p:=by
 have:=Wo (s:=s) (aI:=aI) (c:=c) (H:=H) (aI.size-p) 0 p [] 0;unfold iE;simp at this;exact this
theorem Pa{s:tB}:∀n l (r:vY),r.2=true->(pW s ru cl n l r).2.2=true:=by
 intro n;induction n with
 | zero=>intro l r h;exact h
 | succ k ih=>intro l r h;exact ih _ _ (Gb h)
theorem AO{m:Nat}(h:vF l m=false):∀x∈l,x<=m:=by
 intro x C;unfold vF at h;rw[aF]at h;exact Nat.le_of_not_lt (λ o=>h ⟨x,C,o⟩)
theorem AP{m:Nat}(h:∀x∈l,x<=m):vF l m=false:=by
 unfold vF;rw[aF];rintro⟨x,o,C⟩;have:=h x o;omega
structure Zn(s:tB):Prop where
 r3:x7 s=(3,false)
 ru:jU s=iR s
 r4:Wm s=(4,false)
 be:oG s=(MI (iR s)).map (nC s)
 r5:Nv s=(4+iR s,false)
 mn:xK s=iM s
 r6:Pw s=(5+iR s,false)
 cl:mV s=iK s
 r7:Tn s=(6+iR s,false)
 co:gP s=(MI 256).map (tK s)
 r8:x8 s=(pE s 0,false)
theorem Gh{s:tB}(h0:4<=s.size)(C:bt s 0=83/\bt s 1=84/\bt s 2=1)(hr:1<=iR s/\iR s<=8)
  (o:4+iR s<=s.size/\∀j,j<iR s->nC s j<=5) (D:4+iR s<s.size/\1<=iM s/\iM s<=4) (ho:∀j,j<iR s->nC s j<=1+iM s)
  (hk:5+iR s<s.size) (hc:6+iR s+256<=s.size/\∀j,j<256->tK s j<=iK s-1):Zn s:=by
 have e0:iX s 83 83 (0,false)=(83,(1,false)):=by rw[kP (by omega) (by omega) (by omega),C.1]
 have e1:iX s 84 84 (1,false)=(84,(2,false)):=by rw[kP (by omega) (by omega) (by omega),C.2.1]
 have e2:iX s 1 1 (2,false)=(1,(3,false)):=by rw[kP (by omega) (by omega) (by omega),C.2.2]
 have F:x7 s=(3,false):=by unfold x7;rw[e0];simp only;rw[e1];simp only;rw[e2]
 have X:iX s 1 8 (3,false)=(iR s,(4,false)):=kP (by omega) hr.1 hr.2;have ru:jU s=iR s:=by unfold jU;rw[F,X]
 have I:Wm s=(4,false):=by unfold Wm;rw[F,X]
 have Y:=U9 (s:=s) (hi:=5) (iR s) [] 4 o.1 o.2;have V:oG s=(MI (iR s)).map (nC s):=by unfold oG;rw[ru,I,Y];rfl
 have J:Nv s=(4+iR s,false):=by unfold Nv;rw[ru,I,Y]
 have Z:iX s 1 4 (4+iR s,false)=(iM s,(4+iR s+1,false)):=kP D.1 D.2.1 D.2.2;have mn:xK s=iM s:=by unfold xK;rw[J,Z]
 have ov:vF (oG s) (1+xK s)=false:=AP (λ x hx=>by
  rw[V,PE]at hx;obtain⟨j,hj,rfl⟩:=hx;rw[mn];exact ho j (OU.1 hj))
 have Q:Pw s=(5+iR s,false):=by unfold Pw;rw[J,Z,ov];simp only[QI];congr 1;omega
 have e6:iX s 0 255 (5+iR s,false)=(bt s (5+iR s),(5+iR s+1,false)):=kP hk (by omega) (by have:=mT s (5+iR s);omega);have cl:mV s=iK s:=by unfold mV;rw[Q,e6];unfold iK;simp only;omega
 have U:Tn s=(6+iR s,false):=by unfold Tn;rw[Q,e6];simp only;congr 1;omega
 have e7:=U9 (s:=s) (hi:=iK s-1) 256 [] (6+iR s) hc.1 hc.2;have co:gP s=(MI 256).map (tK s):=by unfold gP;rw[cl,U,e7];simp only[OS];exact MO (λ j _=>rfl)
 have ea:6+iR s+256=pE s 0:=by show _=262+iR s;omega
 have r8:x8 s=(pE s 0,false):=by unfold x8;rw[cl,U,e7,ea]
 exact⟨F,ru,I,V,J,mn,Q,cl,U,co,r8⟩
theorem B4{s:tB}(h:iF s=true):Zn s:=by
 obtain⟨D,F,I,J,Q⟩:=kZ h;have C:=pJ.1 (mM.1 h).1;refine Gh C.1 C.2.1 ⟨F,D⟩ ⟨by omega,λ j o=>by have:=vX h o;omega⟩ ⟨by omega,I,J⟩ (λ j o=>vX h o) (by omega) ⟨Q,λ j o=>by have:=wK h j o;omega⟩
def Bz(s:tB)(c:Nat):List (Nat×List Int):=(MI (qZ s c)).map λ st=>Ji s (iK s) (qC s c st)
theorem Gi{s:tB}(h:iF s=true):J8 s=(MI (iM s)).map (Bz s)/\Nw s=(s.size,false):=by
 have o:=B4 h;have e:=Pb (s:=s) (iM s) [] 0 (λ j C=>by rw[LN];exact B5 h C);refine⟨?_,?_⟩
 ·unfold J8;rw[o.ru,o.cl,o.mn,o.r8,e];simp only[OS];refine MO (λ j _=>?_);rw[LN];rfl
 ·unfold Nw;rw[o.ru,o.cl,o.mn,o.r8,e,LN,(mM.1 h).2.2.2.2.2]
theorem BJ{s:tB}(h:(Nw s).2=false)(hs:(Nw s).1=s.size):iF s=true:=by
 have h8:(x8 s).2=false:=by
  cases hb:(x8 s).2 with
  | false=>rfl
  | true=>unfold Nw at h;rw[Pa _ _ _ hb]at h;cases h
 obtain⟨h7,F,c7⟩:=Dd _ _ _ h8;obtain⟨h6,p6,a6,b6⟩:=pL h7;have o:=h6;unfold Pw at o;simp only[Bool.or_eq_false_iff]at o;obtain⟨h5,p5,X,Z⟩:=pL o.1;obtain⟨h4,D,c4⟩:=Dd _ _ _ h5;obtain⟨h3,p3,V,Y⟩:=pL h4;obtain⟨h2,U,I,b2⟩:=pL h3;obtain⟨h1,p1,a1,b1⟩:=pL h2;obtain⟨h0,p0,a0,b0⟩:=pL h1;simp only at p0 a0 b0;have e0:iX s 83 83 (0,false)=(bt s 0,(1,false)):=kP (by omega) (by omega) (by omega);rw[e0]at p1 a1 b1;simp only at p1 a1 b1;have e1:iX s 84 84 (1,false)=(bt s 1,(2,false)):=kP p1 a1 b1;rw[e0]at U I b2;simp only at U I b2;rw[e1]at U I b2;simp only at U I b2;have e2:iX s 1 1 (2,false)=(bt s 2,(3,false)):=kP U I b2;have r3:x7 s=(3,false):=by unfold x7;rw[e0];simp only;rw[e1];simp only;rw[e2]
 rw[r3]at p3 V Y;simp only at p3 V Y;have e3:iX s 1 8 (3,false)=(iR s,(4,false)):=kP p3 V Y;have ru:jU s=iR s:=by unfold jU;rw[r3,e3]
 have r4:Wm s=(4,false):=by unfold Wm;rw[r3,e3]
 rw[r4,ru]at D;rw[r4,ru]at c4;simp only at D c4;have D:=D (by omega);have e4:=U9 (s:=s) (hi:=5) (iR s) [] 4 D c4;have r5:Nv s=(4+iR s,false):=by unfold Nv;rw[ru,r4,e4]
 have be:oG s=(MI (iR s)).map (nC s):=by unfold oG;rw[ru,r4,e4];rfl
 rw[r5]at p5 X Z;simp only at p5 X Z;have e5:iX s 1 4 (4+iR s,false)=(iM s,(4+iR s+1,false)):=kP p5 X Z;have mn:xK s=iM s:=by unfold xK;rw[r5,e5]
 have r6:Pw s=(5+iR s,false):=by unfold Pw;rw[r5,e5,o.2];simp only[QI];congr 1;omega
 have ho:∀j,j<iR s->nC s j<=1+iM s:=λ j C=>by
  have:=AO o.2 (nC s j) (by rw[be,PE];exact⟨j,OU.2 C,rfl⟩);rw[mn]at this;exact this
 rw[r6]at p6;simp only at p6;have e6:iX s 0 255 (5+iR s,false)=(bt s (5+iR s),(5+iR s+1,false)):=kP p6 (by omega) (by have:=mT s (5+iR s);omega);have cl:mV s=iK s:=by unfold mV;rw[r6,e6];unfold iK;simp only;omega
 have r7:Tn s=(6+iR s,false):=by unfold Tn;rw[r6,e6];simp only;congr 1;omega
 rw[r7]at F;rw[r7,cl]at c7;simp only at F c7;have F:=F (by omega);have J:1<=iR s:=V;have Q:iR s<=8:=Y;have aL:1<=iM s:=X;have aO:iM s<=4:=Z;have hd:=Gh (s:=s) (by omega) ⟨by omega,by omega,by omega⟩ ⟨J,Q⟩ ⟨D,c4⟩ ⟨p5,aL,aO⟩ ho p6 ⟨F,c7⟩;have h9:=h;unfold Nw at h9 hs;rw[hd.ru,hd.cl,hd.mn]at h9 hs;obtain⟨q1,q2,q3⟩:=La (s:=s) (iM s) [] 0 (x8 s) (by rw[hd.r8]) h9;rw[q3,LN]at hs;refine mM.2 ⟨pJ.2 ⟨by omega,⟨by omega,by omega,by omega⟩,J,Q⟩,?_,?_,?_,λ c hc=>by have:=q2 c hc;rw[LN]at this;exact this,hs⟩
 ·unfold xJ;rw[MF];refine⟨oC (by omega) (λ j C=>?_),decide_eq_true (by omega)⟩;have e:j=0:=by omega
  subst e;have:bt s (4+iR s+0)=iM s:=rfl;omega
 ·unfold zO;rw[MF];refine⟨oC D (λ j C=>?_),oC (by omega) (λ j C=>?_)⟩
  ·have:=ho j C;unfold nC at this;omega
  ·have:=mT s (5+iR s+j);omega
 ·unfold yH;refine oC F (λ j C=>?_);have:=c7 j C;have:=JM s;omega
theorem x9(s:tB):(Nw s).1<=s.size:=by
 unfold Nw x8 Tn Pw Nv Wm x7;refine Vj _ _ _ (Dc _ _ _ (lV ?_));exact lV (Dc _ _ _ (lV (lV (lV (lV (by simp))))))
theorem BI(s:tB):((Nw s).2||decide ((Nw s).1<s.size))= !(iF s):=by
 have C:=x9 s
 cases hi:iF s with
 | true=>rw[(Gi hi).2];simp
 | false=>
  cases h2:(Nw s).2 with
  | true=>rfl
  | false=>
   by_cases o:(Nw s).1<s.size
   ·simp[o]
   ·rw[BJ h2 (by omega)]at hi;cases hi
def nS(vb:tV)(cs:List Nat)(vc:tV):List tV:=vb::(oY cs++[vc])
theorem nF(l:List Nat):(oY l).length=l.length:=by simp[oY]
theorem Q3(l:List Nat)(k:Nat)(h:k<l.length):(oY l)[k]?=some (.int .i64 (l[k]:Int)):=by simp[oY,h]
theorem nY(vb:tV)(cs:List Nat)(vc:tV)(h:cs.length=256):(nS vb cs vc).length=258:=by simp[nS,nF,h]
theorem Pm(vb:tV)(cs:List Nat)(vc:tV):(nS vb cs vc)[0]?=some vb:=rfl
theorem s9(vb:tV)(cs:List Nat)(vc:tV)(k:Nat)(h:k<cs.length):(nS vb cs vc)[1+k]?=some (.int .i64 (cs[k]:Int)):=by
 unfold nS;rw[QJ,ND,MT (by rw[nF];exact h),Q3 _ _ h]
theorem yI(vb:tV)(cs:List Nat)(vc:tV)(h:cs.length=256):(nS vb cs vc)[257]?=some vc:=by
 unfold nS;rw[ND,MC (by rw[nF,h];omega),nF,h];rfl
theorem Wa(vb:tV)(cs:List Nat)(vc u:tV):(nS vb cs vc).set 0 u=nS u cs vc:=rfl
theorem Wb(vb:tV)(cs:List Nat)(vc:tV)(k x:Nat)(h:k<cs.length):(nS vb cs vc).set (1+k) (.int .i64 (x:Int))=nS vb (cs.set k x) vc:=by
 unfold nS;rw[QJ,PY,List.set_append_left _ _ (by rw[nF];exact h)];simp[oY,List.map_set]
theorem Ln(vb:tV)(cs:List Nat)(vc u:tV)(h:cs.length=256):(nS vb cs vc).set 257 u=nS vb cs u:=by
 unfold nS;rw[PY,PU _ _ (by rw[nF,h];omega),nF,h];rfl
theorem Nn(xs:List Nat)(m x:Nat):(xs++ME (m+1) 0).set xs.length x=(xs++[x])++ME m 0:=by
 rw[PU _ _ lR,OI,List.replicate_succ,List.set_cons_zero];simp
theorem zH{w:tW}{l:List tV}(h:w.rangeAt b 0 l)(k:Nat)(C:k<l.length)(v:tV):(w.setCell ⟨b,k,none⟩ v).rangeAt b 0 (l.set k v):=by
 intro j u o;rw[LN];by_cases e:j=k
 ·subst e;rw[OH C]at o;injection o with o;rw[<-o];have:=h j (l[j]) (LR C);rw[LN]at this;exact LI _ _ _ this
 ·rw[OL (λ h=>e h.symm)]at o;rw[LF (h:=by intro D;injection D;omega)];have:=h j u o;rw[LN]at this;exact this
theorem I3{w:tW}{C o:Nat}{l:List tV}(h:w.rangeAt b 0 l)(I:b≠C)(v:tV):(w.setCell ⟨C,o,none⟩ v).rangeAt b 0 l:=by
 intro j u F;rw[LF (h:=by intro D;injection D;omega)];exact h j u F
theorem Qk(l:List Nat)(m k:Nat)(h:k<l.length):vF (l.take (k+1)) m=(vF (l.take k) m||decide (m<l[k])):=by
 have e:l.take (k+1)=l.take k++[l[k]]:=by rw[QA,LR h];rfl
 unfold vF;rw[e,OO];simp only[MU,MS,Bool.or_eq_true,aE];constructor
 ·rintro⟨x,C|C,o⟩
  ·exact .inl ⟨x,C,o⟩
  ·subst C;exact .inr o
 ·rintro(⟨x,C,o⟩|o)
  ·exact⟨x,.inl C,o⟩
  ·exact⟨_,.inr rfl,o⟩
abbrev pB:=Nat×List ((Nat×List Int)×Nat)
structure oH(w:tW)(cl:Nat)(y:pB):Prop where
 lt:y.1<w.heap.size
 rg:w.rangeAt y.1 0 (Jw cl y.2)
 bF:∀z∈y.2,z.2<w.heap.size/\w.rangeAt z.2 0 (pQ z.1.2)
def V3(y:pB)(k:Nat):Prop:=k=y.1\/∃z∈y.2,k=z.2
theorem oH.block{w w':tW}{y:pB}(h:oH w cl y)(D:w.heap.size<=w'.heap.size)(C:∀k,k<w.heap.size->V3 y k->w'.heap[k]?=w.heap[k]?):oH w' cl y:=
 ⟨LK h.lt D,fY h.rg (C _ h.lt (.inl rfl)),λ z o=>⟨LK (h.bF z o).1 D,fY (h.bF z o).2 (C _ (h.bF z o).1 (.inr ⟨z,o,rfl⟩))⟩⟩
theorem oH.own{w:tW}{y:pB}(h:oH w cl y){k:Nat}(o:V3 y k):k<w.heap.size:=by
 rcases o with rfl|⟨z,C,rfl⟩
 ·exact h.lt
 ·exact(h.bF z C).1
theorem oH.below{w w':tW}{y:pB}(h:oH w cl y)(o:Below B w w')(D:w.heap.size<=B):oH w' cl y:=h.block o.size (λ k C _=>o.block k (by omega))
def xD(ys:List pB):List tV:=ys.map λ(y:pB)=>MZ (some ⟨y.1,0,none⟩) y.2.length y.2.length
theorem By(ys:List pB)(y:pB):xD (ys++[y])=xD ys++[MZ (some ⟨y.1,0,none⟩) y.2.length y.2.length]:=by simp[xD]
theorem FO(s:tB)(h:3<=s.size):((s.extract 0 3).toList=[83,84,1])↔(bt s 0=83/\bt s 1=84/\bt s 2=1):=by
 rw[ByteArray.toList_eq];have e:(s.extract 0 3).data.toList=s.data.toList.take 3:=by
  simp[ByteArray.data_extract]
 rw[e];unfold bt;have o:3<=s.data.toList.length:=by simpa using h
 generalize s.data.toList=l at o⊢
 match l,o with
 | a::b::c::r,_=>
  simp;refine⟨?_,?_⟩
  ·rintro⟨rfl,rfl,rfl⟩;decide
  ·rintro⟨C,D,F⟩;exact⟨PO.1 C,PO.1 D,PO.1 F⟩
theorem Be(cl:Nat)(zs:List ((Nat×List Int)×Nat)):∀(k:Nat)(z:(Nat×List Int)×Nat),zs[k]?=some z->(Jw cl zs)[2*k]?=some (.int .i64 (z.1.1:Int))/\(Jw cl zs)[2*k+1]?=some (.slice (some ⟨z.2,0,none⟩) cl cl):=by
 induction zs with
 | nil=>intro k z h;simp at h
 | cons y r ih=>
  intro k z h;have e:Jw cl (y::r)=MM .i64 (y.1.1:Int)::MZ (some ⟨y.2,0,none⟩) cl cl::Jw cl r:=by simp[Jw]
  rw[e]
  cases k with
  | zero=>simp at h;subst h;exact⟨rfl,rfl⟩
  | succ j=>
   have:=ih j z (by simpa using h);rw[show 2*(j+1)=2*j+1+1 by omega];exact⟨by simpa using this.1,by simpa using this.2⟩
theorem Ga(ys:List pB)(k:Nat)(y:pB)(h:ys[k]?=some y):(xD ys)[k]?=some (.slice (some ⟨y.1,0,none⟩) y.2.length y.2.length):=by
 unfold xD;rw[MD,h];rfl
theorem B6(l:List Int)(k:Nat)(x:Int)(h:l[k]?=some x):(pQ l)[k]?=some (.int .i64 x):=by
 unfold pQ;rw[MD,h];rfl
def Tl(s:tB)(c st v:Nat):Int:=oL (iA s c st v)
structure IM(w:tW)(s:tB)(bb vg:Nat)(yb:Nat->Nat)(zb:Nat->Nat->Nat)(top:Nat):Prop where
 be:∀r,r<iR s->w.cell? ⟨bb,r,none⟩=some (.int .i64 (nC s r))
 co:∀c,c<iM s->w.cell? ⟨vg,c,none⟩=some (.slice (some ⟨yb c,0,none⟩) (qZ s c) (qZ s c))
 tk:∀c st,c<iM s->st<qZ s c->w.cell? ⟨yb c,2*st,none⟩=some (.int .i64 (jM s c st))
 nx:∀c st,c<iM s->st<qZ s c->w.cell? ⟨yb c,2*st+1,none⟩=some (.slice (some ⟨zb c st,0,none⟩) (iK s) (iK s))
 ld:∀c st v,c<iM s->st<qZ s c->v<256->w.cell? ⟨zb c st,tK s v,none⟩=some (.int .i64 (Tl s c st v))
 b0:bb<top
 b1:vg<top
 b2:∀c,c<iM s->yb c<top
 b3:∀c st,c<iM s->st<qZ s c->zb c st<top
structure KX(s:tB)(bb vg:Nat)(yb:Nat->Nat)(zb:Nat->Nat->Nat)(lo:Nat):Prop where
 b0:lo<=bb
 b1:lo<=vg
 b2:∀c,c<iM s->lo<=yb c
 b3:∀c st,c<iM s->st<qZ s c->lo<=zb c st
theorem IM.blocks{w w':tW}{s:tB}{yb:Nat->Nat}{zb:Nat->Nat->Nat}(h:IM w s bb vg yb zb top)(F:KX s bb vg yb zb lo)(D:∀k,lo<=k->k<top->w'.heap[k]?=w.heap[k]?):IM w' s bb vg yb zb top:=
 ⟨λ r I=>(LD (w:=w) (a:=⟨bb,r,none⟩) (D _ F.b0 h.b0)).trans (h.be r I),λ c o=>(LD (w:=w) (a:=⟨vg,c,none⟩) (D _ F.b1 h.b1)).trans (h.co c o),
  λ c st o C=>(LD (w:=w) (a:=⟨yb c,2*st,none⟩) (D _ (F.b2 c o) (h.b2 c o))).trans (h.tk c st o C),λ c st o C=>(LD (w:=w) (a:=⟨yb c,2*st+1,none⟩) (D _ (F.b2 c o) (h.b2 c o))).trans (h.nx c st o C),
  λ c st v o C J=>(LD (w:=w) (a:=⟨zb c st,tK s v,none⟩) (D _ (F.b3 c st o C) (h.b3 c st o C))).trans (h.ld c st v o C J),h.b0,h.b1,h.b2,h.b3⟩
theorem IM.below{w w':tW}{s:tB}{yb:Nat->Nat}{zb:Nat->Nat->Nat}(h:IM w s bb vg yb zb top)(D:Below B w w')(F:top<=B):IM w' s bb vg yb zb top:=
 ⟨λ r I=>(D.cell (p:=⟨bb,r,none⟩) (LK h.b0 F)).trans (h.be r I),λ c o=>(D.cell (p:=⟨vg,c,none⟩) (LK h.b1 F)).trans (h.co c o),
  λ c st o C=>(D.cell (p:=⟨yb c,2*st,none⟩) (LK (h.b2 c o) F)).trans (h.tk c st o C),λ c st o C=>(D.cell (p:=⟨yb c,2*st+1,none⟩) (LK (h.b2 c o) F)).trans (h.nx c st o C),
  λ c st v o C J=>(D.cell (p:=⟨zb c st,tK s v,none⟩) (LK (h.b3 c st o C) F)).trans (h.ld c st v o C J),h.b0,h.b1,h.b2,h.b3⟩
theorem IM.drewN{w:tW}{s:tB}{yb:Nat->Nat}{zb:Nat->Nat->Nat}(h:IM w s bb vg yb zb top)(q:Nat):IM (w.drewN q) s bb vg yb zb top:=⟨h.be,h.co,h.tk,h.nx,h.ld,h.b0,h.b1,h.b2,h.b3⟩
def jO(s aI:tB)(c:Nat):Nat->Nat->Nat->Option Nat
 | st,_,0=>some st
 | st,i,d+1=>if iA s c st (bt aI i)=255 then none else jO s aI c (iA s c st (bt aI i)) (i+1) d
theorem Fm(s aI:tB)(c:Nat):∀d st i,jO s aI c st i (d+1)=
  match jO s aI c st i d with
  | none=>none
  | some t=>if iA s c t (bt aI (i+d))=255 then none else some (iA s c t (bt aI (i+d))):=by
 intro d
 induction d with
 | zero=>intro st i;simp[jO]
 | succ e ih=>
  intro st i;rw[jO];split
  ·rename_i h;rw[jO,aB h]
  ·rename_i h;rw[ih,jO,aA h];have:i+1+e=i+(e+1):=by omega
   rw[this]
theorem Ns(s aI:tB)(c p:Nat):∀d,oO s aI c p d=jO s aI c 0 p d:=by
 intro d
 induction d with
 | zero=>rfl
 | succ e ih=>rw[oO,ih,Fm];all_goals (cases jO s aI c 0 p e<;>rfl)
def dead(s aI:tB)(c st i:Nat):Prop:=∀d t,1<=d->i+d<=aI.size->jO s aI c st i d=some t->jM s c t=0
def yW(s aI:tB)(H:List (Int×Int×Int)):Prop:=∀c st i,uR c st i∈H->dead s aI c st i
theorem l5{s aI:tB}(h:¬i<aI.size):dead s aI c st i:=by
 intro d t o hi;omega
theorem N7{s aI:tB}(h:iA s c st (bt aI i)=255):dead s aI c st i:=by
 intro d t C hi o;obtain⟨e,rfl⟩:∃e,d=e+1:=⟨d-1,by omega⟩
 rw[jO,aB h]at o;cases o
theorem Vq{s aI:tB}(h:iA s c st (bt aI i)≠255)(D:jM s c (iA s c st (bt aI i))=0)(C:dead s aI c (iA s c st (bt aI i)) (i+1)):dead s aI c st i:=by
 intro d t F hi o;obtain⟨e,rfl⟩:∃e,d=e+1:=⟨d-1,by omega⟩
 rw[jO,aA h]at o
 cases e with
 | zero=>rw[jO]at o;injection o with o;rw[<-o];exact D
 | succ f=>exact C (f+1) t (by omega) (by omega) o
def nZ(s aI:tB)(c:Nat)(H:List (Int×Int×Int)):Nat->Nat->Nat->Option (Nat×Nat)->Option (Nat×Nat)
 | 0,_,_,best=>best
 | d+1,st,i,best=>
  if sV H (uR c st i)=true then best
  else if iA s c st (bt aI i)=255 then best
  else nZ s aI c H d (iA s c st (bt aI i)) (i+1) (if 0<jM s c (iA s c st (bt aI i))then some (jM s c (iA s c st (bt aI i))-1,i+1)else best)
theorem Qc{s aI:tB}:∀d st i o,i+d<=aI.size->dead s aI c st i->nZ s aI c [] d st i o=o:=by
 intro d
 induction d with
 | zero=>intro st i o _ _;rfl
 | succ e ih=>
  intro st i o hi C;rw[nZ,aA (by simp[sV])];split
  ·rfl
  ·rename_i h;have J:jM s c (iA s c st (bt aI i))=0:=C 1 _ (by omega) (by omega) (by rw[jO,aA h,jO]);rw[aA (by omega)];refine ih _ _ _ (by omega) ?_;intro d t F I D;exact C (d+1) t (by omega) (by omega) (by rw[jO,aA h];exact D)
theorem Qd{s aI:tB}(F:yW s aI H):∀d st i o,i+d<=aI.size->nZ s aI c H d st i o=nZ s aI c [] d st i o:=by
 intro d
 induction d with
 | zero=>intro st i o _;rfl
 | succ e ih=>
  intro st i o hi;by_cases C:sV H (uR c st i)=true
  ·rw[nZ,aB C];have D:uR c st i∈H:=by unfold sV at C;exact NT.1 C
   exact(Qc (e+1) st i o hi (F c st i D)).symm
  ·rw[nZ,aA C]
   conv=>rhs;rw[nZ,aA (by simp[sV])]
   split
   ·rfl
   ·exact ih _ _ _ (by omega)
def uM(s aI:tB)(c st i:Nat):Nat->Option (Nat×Nat)
 | 0=>none
 | d+1=>match jO s aI c st i (d+1)with
  | none=>uM s aI c st i d
  | some t=>if 0<jM s c t then some (jM s c t-1,i+(d+1))else uM s aI c st i d
theorem Fg{s aI:tB}(h:iA s c st (bt aI i)=255):∀d,uM s aI c st i d=none:=by
 intro d
 induction d with
 | zero=>rfl
 | succ e ih=>
  have o:jO s aI c st i (e+1)=none:=by rw[jO,aB h]
  rw[uM,o];exact ih
theorem Qa{s aI:tB}(h:iA s c st (bt aI i)≠255):∀d,uM s aI c st i (d+1)=
  (uM s aI c (iA s c st (bt aI i)) (i+1) d).or (if 0<jM s c (iA s c st (bt aI i))then some (jM s c (iA s c st (bt aI i))-1,i+1)else none):=by
 intro d
 induction d with
 | zero=>
  have C:jO s aI c st i (0+1)=some (iA s c st (bt aI i)):=by
   conv=>lhs;rw[jO,aA h]
   rfl
  conv=>lhs;rw[uM,C]
  simp[uM]
 | succ e ih=>
  have C:jO s aI c st i (e+1+1)=jO s aI c (iA s c st (bt aI i)) (i+1) (e+1):=by
   conv=>lhs;rw[jO,aA h]
  rw[uM,C]
  conv=>rhs;rw[uM]
  cases jO s aI c (iA s c st (bt aI i)) (i+1) (e+1)with
  | none=>exact ih
  | some t=>
   simp only;by_cases o:0<jM s c t
   ·rw[aB o,aB o];simp;omega
   ·rw[aA o,aA o];exact ih
theorem Qe{s aI:tB}:∀d st i o,nZ s aI c [] d st i o=(uM s aI c st i d).or o:=by
 intro d
 induction d with
 | zero=>intro st i o;simp[nZ,uM]
 | succ e ih=>
  intro st i o;rw[nZ,aA (by simp[sV])];by_cases h:iA s c st (bt aI i)=255
  ·rw[aB h,Fg h];simp
  ·rw[aA h,ih,Qa h];by_cases C:0<jM s c (iA s c st (bt aI i))
   ·rw[aB C,aB C];cases uM s aI c (iA s c st (bt aI i)) (i+1) e<;>simp
   ·rw[aA C,aA C];cases uM s aI c (iA s c st (bt aI i)) (i+1) e<;>simp
theorem EZ(s aI:tB)(c p:Nat):∀d,sN s aI c p d=match uM s aI c 0 p d with
  | none=>(-1,p)
  | some x=>((x.1:Int),x.2):=by
 intro d
 induction d with
 | zero=>rfl
 | succ e ih=>
  rw[sN,uM];unfold zP;rw[Ns]
  cases h:jO s aI c 0 p (e+1)with
  | none=>simp only;exact ih
  | some t=>
   simp only;by_cases o:0<jM s c t
   ·rw[aB o,aB o]
   ·rw[aA o,aA o];exact ih
theorem Qg{s aI:tB}(o:yW s aI H)(C:p<=aI.size):
  Fe s aI c p=match nZ s aI c H (aI.size-p) 0 p none with
   | none=>(-1,p)
   | some x=>((x.1:Int),x.2):=by
 unfold Fe;rw[Qd o _ _ _ _ (by omega),Qe,EZ]
 cases uM s aI c 0 p (aI.size-p)<;>simp
theorem Jr{o:Nat}(h:uR c st i=uR o st' i'):c=o/\st=st'/\i=i':=by
 unfold uR at h;injection h with D C;injection C with C F;omega
theorem Qb{s aI:tB}(Q:yW s aI H):∀d st i S n,i+d=aI.size->
  (∀o st' i',uR o st' i'∈S->dead s aI c st i->dead s aI o st' i')->yW s aI (pF s aI c H d st i S n).1:=by
 intro d
 induction d with
 | zero=>
  intro st i S n hi I o st' i' C;exact I o st' i' C (l5 (by omega))
 | succ e ih=>
  intro st i S n hi I;by_cases D:sV H (uR c st i)=true
  ·rw[C0 D];intro o st' i' C;exact I o st' i' C (Q c st i (by unfold sV at D;exact NT.1 D))
  ·have D:sV H (uR c st i)=false:=by simpa using D
   by_cases F:iA s c st (bt aI i)=255
   ·rw[xY D F];intro o st' i' C;rcases MU.1 C with h|h
    ·exact I o st' i' h (N7 F)
    ·rw[MS]at h;obtain⟨rfl,rfl,rfl⟩:=Jr h;exact N7 F
   ·by_cases V:0<jM s c (iA s c st (bt aI i))
    ·rw[C1 D F V];exact ih _ _ _ _ (by omega) (λ o st' i' h=>by cases h)
    ·rw[K3 D F (by omega)];refine ih _ _ _ _ (by omega) (λ o st' i' h U=>?_);have J:=Vq F (by omega) U;rcases MU.1 h with h|h
     ·exact I o st' i' h J
     ·rw[MS]at h;obtain⟨rfl,rfl,rfl⟩:=Jr h;exact J
theorem Wp{s aI:tB}(D:yW s aI H)(F:p<=aI.size):yW s aI (H++(iE s aI c H p).1):=by
 intro C st' i' o;rcases MU.1 o with h|h
 ·exact D C st' i' h
 ·exact Qb D _ 0 p [] 0 (by omega) (λ _ _ _ h=>by cases h) C st' i' h
def hZ(l:List (Int×Int×Int)):List tV:=l.flatMap λ x=>[.int .i64 x.1,.int .i64 x.2.1,.int .i64 x.2.2]
theorem Ey(l:List (Int×Int×Int)):(hZ l).length=l.length*3:=by
 induction l with
 | nil=>rfl
 | cons a r ih=>simp only[hZ,List.flatMap_cons,LS,OB,OR]at*;omega
theorem Ox(l:List (Int×Int×Int))(k:Nat)(x:Int×Int×Int)(h:l[k]?=some x):
  (hZ l)[k*3]?=some (.int .i64 x.1)/\(hZ l)[k*3+1]?=some (.int .i64 x.2.1)/\(hZ l)[k*3+2]?=some (.int .i64 x.2.2):=by
 induction l generalizing k with
 | nil=>simp at h
 | cons a r ih=>
  cases k with
  | zero=>simp at h;subst h;simp[hZ]
  | succ n=>
   have:=ih n (by simpa using h);have e:hZ (a::r)=[.int .i64 a.1,.int .i64 a.2.1,.int .i64 a.2.2]++hZ r:=rfl;rw[e];have D:(n+1)*3=n*3+3:=by omega
   rw[D,MC (by simp),MC (by simp only[OB,OR];omega),MC (by simp only[OB,OR];omega)];simp only[OB,OR];have a1:n*3+3-(0+1+1+1)=n*3:=by omega
   have o:n*3+3+1-(0+1+1+1)=n*3+1:=by omega
   have C:n*3+3+2-(0+1+1+1)=n*3+2:=by omega
   rw[a1,o,C];exact this
theorem Z1(l:List (Int×Int×Int))(x:Int×Int×Int):hZ (l++[x])=hZ l++[.int .i64 x.1,.int .i64 x.2.1,.int .i64 x.2.2]:=by
 simp[hZ]
theorem Ex(l m:List (Int×Int×Int)):hZ (l++m)=hZ l++hZ m:=by
 simp[hZ]
def Ef(L:Nat)(S:List (Int×Int×Int)):List tV:=S.map λ(x:Int×Int×Int)=>MM .i64 (x.2.1*(L:Int)+x.2.2)
theorem Yo(L:Nat)(S:List (Int×Int×Int))(c st i:Nat):Ef L (S++[uR c st i])=Ef L S++[MM .i64 ((st:Int)*(L:Int)+(i:Int))]:=by simp[Ef,uR]
def J7(s aI:tB)(H:List (Int×Int×Int))(HT:Nat->Nat->Bool):Prop:=∀c st i,c<iM s->st<qZ s c->i<aI.size->HT c (st*aI.size+i)=sV H (uR c st i)
def KF(s aI:tB)(c:Nat)(S:List (Int×Int×Int)):Prop:=∀x∈S,∃st i,x=uR c st i/\st<qZ s c/\i<aI.size
theorem AJ{s aI:tB}(h:KF s aI c S)(C:st<qZ s c)(D:i<aI.size):KF s aI c (S++[uR c st i]):=λ x F=>by
 rcases MU.1 F with o|o
 ·exact h x o
 ·rw[MS]at o;exact⟨st,i,o,C,D⟩
theorem Ty(s aI:tB)(c:Nat):KF s aI c []:=λ _ o=>absurd o (OK)
theorem z8(H:List (Int×Int×Int))(x y:Int×Int×Int):sV (H++[x]) y=(sV H y||decide (y=x)):=by
 unfold sV;rw[OO];simp
theorem D6(o:st<n)(C:i<L):st*L+i<n*L:=by
 have:=OM L (show st+1<=n from o);rw[NQ]at this;omega
theorem Yn(F:i<L)(I:i'<L)(h:st*L+i=st'*L+i'):st=st'/\i=i':=by
 have o:0<L:=by omega
 have C:(st*L+i)/L=st:=by rw[PF,QH o,QC F];omega
 have D:(st'*L+i')/L=st':=by rw[PF,QH o,QC I];omega
 have e:st=st':=by rw[<-C,<-D,h]
 subst e;exact⟨rfl,by omega⟩
theorem Vy{s aI:tB}{HT:Nat->Nat->Bool}(h:J7 s aI H HT){c st i:Nat}(F:i<aI.size):
  J7 s aI (H++[uR c st i]) (λ j m=>if j=c/\m=st*aI.size+i then true else HT j m):=by
 intro o st' i' I J hi;rw[z8];by_cases e:o=c/\st'*aI.size+i'=st*aI.size+i
 ·simp only;rw[aB e];obtain⟨C,D⟩:=Yn hi F e.2;rw[e.1,C,D];simp
 ·simp only;rw[aA e,h o st' i' I J hi];have:decide (uR o st' i'=uR c st i)=false:=by
   rw[aF];intro q;obtain⟨Q,U,V⟩:=Jr q;exact e ⟨Q,by rw[U,V]⟩
  rw[this,Bool.or_false]
def Nu:Option (Nat×Nat)->Nat
 | none=>0
 | some x=>x.1+1
def KT(p:Nat):Option (Nat×Nat)->Nat
 | none=>p
 | some x=>x.2
theorem Mc{s aI:tB}{b:Option (Nat×Nat)}(h:sV H (uR c st i)=true):nZ s aI c H (d+1) st i b=b:=by rw[nZ,aB h]
theorem Fh{s aI:tB}{c d st i:Nat}{H:List (Int×Int×Int)}{b:Option (Nat×Nat)}(h:sV H (uR c st i)=false)(o:iA s c st (bt aI i)=255):nZ s aI c H (d+1) st i b=b:=by
 rw[nZ,aA (by rw[h];decide),aB o]
theorem Md{s aI:tB}{c d st i:Nat}{H:List (Int×Int×Int)}{b:Option (Nat×Nat)}(h:sV H (uR c st i)=false)(o:iA s c st (bt aI i)≠255)(C:0<jM s c (iA s c st (bt aI i))):
  nZ s aI c H (d+1) st i b=nZ s aI c H d (iA s c st (bt aI i)) (i+1) (some (jM s c (iA s c st (bt aI i))-1,i+1)):=by
 rw[nZ,aA (by rw[h];decide),aA o,aB C]
theorem Qf{s aI:tB}{c d st i:Nat}{H:List (Int×Int×Int)}{b:Option (Nat×Nat)}(h:sV H (uR c st i)=false)(o:iA s c st (bt aI i)≠255)(C:jM s c (iA s c st (bt aI i))=0):
  nZ s aI c H (d+1) st i b=nZ s aI c H d (iA s c st (bt aI i)) (i+1) b:=by
 rw[nZ,aA (by rw[h];decide),aA o,aA (by omega)]
theorem q9(o:Nat):∀(l:List tV)(n:Nat)(Z:Array tV),((l.zipIdx n).foldl (λ cs x=>cs.setIfInBounds (o+x.2) x.1) Z).size=Z.size/\
  ∀k,((l.zipIdx n).foldl (λ cs x=>cs.setIfInBounds (o+x.2) x.1) Z)[k]?=if o+n<=k/\k<o+n+l.length/\k<Z.size then l[k-(o+n)]? else Z[k]? :=by
 intro l
 induction l with
 | nil=>intro n Z;refine⟨rfl,λ k=>?_⟩;rw[aA (by simp;omega)];rfl
 | cons v r ih=>
  intro n Z;rw[List.zipIdx_cons,List.foldl_cons];obtain⟨D,F⟩:=ih (n+1) (Z.setIfInBounds (o+n) v);refine⟨by rw[D];simp,λ k=>?_⟩;rw[F k];simp only[Array.size_setIfInBounds,OB];by_cases e:k=o+n
  ·subst e;rw[aA (by omega)];by_cases I:o+n<Z.size
   ·rw[aB (by omega),Array.getElem?_setIfInBounds_self_of_lt I];simp
   ·rw[aA (by omega),PB (by simp;omega),PB (by omega)]
  ·by_cases C:o+(n+1)<=k/\k<o+(n+1)+r.length/\k<Z.size
   ·rw[aB C,aB (by omega),show k-(o+n)=(k-(o+(n+1)))+1 by omega,ND]
   ·rw[aA C,aA (by omega),Array.getElem?_setIfInBounds_ne (by omega)]
theorem E2{A:Array tV}{q:tV->Bool}(h:A.all q=true){i:Nat}{v:tV}(o:A[i]?=some v):q v=true:=by
 rw[OY]at h;obtain⟨hi,rfl⟩:=NZ.1 o;exact h i hi
theorem P1(o:Nat)(A Z:Array tV):(A.zipIdx.foldl (λ cs x=>cs.setIfInBounds (o+x.2) x.1) Z).size=Z.size/\
  ∀k,(A.zipIdx.foldl (λ cs x=>cs.setIfInBounds (o+x.2) x.1) Z)[k]?=if o<=k/\k<o+A.size/\k<Z.size then A[k-o]? else Z[k]? :=by
 have h:=q9 o A.toList 0 Z;have e:A.zipIdx.foldl (λ cs x=>cs.setIfInBounds (o+x.2) x.1) Z=(A.toList.zipIdx 0).foldl (λ cs x=>cs.setIfInBounds (o+x.2) x.1) Z:=by
  rw[<-Array.foldl_toList,Array.toList_zipIdx]
 rw[e];refine⟨h.1,λ k=>?_⟩;rw[h.2 k];simp
theorem IM.mono{w:tW}{s:tB}{yb:Nat->Nat}{zb:Nat->Nat->Nat}{o:Nat}(h:IM w s bb vg yb zb top)(C:top<=o):IM w s bb vg yb zb o:=
 ⟨h.be,h.co,h.tk,h.nx,h.ld,LK h.b0 C,LK h.b1 C,λ c D=>LK (h.b2 c D) C,λ c st D F=>LK (h.b3 c st D F) C⟩
def pH(s aI:tB):List (Int×Int×Int)×Nat×Int:=
 if 120000<s.size\/300<aI.size then([],0,1)else if iF s=true then((pX s aI 0).1,(pX s aI 0).2.1,0)else([],0,5)
def mF(a b:List (Int×Int×Int)):Bool:=decide (a=b)
theorem Xy{s aI:tB}(hi:iF s=true):∀(f p c:Nat)(H:List (Int×Int×Int)) (n:Nat) (T:List (Int×Int×Int)),c<iM s->(yP s aI f p c H n T).2.2<iM s:=by
 intro f
 induction f with
 | zero=>intro p c H n T h;rw[yP];exact h
 | succ e ih=>
  intro p c H n T D;by_cases o:p<aI.size
  ·rcases yK hi D (MV o)with F|⟨r,q,C,J,I,Q⟩
   ·rw[wB o F];exact D
   ·rw[wC o C];have:=vX hi J;exact ih q _ _ _ _ (by split<;>omega)
  ·rw[yQ o];exact D
theorem Vo{s aI:tB}(hi:iF s=true){c:Nat}(o:c<iM s):(pX s aI c).2.2<iM s:=Xy hi _ _ _ _ _ _ o
theorem iC(w:tW)(b i:Nat)(v:tV){k:Nat}(h:k≠b):(w.setCell ⟨b,i,none⟩ v).heap[k]?=w.heap[k]? :=MR w ⟨b,i,none⟩ v k (by intro e;exact h e)
def Y1{α:Type}(f:Nat->α)(k:Nat)(v:α):Nat->α:=λ i=>if i=k then v else f i
theorem iY{α:Type}(f:Nat->α)(k:Nat)(v:α):Y1 f k v k=v:=by unfold Y1;rw[aB rfl]
theorem gZ{α:Type}(f:Nat->α){k i:Nat}(v:α)(h:i≠k):Y1 f k v i=f i:=by unfold Y1;rw[aA h]
def Je(s aI:tB)(c:Nat):List (Int×Int×Int):=if 300<aI.size then []else(pX s aI c).1
def DA(aI:tB):Int:=if 300<aI.size then 1 else 0
def IP(s aI:tB)(c:Nat):Nat:=if 300<aI.size then c else(pX s aI c).2.2
def JY:List UInt8:= [83,84,1,1,0,1,0]++ME 256 0++[1,0,0]
def SM:tB:=⟨JY.toArray⟩
def Zs:tB:=⟨(ME 256 (0:UInt8)).toArray⟩
theorem Yj:(⟨#[83,84,1,1,0,1,0]⟩:tB)++Zs++(⟨#[1,0,0]⟩:tB)=SM:=by decide+kernel
theorem Sf:SM.size=266:=by decide+kernel
end Go.Stn
namespace Go.Proofs.YtgjgjgihceijnaaGreat
open Go.RowKit Go.Stn
variable {p:Prop}{v:Option Nat}{B lo bb g k cl aH size n b ca cs c m aJ i cb vg aU rb ib:Nat}{l:List Nat}{e ty:TypeId}{x:Operand}{gd:Option (Nat×Bool)}{a:Act}{P:Program}
section
theorem fV(h:p):QQ p:=h
structure zT(w:tW)(rb:Nat)(s:tB)(r:vY):Prop where
 c0:w.cell? ⟨rb,0,none⟩=some (.string s)
 c1:w.cell? ⟨rb,1,none⟩=some (.int .i64 r.1)
 c2:w.cell? ⟨rb,2,none⟩=some (.bool r.2)
 fz:∀i,w.frozen? ⟨rb,i,none⟩=false
 hb:rb<w.heap.size
variable {w w':tW}{rb:Nat}{s:tB}{r:vY}
theorem zT.block(h:zT w rb s r)(o:w'.heap[rb]?=w.heap[rb]?)(C:w.heap.size<=w'.heap.size):zT w' rb s r:=
 ⟨(LD (w:=w) (a:=⟨rb,0,none⟩) o).trans h.c0,(LD (w:=w) (a:=⟨rb,1,none⟩) o).trans h.c1,(LD (w:=w) (a:=⟨rb,2,none⟩) o).trans h.c2,
   λ i=>(LQ (w:=w) (a:=⟨rb,i,none⟩) o).trans (h.fz i),by have:=h.hb;omega⟩
theorem zT.drewN(h:zT w rb s r)(q:Nat):zT (w.drewN q) rb s r:=⟨h.c0,h.c1,h.c2,h.fz,h.hb⟩
theorem zT.grown(h:zT w rb s r)(hg:w.grownBy w' v)(o:some rb≠v):zT w' rb s r:=h.block (hg.block rb h.hb o) hg.size
theorem zT.below(h:zT w rb s r)(hg:Below B w w')(o:rb<B):zT w' rb s r:=h.block (hg.block rb o) hg.size
theorem zT.setBad(h:zT w rb s r):zT (w.setCell ⟨rb,2,none⟩ (.bool true)) rb s (r.1,true):=by
 have o:∀j u,j≠2->w.cell? ⟨rb,j,none⟩=some u->(w.setCell ⟨rb,2,none⟩ (.bool true)).cell? ⟨rb,j,none⟩=some u:=λ j u D C=>by
  rw[LF (h:=by intro e;injection e;omega)];exact C
 exact⟨o 0 _ (by omega) h.c0,o 1 _ (by omega) h.c1,LI _ _ _ h.c2,λ i=>by rw[LH];exact h.fz i,by have:=h.hb;simp[LO];omega⟩
theorem zT.adv(h:zT w rb s r):zT (w.setCell ⟨rb,1,none⟩ (.int .i64 ((r.1:Int)+1))) rb s (r.1+1,r.2):=by
 have o:∀j u,j≠1->w.cell? ⟨rb,j,none⟩=some u->(w.setCell ⟨rb,1,none⟩ (.int .i64 ((r.1:Int)+1))).cell? ⟨rb,j,none⟩=some u:=λ j u D C=>by
  rw[LF (h:=by intro e;injection e;omega)];exact C
 exact⟨o 0 _ (by omega) h.c0,LI _ _ _ h.c1,o 2 _ (by omega) h.c2,λ i=>by rw[LH];exact h.fz i,by have:=h.hb;simp[LO];omega⟩
theorem mC(s:tB)(r:vY)(lo hi:Nat)(rb:Nat)(w:tW)(hs:s.size<=120000)(h:zT w rb s r)(hr:r.1<=s.size):
  RC LM 80 #[.pointer (some ⟨rb,0,none⟩),.int .i64 lo,.int .i64 hi] w λ e w'=>
   e=.returned (.int .i64 ((iX s lo hi r).1:Int))/\w.grownBy w' (some rb)/\zT w' rb s (iX s lo hi r).2:=by
 have D:=fV h;have c0:=h.c0;have Z:=h.c1;have c2:=h.c2;have f1:=h.fz 1;have f2:=h.fz 2;clear h;obtain⟨a,b⟩:=r;simp only at*;by_cases he:s.size<=a
 ·have X:decide ((s.size:Int)<=(a:Int))=true:=by simp;omega
  have C:QQ (iX s lo hi (a,b)=(lo,(a,true))):=by unfold QQ iX;rw[aA (by simp only;omega)]
  go_enter func80,PH;go_wp2;go_quiet (fail);go_wp2;go_ret;rw[C.o];exact⟨rfl,lP (jZ (World.grownBy.refl _ _) _) _ _,(D.o.drewN _).setBad⟩
 ·have X:decide ((s.size:Int)<=(a:Int))=false:=by simp;omega
  have U:=kL s a (by omega);have V:=mT s a;have hI:(0:Int)<=(a:Int)/\(a:Int)<(s.size:Int):=by omega
  have Y:IntKind.i64.wrap (bt s a:Int)=(bt s a:Int):=IntWalk.i64_in _ (by omega);by_cases J:bt s a<lo
  ·have C:QQ (iX s lo hi (a,b)=(lo,(a+1,true))):=by unfold QQ iX;rw[aB (by simp only;omega),aB (.inl J)]
   have F:decide ((bt s a:Int)<(lo:Int))=true:=by simp;omega
   go_enter func80,PH;go_wp2;go_quiet (fail);go_wp2;go_quiet (fail);go_wp2;go_ret;rw[C.o];exact⟨rfl,lP (lP (jZ (World.grownBy.refl _ _) _) _ _) _ _,((D.o.drewN _).adv).setBad⟩
  ·have F:decide ((bt s a:Int)<(lo:Int))=false:=by simp;omega
   by_cases Q:hi<bt s a
   ·have C:QQ (iX s lo hi (a,b)=(lo,(a+1,true))):=by unfold QQ iX;rw[aB (by simp only;omega),aB (.inr Q)]
    have I:decide ((hi:Int)<(bt s a:Int))=true:=by simp;omega
    go_enter func80,PH;go_wp2;go_quiet (fail);go_wp2;go_quiet (fail);go_wp2;go_ret;rw[C.o];exact⟨rfl,lP (lP (jZ (World.grownBy.refl _ _) _) _ _) _ _,((D.o.drewN _).adv).setBad⟩
   ·have C:QQ (iX s lo hi (a,b)=(bt s a,(a+1,b))):=by unfold QQ iX;rw[aB (by simp only;omega),aA (by simp only;omega)]
    have I:decide ((hi:Int)<(bt s a:Int))=false:=by simp;omega
    go_enter func80,PH;go_wp2;go_quiet (fail);go_wp2;go_quiet (fail);go_wp2;go_ret;rw[C.o];exact⟨rfl,lP (jZ (World.grownBy.refl _ _) _) _ _,(D.o.drewN _).adv⟩
end
theorem bU:(Tryz.prog.info? 3).map (λ i=>(i.zero,i.size,i.bytes))=some (some (.int .i64 0),1,8):=by kernel_rfl
theorem Wn(s:tB)(r:vY)(n:Nat)(rb:Nat)(w:tW)(hs:s.size<=120000)(h:zT w rb s r)(Z:r.1<=s.size):
  RC LM 106 #[.pointer (some ⟨rb,0,none⟩),.int .i64 n] w λ e w'=>
   e=.returned (.int .i64 (rE s n r).1)/\w.grownBy w' (some rb)/\zT w' rb s (rE s n r).2:=by
 have Y:=mC s r 0 255 rb w hs h Z;have U:QQ (rE s n r=if(iX s 0 255 r).1=255 then(-1,(iX s 0 255 r).2)
  else if n<=(iX s 0 255 r).1 then(((iX s 0 255 r).1:Int),((iX s 0 255 r).2.1,true))else(((iX s 0 255 r).1:Int),(iX s 0 255 r).2)):=rfl
 generalize iX s 0 255 r=N at*;obtain⟨x,X⟩:=N;simp only at*;clear h Z;go_enter func106,ntmps106;go_wp2_with fail;refine Y.mono ?_;rintro e w1 ⟨rfl,hg,D⟩;have J:=fV hg;have Q:=fV D;clear hg Y;by_cases C:x=255
 ·have hd:((x:Int)==255)=true:=by rw[C];rfl
  have F:QQ (rE s n r=(-1,X)):=U.o.trans (aB C);clear D C;go_wp2;go_ret;rw[F.o];exact⟨rfl,J.o,Q.o⟩
 ·have hd:((x:Int)==255)=false:=by rw[aC];omega
  by_cases I:n<=x
  ·have V:decide ((n:Int)<=(x:Int))=true:=by simp;omega
   have F:QQ (rE s n r=((x:Int),(X.1,true))):=by unfold QQ;rw[U.o,aA C,aB I]
   have f2:=D.fz 2;have c2:=D.c2;clear D C;go_wp2;go_ret;rw[F.o];exact⟨rfl,lP J.o _ _,Q.o.setBad⟩
  ·have V:decide ((n:Int)<=(x:Int))=false:=by simp;omega
   have F:QQ (rE s n r=((x:Int),X)):=by unfold QQ;rw[U.o,aA C,aA I]
   clear D C;go_wp2;go_ret;rw[F.o];exact⟨rfl,J.o,Q.o⟩
theorem Iw(s:tB)(r:vY)(n hi:Nat)(rb:Nat)(w:tW)(hs:s.size<=120000)(hn:n<=1000)(h:zT w rb s r)(hr:r.1<=s.size):
  RC LM 81 #[.pointer (some ⟨rb,0,none⟩),.int .i64 n,.int .i64 hi] w λ e w'=>
   e=.returned (.slice (some ⟨w.heap.size,0,none⟩) n n)/\w'.ownsRow w.heap.size 3 1 (.slice (some ⟨w.heap.size,0,none⟩) n n) n (oY (oN s hi n [] r).1)/\
   w.grownBy w' (some rb)/\zT w' rb s (oN s hi n [] r).2:=by
 obtain⟨i0,X,aR,aT,aW⟩:=QU bU;have HI:QQ (Tryz.prog.info? 3=some i0/\i0.zero=some (.int .i64 0)/\i0.size=1/\i0.bytes=8):=⟨X,aR,aT,aW⟩
 clear X aR aT aW;have HR:=fV h;have cN:=h.hb;clear h;go_enter func81,ntmps81;go_wp2_with (at_make;refine QX w rfl _ _ 59 rfl w.heap.size 3 i0 (.int .i64 0) 1 NE HI.o.1 HI.o.2.1 HI.o.2.2.1 .i64 .i64 _ n rfl rfl rfl (by rw[HI.o.2.2.2];omega) (by unfold RA;omega) lR ?_;intro w1 C hg);have U:=fV (HR.o.grown hg (by simp));have J:=fV (T9 hg (some rb));have Q:=fV C;have bS:=hg.size;clear C hg HR;generalize hB:w.heap.size=B at*
 go_loopg [7] n (λ gk x wr=>∃(xs:List Nat)(k:Nat)(r':vY),x=.slice (some ⟨B,0,none⟩) k n/\xs.length=k/\k+gk=n/\r'.1<=s.size/\oN s hi n [] r=oN s hi gk xs r'/\
  wr.ownsRow B 3 1 (.slice (some ⟨B,0,none⟩) k n) k (oY xs)/\w.grownBy wr (some rb)/\zT wr rb s r')
 case atStart=>exact⟨[],0,r,rfl,rfl,by omega,hr,rfl,Q.o,J.o,U.o⟩
 case round=>
  obtain⟨xs,k,r',rfl,aO,bT,Z,V,C,hg,hl⟩:=hrel;have HQ:=fV V;have HO:=fV C;have HG:=fV hg;have HL:=fV hl;have HX:=fV aO;have cP:B<=wr.heap.size:=by have:=hg.size;omega
  clear V C hg hl aO U J Q;by_cases cF:k<n
  ·obtain⟨g',rfl⟩:∃g',gk=g'+1:=⟨gk-1,by omega⟩
   have bN:QQ (oN s hi n [] r=oN s hi g' (xs++[(iX s 0 hi r').1]) (iX s 0 hi r').2):=HQ.o;have hc:=mC s r' 0 hi rb wr hs HL.o Z;have ha:=lV (lo:=0) (hi:=hi) Z;generalize iX s 0 hi r'=N at*;obtain⟨x,r2⟩:=N;simp only at*;have hd:=dT k n (by omega)
   go_wp2_with fail;refine hc.mono ?_;rintro e w2 ⟨rfl,F,Y⟩;have bM:QQ (w2.ownsRow B 3 1 (.slice (some ⟨B,0,none⟩) k n) k (oY xs)):=fV (HO.o.kept F (.inr (by simp[MH];omega)));have bC:=fV (gD HG.o F);have bK:=fV Y;have aL:B<=w2.heap.size:=by have:=F.size;omega
   clear F Y HO HG HL hc;go_wp2_with (first|(at_builtin;refine lD w2 rfl _ _ 59 rfl B 3 (.int .i64 0) 1 8 NE bU B k n (oY xs) [.int .i64 (x:Int)] _ rfl bM.o _ rfl rfl rfl (by simp[MG]) (by omega) ?_;intro w3 I D));go_roundg g'
   case measure=>omega
   case rel=>
    have bO:=kA bC.o (.cells #[.int .i64 (x:Int)] 3);refine⟨xs++[x],k+1,r2,rfl,by simp[HX.o],by omega,ha,bN.o,by rw[sC];exact I,U0 bO D (by omega),?_⟩;exact(bK.o.below (bR.alloc aL _) (by omega)).grown D (by simp;omega)
  ·have e:k=n:=by omega
   subst e;have e2:gk=0:=by omega
   subst e2;have HE:QQ (oN s hi k [] r=(xs,r')):=HQ.o;have hd:=dF k k (by omega)
   go_wp2;go_ret;rw[HE.o];subst hB;exact⟨rfl,HO.o,HG.o,HL.o⟩
theorem cS:(Tryz.prog.info? 121).map (λ i=>(i.zero,i.size,i.bytes))=some (some (.agg #[.int .i64 0,.slice none 0 0]),2,32):=by kernel_rfl
theorem Wg(s:tB)(r:vY)(ru cl:Nat)(rb:Nat)(w:tW)(hs:s.size<=120000)(lH:cl<=256)(h:zT w rb s r)(hr:r.1<=s.size):
  RC LM 82 #[.pointer (some ⟨rb,0,none⟩),.int .i64 ru,.int .i64 cl] w λ e w'=>
   ∃(B:Nat)(zs:List ((Nat×List Int)×Nat)),w.heap.size<=B/\e=.returned (.slice (some ⟨B,0,none⟩) zs.length zs.length)/\zs.map (·.1)=(rD s ru cl r).1/\
   w'.ownsRow B 121 2 (.slice (some ⟨B,0,none⟩) zs.length zs.length) zs.length (Jw cl zs)/\pN w' (B+1) zs/\w.grownBy w' (some rb)/\zT w' rb s (rD s ru cl r).2:=by
 obtain⟨i0,V,Z,aL,aO⟩:=QU bU;have HI:QQ (Tryz.prog.info? 3=some i0/\i0.zero=some (.int .i64 0)/\i0.size=1/\i0.bytes=8):=⟨V,Z,aL,aO⟩
 clear V Z aL aO;obtain⟨i1,V,Z,aL,aO⟩:=QU cS;have aR:QQ (Tryz.prog.info? 121=some i1/\i1.zero=some (.agg #[.int .i64 0,.slice none 0 0])/\i1.size=2/\i1.bytes=32):=⟨V,Z,aL,aO⟩
 clear V Z aL aO;have hn:=mC s r 1 100 rb w hs h hr;have HP:QQ (rD s ru cl r=Au s ru cl (iX s 1 100 r).1 (iX s 1 100 r).1 [] (iX s 1 100 r).2):=rfl;have qR:=Q7 (s:=s) (lo:=1) (hi:=100) (r:=r) (by omega);have hW:=lV (lo:=1) (hi:=100) hr;have rL:=h.hb;generalize iX s 1 100 r=N at*;obtain⟨n,r1⟩:=N;simp only at*;clear h;go_enter func82,ntmps82;go_wp2_with fail;refine hn.mono ?_;rintro e w1 ⟨rfl,bM,hA⟩;have bT:=fV bM;have eL:=fV hA;have hF:=bM.size;clear bM hA hn;go_wp2_with (first|(at_make;refine QX w1 rfl _ _ 110 rfl w1.heap.size 121 i1 _ 2 underlying110 aR.o.1 aR.o.2.1 aR.o.2.2.1 .i64 .i64 _ n rfl rfl rfl (by rw[aR.o.2.2.2];omega) (by unfold RA;omega) lR ?_;intro w2 F hg));have eT:=fV (eL.o.grown hg (by simp));have cF:=fV (gD bT.o (T9 hg (some rb)));have eN:=fV F;have hY:rb<w1.heap.size:=by omega
 clear F hg eL bT;generalize w1.heap.size=B at*
 go_loopg [8] n (λ gk x wr=>∃(zs:List ((Nat×List Int)×Nat)) (k:Nat) (r':vY),x=.slice (some ⟨B,0,none⟩) k n/\zs.length=k/\k+gk=n/\r'.1<=s.size/\rD s ru cl r=Au s ru cl n gk (zs.map (·.1)) r'/\
  wr.ownsRow B 121 2 (.slice (some ⟨B,0,none⟩) k n) k (Jw cl zs)/\pN wr (B+1) zs/\w.grownBy wr (some rb)/\zT wr rb s r')
 case atStart=>exact⟨[],0,r1,rfl,rfl,by omega,hW,HP.o,eN.o,pN.nil _ _,cF.o,eT.o⟩
 case round=>
  obtain⟨zs,k,r',rfl,Y,nL,hE,Q,F,bC,hg,hl⟩:=hrel;have HQ:=fV Q;have HO:=fV F;have HW:=fV bC;have HG:=fV hg;have HL:=fV hl;have HX:=fV Y;have rO:B<wr.heap.size:=by have:=(F.lt B rfl).2;omega
  clear Q F hg hl Y bC eT cF eN;by_cases nN:k<n
  ·obtain⟨g',rfl⟩:∃g',gk=g'+1:=⟨gk-1,by omega⟩
   have hQ:QQ (rD s ru cl r=Au s ru cl n g' (zs.map (·.1)++[((iX s 0 ru r').1,(oX s n cl [] (iX s 0 ru r').2).1)]) (oX s n cl [] (iX s 0 ru r').2).2):=HQ.o;have hc:=mC s r' 0 ru rb wr hs HL.o hE;have ha:=lV (lo:=0) (hi:=ru) hE;generalize iX s 0 ru r'=N at*;obtain⟨tk,r2⟩:=N;simp only at*;have hd:=dT k n (by omega)
   go_wp2_with fail;refine hc.mono ?_;rintro e w3 ⟨rfl,U,hB⟩;have eO:QQ (w3.ownsRow B 121 2 (.slice (some ⟨B,0,none⟩) k n) k (Jw cl zs)):=fV (HO.o.kept U (.inr (by simp[MH];omega)));have gL:=fV (HW.o.grown U (by omega));have cN:=fV (gD HG.o U);have eM:=fV hB;have iN:B<w3.heap.size:=by have:=U.size;omega
   clear U hB HO HG HL hc HW;go_wp2_with (first|(at_make;refine QX w3 rfl _ _ 59 rfl w3.heap.size 3 i0 (.int .i64 0) 1 NE HI.o.1 HI.o.2.1 HI.o.2.2.1 .i64 .i64 _ cl rfl rfl rfl (by rw[HI.o.2.2.2];omega) (by unfold RA;omega) lR ?_;intro w4 X bN));have eX:=fV (eM.o.grown bN (by simp));have cP:=fV (T9 bN (some rb));have eR:=fV X;clear X bN eM;generalize hC:w3.heap.size=C at*
   go_loopg [10] cl (λ gj x wj=>∃(xs:List Int)(m:Nat)(rj:vY),x=.slice (some ⟨C,0,none⟩) m cl/\xs.length=m/\m+gj=cl/\rj.1<=s.size/\oX s n cl [] r2=oX s n gj xs rj/\
    wj.ownsRow C 3 1 (.slice (some ⟨C,0,none⟩) m cl) m (pQ xs)/\w3.grownBy wj (some rb)/\zT wj rb s rj)
   case atStart=>exact⟨[],0,r2,rfl,rfl,by omega,ha,rfl,eR.o,cP.o,eX.o⟩
   case round=>
    obtain⟨xs,m,rj,rfl,Y,qL,bS,Q,F,hg,hl⟩:=hrel;have eS:=fV Q;have aT:=fV F;have J:=fV hg;have bK:=fV hl;have hU:=fV Y;have hJ:C<wr.heap.size:=by have:=(F.lt C rfl).2;omega
    clear Q F hg hl Y eX cP eR;by_cases hX:m<cl
    ·obtain⟨j',rfl⟩:∃j',gk=j'+1:=⟨gk-1,by omega⟩
     have hR:QQ (oX s n cl [] r2=oX s n j' (xs++[(rE s n rj).1]) (rE s n rj).2):=eS.o;have hc:=Wn s rj n rb wr hs bK.o bS;have ha:=Lu (n:=n) bS;generalize rE s n rj=N at*;obtain⟨x,r3⟩:=N;simp only at*;have hV:=dT m cl (by omega)
     go_wp2_with fail;refine hc.mono ?_;rintro e w5 ⟨rfl,aW,hD⟩;have hN:QQ (w5.ownsRow C 3 1 (.slice (some ⟨C,0,none⟩) m cl) m (pQ xs)):=fV (aT.o.kept aW (.inr (by simp[MH];omega)));have hK:=fV (gD J.o aW);have hM:=fV hD;have hG:C<w5.heap.size:=by have:=aW.size;omega
     clear aW hD aT J bK hc;go_wp2_with (first|(at_builtin;refine lD w5 rfl _ _ 59 rfl C 3 (.int .i64 0) 1 8 NE bU C m cl (pQ xs) [.int .i64 x] _ rfl hN.o _ rfl rfl rfl (by simp[MG]) (by omega) ?_;intro w6 I D));go_roundg j'
     case measure=>omega
     case rel=>
      have bO:=kA hK.o (.cells #[.int .i64 x] 3);refine⟨xs++[x],m+1,r3,rfl,by simp[hU.o],by omega,ha,hR.o,by rw[tP];exact I,U0 bO D (by omega),?_⟩;exact(hM.o.below (bR.alloc (MV hG) _) (by omega)).grown D (by simp;omega)
    ·have e:m=cl:=by omega
     subst e;have e2:gk=0:=by omega
     subst e2;have HE:QQ (oX s n m [] r2=(xs,rj)):=eS.o;have hV:=dF m m (by omega)
     have hP:QQ (wr.ownsRow B 121 2 (.slice (some ⟨B,0,none⟩) k n) k (Jw m zs)):=fV (eO.o.kept J.o (.inr (by simp[MH];omega)));have hT:=fV (gL.o.grown J.o (by omega));have hL:=fV (gD cN.o J.o);have hS:=fV (nV aT.o);have hH:B<wr.heap.size:=by omega
     clear eO gL cN aT J;go_wp2_with (first|(at_builtin;refine lD wr rfl _ _ 110 rfl B 121 (.agg #[.int .i64 0,.slice none 0 0]) 2 32 underlying110 cS B k n (Jw m zs) [.int .i64 (tk:Int),.slice (some ⟨C,0,none⟩) m m] _ rfl hP.o _ rfl rfl rfl (by simp[MG]) (by omega) ?_;intro w6 I D));go_roundg g'
     case measure=>omega
     case rel=>
      have bO:=kA hL.o (.cells #[.int .i64 (tk:Int),.slice (some ⟨C,0,none⟩) m m] 121);have hq:=hQ.o;rw[HE.o]at hq;have hI:=D.size;simp at hI;refine⟨zs++[((tk,xs),C)],k+1,rj,rfl,by simp[HX.o],by omega,bS,by rw[OF];exact hq,by rw[Nr];exact I,?_,U0 bO D (by omega),?_⟩
      ·refine((hT.o.grown (kA (World.grownBy.refl _ (some B)) _) (by omega)).snoc ⟨by omega,by simp;omega,?_⟩).grown D (by omega);exact fY hS.o (MB wr _ C hJ)
      ·exact(bK.o.below (bR.alloc (MV hH) _) (by omega)).grown D (by simp;omega)
  ·have e:k=n:=by omega
   subst e;have e2:gk=0:=by omega
   subst e2;have HE:QQ (rD s ru cl r=(zs.map (·.1),r')):=HQ.o;have hd:=dF k k (by omega)
   go_wp2;go_ret;rw[HE.o];have hx:=HX.o;subst hx;exact⟨B,zs,hF,rfl,rfl,HO.o,HW.o,HG.o,HL.o⟩
section
theorem fF:LG=(nS (.slice none 0 0) (ME 256 0) (.slice none 0 0)).toArray:=by kernel_rfl
theorem fG:Tryz.zeroCells72.toList=nS (.slice none 0 0) (ME 256 0) (.slice none 0 0):=by rw[fF]
theorem bL:Tryz.zeroCells72.size=258:=by kernel_rfl
theorem bP:(Tryz.prog.info? 72).map (·.size)=some 258:=by kernel_rfl
theorem bZ:Tryz.zeroCells72.all (·.oneCell')=true:=by kernel_rfl
theorem eJ:(Tryz.prog.info? 110).map (λ i=>(i.zero,i.size,i.bytes))=some (some (.slice none 0 0),1,24):=by kernel_rfl
structure IW(w0 w:tW)(rb:Nat)(s:tB)(r:vY)(vb:tV)(cs:List Nat)(vc:tV):Prop where
 g:w0.grownBy w (some rb)
 rd:zT w rb s r
 im:w.rangeAt (w0.heap.size+1) 0 (nS vb cs vc)
 t1:w.there (w0.heap.size+1) 0 258
 t0:w.there w0.heap.size 0 258
 hz:w0.heap.size+2<=w.heap.size
 hb:rb<w0.heap.size
 hl:cs.length=256
variable {w0 w w':tW}{rb:Nat}{s:tB}{r r':vY}{vb vc:tV}{cs:List Nat}
theorem IW.step(h:IW w0 w rb s r vb cs vc)(hg:w.grownBy w' (some rb))(F:zT w' rb s r'):IW w0 w' rb s r' vb cs vc:=by
 have D:=h.hb;have I:=h.hz;have o:w'.heap[w0.heap.size+1]?=w.heap[w0.heap.size+1]? :=hg.block _ (by omega) (by intro e;injection e;omega);have C:w'.heap[w0.heap.size]?=w.heap[w0.heap.size]? :=hg.block _ (by omega) (by intro e;injection e;omega);exact⟨gD h.g hg,F,fY h.im o,gJ h.t1 o,gJ h.t0 C,by have:=hg.size;omega,D,h.hl⟩
theorem IW.cell(h:IW w0 w rb s r vb cs vc){k:Nat}{v:tV}(o:(nS vb cs vc)[k]?=some v):w.cell? ⟨w0.heap.size+1,k,none⟩=some v:=by
 have:=h.im k v o;rw[LN]at this;exact this
theorem IW.fz(h:IW w0 w rb s r vb cs vc){k:Nat}(o:k<258):w.frozen? ⟨w0.heap.size+1,k,none⟩=false:=by
 have:=(h.t1 k o).2;rw[LN]at this;exact this
theorem IW.set(h:IW w0 w rb s r vb cs vc){k:Nat}{u:tV}{C D:tV}{o:List Nat}(J:k<258)(I:(nS vb cs vc).set k u=nS C o D)(Q:o.length=256):
  IW w0 (w.setCell ⟨w0.heap.size+1,k,none⟩ u) rb s r C o D:=by
 have F:=h.hb;have V:=h.hz;refine⟨⟨h.g.os,h.g.tape,h.g.output,by simp[LO];omega,λ i hi U=>?_⟩,?_,?_,pM h.t1 _ _,pM h.t0 _ _,by simp[LO];omega,F,Q⟩
 ·rw[MR _ _ _ _ (by simp only;omega)];exact h.g.block i hi U
 ·exact h.rd.block (MR _ _ _ _ (by simp only;omega)) (by simp[LO])
 ·rw[<-I];exact zH h.im k (by rw[nY _ _ _ h.hl];exact J) u
theorem IW.other(h:IW w0 w rb s r vb cs vc)(hg:w.grownBy w' v)(J:∀k,v=some k->w0.heap.size+2<=k):IW w0 w' rb s r vb cs vc:=by
 have F:=h.hb;have U:=h.hz;have o:∀k,k<w0.heap.size+2->some k≠v:=λ k Q e=>by have:=J k e.symm;omega
 have C:w'.heap[w0.heap.size+1]?=w.heap[w0.heap.size+1]? :=hg.block _ (by omega) (o _ (by omega));have D:w'.heap[w0.heap.size]?=w.heap[w0.heap.size]? :=hg.block _ (by omega) (o _ (by omega));refine⟨⟨hg.os.trans h.g.os,hg.tape.trans h.g.tape,hg.output.trans h.g.output,NF h.g.size hg.size,λ i hi I=>(hg.block i (LK hi h.g.size) (o i (by omega))).trans (h.g.block i hi I)⟩,
  h.rd.grown hg (o rb (by omega)),fY h.im C,gJ h.t1 C,gJ h.t0 D,by have:=hg.size;omega,F,h.hl⟩
theorem yJ(F:vb.oneCell'=true)(I:vc.oneCell'=true):∀v∈nS vb cs vc,v.oneCell'=true:=by
 intro v C;unfold nS at C;rcases List.mem_cons.1 C with rfl|D
 ·exact F
 ·rcases MU.1 D with o|o
  ·unfold oY at o;rw[PE]at o;obtain⟨x,_,rfl⟩:=o
   rfl
  ·rw[MS]at o;rw[o];exact I
theorem IW.start(h:zT w rb s r):
  IW w (((w.alloc (.cells LG 72)).alloc (.cells LG 72)).setCells (w.heap.size+1) 0 Tryz.zeroCells72.toList) rb s r (.slice none 0 0) (ME 256 0) (.slice none 0 0):=by
 have o:=h.hb;have t1:=iD (w.alloc (.cells LG 72)) LG 72 (w.heap.size+1) 258 bL (by simp);have F:=iD w LG 72 w.heap.size 258 bL rfl;have D:w.grownBy ((w.alloc (.cells LG 72)).alloc (.cells LG 72)) (some rb):=kA (kA (World.grownBy.refl _ _) _) _;have C:Bl w ((w.alloc (.cells LG 72)).alloc (.cells LG 72)):=(bR.alloc lR _).alloc (by simp) _;have b2:=fX Tryz.zeroCells72.toList 0 _ (w.heap.size+1) C (by omega);have I:=(fX Tryz.zeroCells72.toList 0 ((w.alloc (.cells LG 72)).alloc (.cells LG 72)) (w.heap.size+1) (NB 0 _) zL).size;simp at I;refine⟨oJ D _ _ _ (by omega),h.below b2 o,?_,ON t1 _ _ _,ON (QB F _) _ _ _,by omega,o,PT⟩;rw[<-fG];exact MA _ _ _ _ (by rw[LY,bL];exact t1)
end
def pT(w:tW)(lo bb:Nat)(l:List Nat):Prop:=lo<=bb/\bb<w.heap.size/\w.rangeAt bb 0 (oY l)
theorem pT.grown{w w':tW}(h:pT w lo bb l)(hg:w.grownBy w' (some g))(o:g<lo):pT w' lo bb l:=
 ⟨h.1,LK h.2.1 hg.size,fY h.2.2 (hg.block bb h.2.1 (by intro e;injection e;have:=h.1;omega))⟩
theorem pT.block{w w':tW}(h:pT w lo bb l)(C:w.heap.size<=w'.heap.size)(o:w'.heap[bb]?=w.heap[bb]?):pT w' lo bb l:=
 ⟨h.1,LK h.2.1 C,fY h.2.2 o⟩
theorem pT.set{w:tW}(h:pT w lo bb l)(o:g<lo)(v:tV):pT (w.setCell ⟨g,k,none⟩ v) lo bb l:=
 h.block (by simp[LO]) (MR _ _ _ _ (by simp only;have:=h.1;omega))
def rI(w:tW)(cl bb:Nat)(vc:tV)(ys:List pB):Prop:=∀y∈ys,oH w cl y/\∀k,V3 y k->bb<k/\vc.ownBlock≠some k
theorem rI.move{w w':tW}{vc C:tV}{ys:List pB}(h:rI w cl bb vc ys)(hg:w.grownBy w' v)(V:∀k,v=some k->k<=bb\/vc.ownBlock=some k)(Q:∀k,k<w.heap.size->C.ownBlock=some k->vc.ownBlock=some k):rI w' cl bb C ys:=λ y X=>by
 obtain⟨F,D⟩:=h y X;refine⟨F.block hg.size (λ k U o=>hg.block k U (λ e=>?_)),λ k o=>⟨(D k o).1,λ e=>(D k o).2 (Q k (F.own o) e)⟩⟩;obtain⟨Y,J⟩:=D k o;rcases V k e.symm with I|I
 ·omega
 ·exact J I
theorem rI.snoc{w:tW}{vc:tV}{ys:List pB}{y:pB}(h:rI w cl bb vc ys)(C:oH w cl y/\∀k,V3 y k->bb<k/\vc.ownBlock≠some k):rI w cl bb vc (ys++[y]):=λ z D=>by
 rcases MU.1 D with o|o
 ·exact h z o
 ·rw[MS]at o;rw[o];exact C
theorem rI.set{w:tW}{vc:tV}{ys:List pB}(h:rI w cl bb vc ys)(hg:g<=bb)(v:tV):rI (w.setCell ⟨g,k,none⟩ v) cl bb vc ys:=λ y F=>by
 obtain⟨C,o⟩:=h y F;exact⟨C.block (by simp[LO]) (λ j _ D=>MR _ _ _ _ (by simp only;have:=(o j D).1;omega)),o⟩
theorem mG:∀(w:tW)(b o:Nat)(vs:List tV)(k:Nat),k≠b->(w.setCells b o vs).heap[k]?=w.heap[k]? :=by
 intro w b o vs
 induction vs generalizing w o with
 | nil=>intro k _;rfl
 | cons v r ih=>intro k C;exact(ih (w.setCell ⟨b,o,none⟩ v) (o+1) k C).trans (MR _ _ _ _ C)
theorem lC{w:tW}{v:tV}{xs:List tV}(h:w.ownsRow aH e size v n xs){b:Nat}(C:b<aH)(vs:List tV)(o:Nat):(w.setCells b o vs).ownsRow aH e size v n xs:=by
 induction vs generalizing w o with
 | nil=>exact h
 | cons u r ih=>exact ih (QO (a:=⟨b,o,none⟩) h C u) (o+1)
def DD(w:tW)(rb:Nat)(s:tB)(e:Ending)(w':tW):Prop:=
 ∃(bb:Nat)(vc:tV)(ys:List pB),e=.returned (.agg (nS (.slice (some ⟨bb,0,none⟩) (jU s) (jU s)) (gP s) vc).toArray)/\
   pT w' (w.heap.size+2) bb (oG s)/\w'.ownsRow (bb+1) 110 1 vc ys.length (xD ys)/\ys.map (λ y=>y.2.map (·.1))=J8 s/\(∀y∈ys,oH w' (mV s) y/\∀k,V3 y k->bb<k)/\
   w.grownBy w' (some rb)/\zT w' rb s (Nw s)
theorem Px(s:tB)(rb:Nat)(w:tW)(hs:s.size<=120000)(h:zT w rb s (0,false)):
  RC LM 51 #[.pointer (some ⟨rb,0,none⟩)] w λ e w'=>DD w rb s e w':=by
 have HI:=fV (IW.start h);have HT:=fV (iD (w.alloc (.cells LG 72)) LG 72 (w.heap.size+1) 258 bL (by simp));have O6:=h.hb;clear h;go_enter func51,ntmps51;go_wp2_with (first|(refine QS rfl 72 (.tmp 3) (.tmp 11) rfl (w.heap.size+1) 0 LG rfl rfl ?_ ?_ bZ ?_;(rw[bL];exact HT.o);(rw[bL];exact bP)));generalize ((w.alloc (.cells LG 72)).alloc (.cells LG 72)).setCells (w.heap.size+1) 0 Tryz.zeroCells72.toList=W0 at*;clear HT;have a0:((0,false):vY).1<=s.size:=zL;refine(mC s (0,false) 83 83 rb _ hs HI.o.rd a0).mono ?_;rintro e w1 ⟨rfl,sR,A0⟩;have hG:=fV (HI.o.step sR A0);have a1:=lV (lo:=83) (hi:=83) a0;clear HI sR A0;go_wp2_with fail;refine(mC s _ 84 84 rb _ hs hG.o.rd a1).mono ?_;rintro e w2 ⟨rfl,sW,A1⟩;have hH:=fV (hG.o.step sW A1);have a2:=lV (lo:=84) (hi:=84) a1;clear hG sW A1;go_wp2_with fail;refine(mC s _ 1 1 rb _ hs hH.o.rd a2).mono ?_;rintro e w3 ⟨rfl,tL,A2⟩;have hI:QQ (IW w w3 rb s (x7 s) _ _ _):=fV (hH.o.step tL A2);have a3:(x7 s).1<=s.size:=lV (lo:=1) (hi:=1) a2;clear hH tL A2 a0 a1 a2;go_wp2_with fail;refine(mC s _ 1 8 rb _ hs hI.o.rd a3).mono ?_;rintro e w4 ⟨rfl,tO,A3⟩;have bN:QQ (IW w w4 rb s (Wm s) _ _ _):=fV (hI.o.step tO A3);have a4:(Wm s).1<=s.size:=lV (lo:=1) (hi:=8) a3;have O7:1<=jU s/\jU s<=8:=Q7 (by omega);have ER:QQ ((iX s 1 8 (x7 s)).1=jU s):=rfl;rw[ER.o];clear hI tO A3 a3 ER;obtain⟨ru,aW⟩:=xE (jU s)
 rw[aW]at O7 ⊢;replace aW:=fV aW;go_wp2_with fail;refine(Iw s _ ru 5 rb _ hs (by omega) bN.o.rd a4).mono ?_;rintro e w5 ⟨rfl,cP,tT,gL⟩;have e5:oN s 5 ru [] (Wm s)=(oG s,Nv s):=by rw[<-aW.o];rfl
 rw[e5]at cP gL;simp only at cP gL;have bO:=fV (bN.o.step tT gL);have a5:(Nv s).1<=s.size:=by have:=Dc (hi:=5) ru [] (Wm s) a4;rw[e5]at this;exact this
 have M2:(oG s).length=ru:=by have:=lQ (s:=s) (hi:=5) ru [] (Wm s);rw[e5]at this;simpa using this
 have hL:QQ (pT w5 (w.heap.size+2) w4.heap.size (oG s)):=fV ⟨bN.o.hz,by have:=(cP.lt w4.heap.size rfl).2;omega,nV cP⟩;have T2:w.heap.size+2<=w4.heap.size:=bN.o.hz;clear cP tT gL bN a4 e5;generalize w4.heap.size=bb at*;have aO:∀x∈oG s,x<=5:=AF _ _ _ (λ x hx=>by cases hx);obtain⟨L,EL⟩:=xE (oG s)
 rw[EL]at M2 aO hL;replace EL:=fV EL;replace aO:=fV aO;have c0:=bO.o.cell (Pm _ _ _);have f0:=bO.o.fz (k:=0) (by omega);have hJ:=fV (bO.o.set (k:=0) (u:= .slice (some ⟨bb,0,none⟩) ru ru) (by omega) (Wa _ _ _ _) bO.o.hl);have nL:=fV (hL.o.set (g:=w.heap.size+1) (k:=0) (by omega) (.slice (some ⟨bb,0,none⟩) ru ru));go_wp2_with fail;generalize w5.setCell ⟨w.heap.size+1,0,none⟩ (.slice (some ⟨bb,0,none⟩) ru ru)=W6 at*;clear bO hL c0 f0;refine(mC s _ 1 4 rb _ hs hJ.o.rd a5).mono ?_;rintro e w7 ⟨rfl,hS,B1⟩;have eN:=fV (hJ.o.step hS B1);have nN:=fV (nL.o.grown hS (by omega));have O3:1<=xK s/\xK s<=4:=Q7 (by omega);have a7:(iX s 1 4 (Nv s)).2.1<=s.size:=lV (lo:=1) (hi:=4) a5;have ER:QQ ((iX s 1 4 (Nv s)).1=xK s):=rfl;have E6:QQ (Pw s=((iX s 1 4 (Nv s)).2.1,(iX s 1 4 (Nv s)).2.2||vF (oG s) (1+xK s))):=rfl;rw[ER.o];rw[EL.o]at E6;clear hJ nL hS B1 a5 ER;generalize iX s 1 4 (Nv s)=N at*;obtain⟨mm,r7⟩:=N;simp only at a7 E6 eN;obtain⟨X,eM⟩:=xE (xK s)
 rw[eM]at O3 E6 ⊢;replace eM:=fV eM;have c0:=eN.o.cell (Pm _ _ _);go_wp2_with fail;clear c0
 go_loopw [29] (λ x wr=>∃k:Nat,x=.int .i64 (k:Int)/\k<=ru/\IW w wr rb s (r7.1,r7.2||vF (L.take k) (1+X)) (.slice (some ⟨bb,0,none⟩) ru ru) (ME 256 0) (.slice none 0 0)/\pT wr (w.heap.size+2) bb L) (λ x _=>ru-(QP x).toNat)
 case atStart=>
  refine⟨0,rfl,zL,?_,nN.o⟩;have e:(r7.1,r7.2||vF (L.take 0) (1+X))=r7:=by simp[vF]
  rw[e];exact eN.o
 case round=>
  obtain⟨k,rfl,hk,Q,U⟩:=hrel;have Y:=fV Q;have bT:=fV U;clear Q U eN nN;by_cases W3:k<ru
  ·have hU:k<L.length:=by omega
   have eT:=fV (Qk L (1+X) k hU);have hx:wr.cell? ⟨bb,k,none⟩=some (.int .i64 (L[k]:Int)):=by have:=bT.o.2.2 k _ (Q3 L k hU);rw[LN]at this;exact this
   have hX:L[k]<=5:=aO.o _ (OJ hU);generalize L[k]=x at*;have hd:=dT k ru (by omega)
   have f2:=Y.o.rd.fz 2;have c2:=Y.o.rd.c2;by_cases hA:1+X<x
   ·have hR:decide ((1:Int)+(X:Int)<(x:Int))=true:=by simp;omega
    have HE:QQ (vF (L.take (k+1)) (1+X)=true):=by unfold QQ;rw[eT.o];simp[hA]
    have D:=fV (Y.o.step (lP (World.grownBy.refl _ _) 2 (.bool true)) Y.o.rd.setBad);have eO:=fV (bT.o.set (g:=rb) (k:=2) (by omega) (.bool true));clear eT hA;go_wp2;go_roundw
    case rel=>
     refine⟨k+1,by go_num,by omega,?_,eO.o⟩;rw[HE.o,Bool.or_true];exact D.o
    case measure=>simp[QP];omega
   ·have hR:decide ((1:Int)+(X:Int)<(x:Int))=false:=by simp;omega
    have HE:QQ (vF (L.take (k+1)) (1+X)=vF (L.take k) (1+X)):=by unfold QQ;rw[eT.o];simp[hA]
    clear eT hA;go_wp2;go_roundw
    case rel=>
     refine⟨k+1,by go_num,by omega,?_,bT.o⟩;rw[HE.o];exact Y.o
    case measure=>simp[QP];omega
  ·have e:k=ru:=by omega
   subst e;have D:QQ (IW w wr rb s (Pw s) (.slice (some ⟨bb,0,none⟩) k k) (ME 256 0) (.slice none 0 0)):=by
    unfold QQ;have:=Y.o;rw[List.take_of_length_le (by omega),<-E6.o]at this;exact this
   have a6:(Pw s).1<=s.size:=by rw[E6.o];exact a7
   have hd:=dF k k (by omega)
   clear Y;go_wp2_with fail;refine(mC s _ 0 255 rb _ hs D.o.rd a6).mono ?_;rintro e w8 ⟨rfl,hT,B2⟩;have F:QQ (IW w w8 rb s (Tn s) _ _ _):=fV (D.o.step hT B2);have qL:=fV (bT.o.grown hT (by omega));have W7:=Q7 (s:=s) (lo:=0) (hi:=255) (r:=Pw s) (by omega);have a8:(Tn s).1<=s.size:=lV (lo:=0) (hi:=255) a6;have EC:QQ (mV s=1+(iX s 0 255 (Pw s)).1):=rfl;clear D bT hT B2 a6;generalize (iX s 0 255 (Pw s)).1=Z at*;obtain⟨cl,aT⟩:=xE (mV s)
   rw[aT]at EC;have hQ:cl=1+Z:=EC.o;have h8:(cl:Int)-1=(Z:Int):=by omega
   have W1:(1:Int)+(Z:Int)=(cl:Int):=by omega
   have EX:QQ (Z=cl-1):=by unfold QQ;omega
   replace aT:=fV aT;replace hQ:=fV hQ;have N0:cl<=256:=by have:=hQ.o;omega
   clear EC;go_wp2_with fail
   go_loopg [44] 256 (λ gk x wr=>∃(xs:List Nat)(m:Nat)(r':vY),x=.int .i64 (m:Int)/\xs.length=m/\m+gk=256/\r'.1<=s.size/\oN s Z 256 [] (Tn s)=oN s Z gk xs r'/\
    IW w wr rb s r' (.slice (some ⟨bb,0,none⟩) k k) (xs++ME gk 0) (.slice none 0 0)/\pT wr (w.heap.size+2) bb L)
   case atStart=>exact⟨[],0,Tn s,rfl,rfl,rfl,a8,rfl,F.o,qL.o⟩
   case round=>
    obtain⟨xs,m,r',rfl,hX,O0,hW,cF,Q,U⟩:=hrel;have HQ:=fV cF;have bS:=fV Q;have eR:=fV U;have HX:=fV hX;clear cF Q U hX F qL;by_cases H0:m<256
    ·obtain⟨g',rfl⟩:∃g',gk=g'+1:=⟨gk-1,by omega⟩
     have hN:QQ (oN s Z 256 [] (Tn s)=oN s Z g' (xs++[(iX s 0 Z r').1]) (iX s 0 Z r').2):=HQ.o;have hc:=mC s r' 0 Z rb wr hs bS.o.rd hW;have ha:=lV (lo:=0) (hi:=Z) hW;generalize iX s 0 Z r'=N at*;obtain⟨x,r2⟩:=N;simp only at*;have hR:decide ((m:Int)<256)=true:=by simp;omega
     go_wp2_with fail;refine hc.mono ?_;rintro e w9 ⟨rfl,I,cN⟩;have bC:=fV (bS.o.step I cN);have qR:=fV (eR.o.grown I (by omega));clear I cN bS eR hc HQ;have hV:m<(xs++ME (g'+1) 0).length:=by rw[bC.o.hl];exact H0
     have HE:QQ ((xs++ME (g'+1) 0).set m x=(xs++[x])++ME g' 0):=by unfold QQ;rw[<-HX.o];exact Nn xs g' x
     have lH:=fV (bC.o.set (k:=1+m) (u:= .int .i64 (x:Int)) (by omega) (Wb _ _ _ m x hV) (by rw[QG];exact bC.o.hl));have H6:=fV (qR.o.set (g:=w.heap.size+1) (k:=1+m) (by omega) (.int .i64 (x:Int)));have cm:=bC.o.cell (s9 _ _ _ m hV);have fm:=bC.o.fz (k:=1+m) (by omega);rw[HE.o]at lH;generalize (xs++ME (g'+1) 0)[m]=old at*;clear bC qR hV HE;have W4:(0:Int)<=(m:Int)/\(m:Int)<256:=by omega
     go_wp2;go_roundg g'
     case measure=>omega
     case rel=>exact⟨xs++[x],m+1,r2,by go_num,by simp[HX.o],by omega,ha,hN.o,lH.o,H6.o⟩
    ·have e:gk=0:=by omega
     subst e;have HE:QQ (gP s=xs/\x8 s=r'):=by
      have e1:oN s Z 256 [] (Tn s)=(xs,r'):=HQ.o;have e2:mV s-1=Z:=by rw[aT.o,EX.o]
      unfold QQ gP x8;rw[e2,e1];exact⟨rfl,rfl⟩
     have hK:=bS;rw[List.replicate_zero,OQ]at hK;have hR:decide ((m:Int)<256)=false:=by simp;omega
     clear bS HQ O0;go_wp2_with fail
     go_loopg [10] X (λ gk _ wr=>∃(ys:List pB)(vc:tV)(j:Nat)(r2:vY),ys.length=j/\j+gk=X/\r2.1<=s.size/\
      pW s k cl X [] r'=pW s k cl gk (ys.map (λ y=>y.2.map (·.1))) r2/\IW w wr rb s r2 (.slice (some ⟨bb,0,none⟩) k k) xs vc/\pT wr (w.heap.size+2) bb L/\
      wr.ownsRow (bb+1) 110 1 vc j (xD ys)/\rI wr cl bb vc ys)
     case atStart=>exact⟨[],.slice none 0 0,0,r',rfl,by omega,hW,rfl,hK.o,eR.o,LU _ _ _ _,λ y hy=>absurd hy (OK)⟩
     case round=>
      obtain⟨ys,vc,j,r2,hC,W2,H3,cF,Q,U,H1,rT⟩:=hrel;have HQ:=fV cF;have C:=fV Q;have eS:=fV U;have bK:=fV H1;have hF:=fV rT;have HY:=fV hC;clear cF Q U H1 rT hC hK eR;obtain⟨va,aU,O8⟩:=gA bK.o;subst O8;by_cases S2:j<X
      ·obtain⟨g',rfl⟩:∃g',gk=g'+1:=⟨gk-1,by omega⟩
       have hN:QQ (pW s k cl X [] r'=pW s k cl g' (ys.map (λ y=>y.2.map (·.1))++[(rD s k cl r2).1]) (rD s k cl r2).2):=HQ.o;have hc:=Wg s r2 k cl rb wr hs N0 C.o.rd H3;have ha:=Ky (ru:=k) (cl:=cl) H3;generalize rD s k cl r2=N at*;obtain⟨zl,r3⟩:=N;simp only at*;have N1:=dT j X (by omega)
       have aL:=C.o.cell (yI _ _ _ C.o.hl);go_wp2_with fail;refine hc.mono ?_;rintro e w9 ⟨B,zs,hB,rfl,H4,eL,aR,I,cN⟩;have D:=fV (C.o.step I cN);have eO:=fV (eS.o.grown I (by omega));have hM:QQ (w9.ownsRow (bb+1) 110 1 (.slice va j aU) j (xD ys)):=fV (bK.o.kept I (by
        cases hv:(MZ va j aU).ownBlock with
        | none=>exact .inl rfl
        | some q=>right;have:=(bK.o.lt q hv).1;intro e;injection e;omega))
       have T3:bb<wr.heap.size:=eS.o.2.1;have hY:QQ (rI w9 cl bb (.slice va j aU) (ys++[(B,zs)])):=fV ((hF.o.move I (λ q V=>by injection V;left;omega) (λ q _ V=>V)).snoc ⟨⟨(eL.lt B rfl).2,by
         intro i u hu;have:=eL.cells rfl i u hu;by_cases hi:i=0
         ·subst hi;simpa[Addr.add]using this
         ·simpa[Addr.add,hi]using this,λ z hz=>⟨(aR z hz).2.1,(aR z hz).2.2⟩⟩,λ q V=>by
         have W5:B<=q:=by
          rcases V with rfl|⟨z,hz,rfl⟩
          ·exact lR
          ·have:=(aR z hz).1;omega
         refine⟨by omega,λ e=>?_⟩;have:=(bK.o.lt q e).2;omega⟩)
       have HZ:=fV H4;clear I cN eL aR H4 C eS bK hF hc HQ aL;have aL:=D.o.cell (yI _ _ _ D.o.hl);have W8:wr.heap.size<=w9.heap.size:=by have:=hY.o (B,zs) (MU.2 (.inr (MS.2 rfl)));have:=this.1.lt;simp only at this;omega
       go_wp2_with (first|(at_builtin;refine gB w9 rfl (.tmp 65) (.tmp 67) 52 rfl (bb+1) 110 (.slice none 0 0) 1 24 underlying52 eJ rfl (by decide) (by decide) _ j (xD ys) [.slice (some ⟨B,0,none⟩) zs.length zs.length] _ rfl hM.o _ rfl rfl rfl (by simp[MG]) (by omega) (by omega) ?_;intro ga hE wa H2 eX rO S5;have F:=fV ((D.o.other (OD w9 _ none) (λ q V=>by cases V)).other eX (λ q V=>by have:=(hM.o.lt q V).1;omega));have O9:=F.o.cell (yI _ _ _ F.o.hl);have P0:=F.o.fz (k:=257) (by omega);clear aL));have O5:∀q,q<(w9.alloc (.cells #[.slice (some ⟨B,0,none⟩) zs.length zs.length] 110)).heap.size->(MZ (some ⟨ga,0,none⟩) (j+1) hE).ownBlock=some q->(MZ va j aU).ownBlock=some q:=λ q V e=>by
        have e':ga=q:=by simpa[MH]using e
        subst e';rcases rO with h1|h1
        ·exact h1
        ·simp at V;omega
       go_roundg g'
       case measure=>omega
       case rel=>
        refine⟨ys++[(B,zs)],.slice (some ⟨ga,0,none⟩) (j+1) hE,j+1,r3,by simp[HY.o],by omega,ha,?_,?_,?_,?_,?_⟩
        ·rw[OF,PX];simp only;rw[HZ.o];exact hN.o
        ·exact F.o.set (k:=257) (by omega) (Ln _ _ _ _ F.o.hl) F.o.hl
        ·refine pT.set ((eO.o.grown (g:=w.heap.size) (OD w9 _ _) (by omega)).block eX.size (eX.block bb (by simp;have:=eO.o.2.1;omega) (λ e=>?_))) (by omega) _;have:=(hM.o.lt bb e.symm).1;omega
        ·rw[By];exact QO H2 (by show w.heap.size+1<bb+1;omega) _
        ·exact rI.set ((hY.o.move (OD w9 _ none) (λ q V=>by cases V) (λ q _ V=>V)).move eX (λ q V=> .inr V) O5) (by omega) _
      ·have e:gk=0:=by omega
       subst e;have iN:QQ (J8 s=ys.map (λ y=>y.2.map (·.1))/\Nw s=r2):=by
        have e1:pW s k cl X [] r'=(ys.map (λ y=>y.2.map (·.1)),r2):=HQ.o;unfold QQ J8 Nw;rw[aW.o,aT.o,eM.o,HE.o.2,e1];exact⟨rfl,rfl⟩
       have aL:=C.o.cell (yI _ _ _ C.o.hl);have N1:=dF j X (by omega)
       have hD:=fV (yJ (vb:= .slice (some ⟨bb,0,none⟩) k k) (vc:= .slice va j aU) (cs:=xs) rfl rfl);have J:=fV (nY (.slice (some ⟨bb,0,none⟩) k k) xs (.slice va j aU) C.o.hl);obtain⟨IL,bM⟩:=xE (nS (.slice (some ⟨bb,0,none⟩) k k) xs (.slice va j aU))
       have H5:QQ (wr.rangeAt (w.heap.size+1) 0 IL):=by rw[<-bM];exact C.o.im
       rw[bM]at hD J;replace bM:=fV bM;have rL:QQ (IL.toArray.size=258):=by unfold QQ;simpa using J.o
       go_wp2_with (first|(refine QR rfl 72 (.tmp 3) rfl (w.heap.size+1) 0 rfl IL _ H5.o MQ rfl ?_ ?_;(rw[J.o];exact bP))|(refine QS rfl 72 (.tmp 2) (.tmp 70) rfl w.heap.size 0 IL.toArray rfl rfl ?_ ?_ (QT hD.o) ?_;(rw[rL.o];exact C.o.t0);(rw[rL.o];exact bP)));have L1:QQ (wr.there w.heap.size 0 IL.length):=by unfold QQ;rw[J.o];exact C.o.t0
       refine lE results51 w.heap.size 0 IL _ rfl ?_ MQ rfl (by rw[J.o];exact bP) rfl ?_
       ·exact MA _ _ _ _ L1.o
       ·have hP:=fX IL 0 wr w.heap.size (NB w.heap.size _) lR;have hC:=HY.o;refine⟨bb,.slice va j aU,ys,?_,?_,?_,iN.o.1.symm,λ y hy=>?_,?_,?_⟩
        ·rw[aW.o,HE.o.1,bM.o]
        ·rw[EL.o];exact eS.o.block hP.size (mG wr w.heap.size 0 IL bb (by omega))
        ·rw[hC];exact lC bK.o (by omega) IL 0
        ·rw[aT.o];obtain⟨h1,h2⟩:=hF.o y hy;exact⟨h1.block hP.size (λ q _ ho=>mG wr w.heap.size 0 IL q (by have:=(h2 q ho).1;omega)),λ q ho=>(h2 q ho).1⟩
        ·exact oJ C.o.g _ _ _ lR
        ·rw[iN.o.2];exact C.o.rd.below hP O6
theorem lM(s:tB)(i n:Nat)(most:Int)(w:tW)(Y:s.size<=RA)(hi:i<=1000000000)(hn:n<=1000000000):
  RC LM 117 #[.string s,.int .i64 i,.int .i64 n,.int .i64 most] w λ e w'=>e=.returned (.bool (kT s i n most))/\w'=w:=by
 unfold RA at Y;by_cases J:s.size<i+n
 ·have D:=If (most:=most) J;rw[D];clear D;go_enter func117,ntmps117;go_wp2;go_ret;exact⟨rfl,rfl⟩
 ·go_enter func117,ntmps117;go_wp2
  go_loop [9] (λ k=>∃j:Nat,j<=n/\k=.int .i64 ((i+j:Nat):Int)/\∀l,l<j->(bt s (i+l):Int)<=most) (λ k=>i+n-(QP k).toNat)
  case atStart=>exact⟨0,zL,rfl,λ l h=>absurd h (OG _)⟩
  case round=>
   obtain⟨j,hj,rfl,C⟩:=hrel;have Q:QQ (∀l,l<j->(bt s (i+l):Int)<=most):=C;clear C;by_cases F:j<n
   ·have Z:=kL s (i+j) (by omega);have V:=mT s (i+j);by_cases U:(bt s (i+j):Int)<=most
    ·go_wp2;go_round
     case rel=>
      refine⟨j+1,F,by go_num,?_⟩;intro l X;by_cases e:l=j
      ·rw[e];exact U
      ·exact Q.o l (by omega)
     case measure=>simp[QP];omega
    ·have D:=Vf (i:=i) (most:=most) F (Int.not_le.mp U);have I:QQ (kT s i n most=false):=D;clear D;go_wp2;go_ret;exact⟨by rw[I.o];rfl,rfl⟩
   ·have D:=oC (s:=s) (i:=i) (n:=n) (most:=most) (by omega) (λ l X=>Q.o l (by omega));have I:QQ (kT s i n most=true):=D;clear D;go_wp2;go_ret;exact⟨by rw[I.o];rfl,rfl⟩
theorem E4(s:tB)(o C:Nat)(i n most:Int)(w:tW)(I:s.size<=1000000)(hi:o<=1000000000)(hn:C<=1000000000)(D:i=(o:Int))(F:n=(C:Int)):
  RC LM 117 #[.string s,.int .i64 i,.int .i64 n,.int .i64 most] w λ e w'=>e=.returned (.bool (kT s o C most))/\w'=w:=by
 subst D F;exact lM s o C most w (by unfold RA;omega) hi hn
theorem U7{a:Nat}(o:a<=255)(C:b<=257):a*b<=65535:=NF (NI o C) (by decide)
theorem Ee(s:tB)(aX aM i b:Nat)(w:tW)(hs:s.size<=120000)(hi:i<=1000000)(hm:aM<=256)
  (h0:w.cell? ⟨b,0,none⟩=some (.string s)) (h1:w.cell? ⟨b,1,none⟩=some (.int .i64 aX)) (h4:w.cell? ⟨b,4,none⟩=some (.int .i64 aM)):
  RC LM 118 #[.pointer (some ⟨b,0,none⟩),.int .i64 i] w λ e w'=>
   e=.returned (.tuple #[.int .i64 (IR s aX aM i),.int .i64 (tZ s aX aM i),.bool (rX s aX aM i)])/\∃q,w'=w.drewN q:=by
 by_cases hb:kT s i 1 100=true
 case neg=>
  have C:¬(rX s aX aM i=true):=by
   intro h;rw[nJ]at h;exact hb (oC h.1 (λ j hj=>by
    have:j=0:=by omega
    subst this;simp;have:=h.2.1;omega))
  obtain⟨J,I,V⟩:=Hn C;rw[J,I,V];clear J I V C;have hb:kT s i 1 100=false:=by simpa using hb
  go_enter PG,OZ;go_wp2_with (first|(go_at_call 117;refine(lM _ _ 1 100 _ (by unfold RA;omega) (by omega) (by omega)).mono ?_;rintro e w ⟨rfl,rfl⟩));go_ret3;exact⟨rfl,0,rfl⟩
 have bK:i+1<=s.size/\bt s i<=100:=by
  unfold kT at hb;simp only[MF,aE]at hb;have:=hb.2 0 (by omega);simp at this;exact⟨hb.1,by omega⟩
 obtain⟨bN,aT⟩:=bK;have eL:=kL s i (by omega);by_cases hz:bt s i=0
 ·have C:¬(rX s aX aM i=true):=by
   intro h;rw[nJ]at h;exact h.2.2.1 hz
  obtain⟨J,I,V⟩:=Hn C;rw[J,I,V];clear J I V C;go_enter PG,OZ;go_wp2_with (first|(go_at_call 117;refine(lM _ _ 1 100 _ (by unfold RA;omega) (by omega) (by omega)).mono ?_;rintro e w ⟨rfl,rfl⟩));go_ret3;exact⟨rfl,0,rfl⟩
 have U:=U7 (a:=bt s i) (b:=1+aM) (by omega) (by omega);have eR:(0:Int)<=(bt s i:Int)*(1+(aM:Int))/\(bt s i:Int)*(1+(aM:Int))<=65535:=by
  have e:((bt s i*(1+aM):Nat):Int)=(bt s i:Int)*(1+(aM:Int)):=by simp
  omega
 by_cases Y:s.size<i+1+bt s i*(1+aM)
 ·have C:¬(rX s aX aM i=true):=by
   intro h;rw[nJ]at h;omega
  obtain⟨J,I,V⟩:=Hn C;rw[J,I,V];have hl:(s.size:Int)<(i:Int)+1+(bt s i:Int)*(1+(aM:Int)):=by
   have e:((bt s i*(1+aM):Nat):Int)=(bt s i:Int)*(1+(aM:Int)):=by simp
   omega
  clear J I V C Y U;go_enter PG,OZ;go_wp2_with (first|(go_at_call 117;refine(lM _ _ 1 100 _ (by unfold RA;omega) (by omega) (by omega)).mono ?_;rintro e w ⟨rfl,rfl⟩));go_ret3;exact⟨rfl,0,rfl⟩
 have hl:(i:Int)+1+(bt s i:Int)*(1+(aM:Int))<=(s.size:Int):=by
  have e:((bt s i*(1+aM):Nat):Int)=(bt s i:Int)*(1+(aM:Int)):=by simp
  omega
 have HL:QQ (i+1+bt s i*(1+aM)<=s.size):=by unfold QQ;omega
 clear Y U;have eT:((bt s i:Int)==0)=false:=aC.2 (by omega);have eO:decide ((s.size:Int)<(i:Int)+1+(bt s i:Int)*(1+(aM:Int)))=false:=by simp;omega
 go_enter PG,OZ;go_wp2_with (first|(go_at_call 117;refine(lM _ _ 1 100 _ (by unfold RA;omega) (by omega) (by omega)).mono ?_;rintro e w ⟨rfl,rfl⟩))
 go_loopw [10] (λ k w'=>∃st q:Nat,st<=bt s i/\k=.int .i64 (st:Int)/\w'=w.drewN q/\∀l,l<st->I4 s aX aM (bt s i) (i+1+l*(1+aM))=true) (λ k _=>bt s i-(QP k).toNat)
 case atStart=>exact⟨0,0,zL,rfl,rfl,λ l h=>absurd h (OG _)⟩
 case round=>
  obtain⟨st,q,eS,rfl,rfl,Q⟩:=hrel;have HA:QQ (∀l,l<st->I4 s aX aM (bt s i) (i+1+l*(1+aM))=true):=Q;clear Q;by_cases X:st<bt s i
  ·have U:st*(1+aM)+(1+aM)<=bt s i*(1+aM):=by
    have:=OM (1+aM) (show st+1<=bt s i from X);rw[NQ]at this;omega
   have bO:(0:Int)<=(st:Int)*(1+(aM:Int))/\(st:Int)*(1+(aM:Int))+(1+(aM:Int))<=(bt s i:Int)*(1+(aM:Int)):=by
    have e:((bt s i*(1+aM):Nat):Int)=(bt s i:Int)*(1+(aM:Int)):=by simp
    have I:((st*(1+aM):Nat):Int)=(st:Int)*(1+(aM:Int)):=by simp
    omega
   have HM:QQ (st*(1+aM)+(1+aM)<=bt s i*(1+aM)):=U;clear U;obtain⟨a,bC⟩:∃a:Nat,a=i+1+st*(1+aM):=⟨_,rfl⟩
   have ha:(i:Int)+1+(st:Int)*(1+(aM:Int))=(a:Int):=by
    have I:((st*(1+aM):Nat):Int)=(st:Int)*(1+(aM:Int)):=by simp
    omega
   have cP:a+1+aM<=s.size:=by omega
   have aR:QQ (a=i+1+st*(1+aM)):=bC;clear bC bO;have bS:=kL s a (by omega);have eM:=mT s a;by_cases aO:bt s a<=aX
   ·have cN:decide (aX<bt s a)=false:=by simp;omega
    go_wp2;go_quiet (fail);go_wp2
    go_loopw [12] (λ k w'=>∃F q2:Nat,w'=w.drewN q2/\F<=aM/\k=.int .i64 ((F+1:Nat):Int)/\∀l,l<F->bt s (a+(l+1))<bt s i\/bt s (a+(l+1))=255) (λ k _=>1+aM-(QP k).toNat)
    case atStart=>exact⟨0,q+nq,by simp,zL,rfl,λ l h=>absurd h (OG _)⟩
    case round=>
     obtain⟨F,q2,rfl,eN,rfl,Q⟩:=hrel;have HK:QQ (∀l,l<F->bt s (a+(l+1))<bt s i\/bt s (a+(l+1))=255):=Q;clear Q;by_cases Z:F<aM
     ·have bT:=kL s (a+(F+1)) (by omega);have cF:=mT s (a+(F+1));by_cases D:bt s (a+(F+1))<bt s i\/bt s (a+(F+1))=255
      ·have HG:QQ (bt s (a+(F+1))<bt s i\/bt s (a+(F+1))=255):=D;by_cases bM:bt s i<=bt s (a+(F+1))
       ·have aW:bt s (a+(F+1))=255:=by omega
        clear D;go_wp2;go_roundw
        case rel=>
         refine⟨F+1,q2,rfl,Z,by go_num,?_⟩;intro l hl;by_cases e:l=F
         ·rw[e];exact HG.o
         ·exact HK.o l (by omega)
        case measure=>simp[QP];omega
       ·clear D;go_wp2;go_roundw
        case rel=>
         refine⟨F+1,q2,rfl,Z,by go_num,?_⟩;intro l hl;by_cases e:l=F
         ·rw[e];exact HG.o
         ·exact HK.o l (by omega)
        case measure=>simp[QP];omega
      ·have C:¬(rX s aX aM i=true):=by
        intro h;rw[nJ]at h;have h5:=h.2.2.2.2 st X;rw[qJ,<-aR.o]at h5;exact D (h5.2 F Z)
       obtain⟨J,I,V⟩:=Hn C;have E:QQ (IR s aX aM i=0/\tZ s aX aM i=i/\rX s aX aM i=false):=⟨J,I,V⟩
       have bM:bt s i<=bt s (a+(F+1)):=by omega
       have aW:bt s (a+(F+1))≠255:=by omega
       clear J I V C D;go_wp2;go_ret3;refine⟨?_,q2,rfl⟩;rw[E.o.1,E.o.2.1,E.o.2.2]
       rfl
     ·have e:F=aM:=by omega
      subst e;go_wp2;go_roundw
      case rel=>
       refine⟨st+1,q2,X,by go_num,rfl,?_⟩;intro l hl;by_cases e:l=st
       ·rw[e,qJ,<-aR.o];exact⟨aO,HK.o⟩
       ·exact HA.o l (by omega)
      case measure=>simp[QP];omega
   ·have C:¬(rX s aX aM i=true):=by
     intro h;rw[nJ]at h;have h5:=h.2.2.2.2 st X;rw[qJ,<-aR.o]at h5;exact aO h5.1
    obtain⟨J,I,V⟩:=Hn C;have E:QQ (IR s aX aM i=0/\tZ s aX aM i=i/\rX s aX aM i=false):=⟨J,I,V⟩
    clear J I V C;go_wp2;go_quiet (fail);go_wp2;go_ret3;refine⟨?_,q+nq,by simp⟩;rw[E.o.1,E.o.2.1,E.o.2.2]
    rfl
  ·have e:st=bt s i:=by omega
   subst e;have aL:rX s aX aM i=true:=nJ.2 ⟨bN,aT,hz,HL.o,HA.o⟩;obtain⟨J,I⟩:=Ed aL;have E:QQ (IR s aX aM i=bt s i/\tZ s aX aM i=i+1+bt s i*(1+aM)/\rX s aX aM i=true):=⟨J,I,aL⟩
   clear J I aL;go_wp2;go_ret3;refine⟨?_,q,rfl⟩;rw[E.o.1,E.o.2.1,E.o.2.2];simp
theorem Wy(s:tB)(w:tW)(Z:s.size<=120000)(D:B0 s=false):
  RC LM 111 #[.string s] w λ e w'=>
   e=.returned (.tuple #[.pointer none,.bool false])/\w'=w:=by
 have J:QQ (¬(4<=s.size/\(bt s 0=83/\bt s 1=84/\bt s 2=1)/\1<=bt s 3/\bt s 3<=8)):=by
  intro h;rw[pJ.2 h]at D;cases D
 clear D;by_cases X:s.size<4
 ·go_enter NG,NC;go_wp2;go_ret2;exact⟨rfl,rfl⟩
 have Q:=kL s 3 (by omega);have I:=mT s 3;have C:=FO s (by omega);by_cases U:(s.extract 0 3).toList=[83,84,1]
 ·have F:¬(1<=bt s 3/\bt s 3<=8):=λ h=>J.o ⟨by omega,C.1 U,h⟩
  clear C;by_cases V:bt s 3<1
  ·clear F;go_enter NG,NC;go_wp2;go_ret2;exact⟨rfl,rfl⟩
  ·have Y:8<bt s 3:=by omega
   clear F;go_enter NG,NC;go_wp2;go_ret2;exact⟨rfl,rfl⟩
 ·clear C;go_enter NG,NC;go_wp2;go_ret2;exact⟨rfl,rfl⟩
theorem Wz(s:tB)(w:tW)(Y:s.size<=120000)(D:B0 s=true)(o:xJ s=false):
  RC LM 111 #[.string s] w λ e w'=>
   e=.returned (.tuple #[.pointer none,.bool false])/\Bl w w':=by
 obtain⟨V,F,U,X⟩:=pJ.1 D;have F:=(FO s (by omega)).2 F;have I:(s[3]).toNat=iR s:=kL s 3 (by omega);unfold xJ iM at o;generalize iR s=n at*;clear D;by_cases C:kT s (4+n) 1 4=true
 ·have Z:bt s (4+n)=0:=by simpa[C]using o
  have Q:=sA C;have J:=kL s (4+n) (by omega);clear o;go_enter NG,NC;go_wp2_with (first|(go_at_call 117;refine(lM s (4+n) 1 4 _ (by unfold RA;omega) (by omega) (by omega)).mono ?_;rintro e w ⟨rfl,rfl⟩));go_ret2;exact⟨rfl,bR.alloc lR _⟩
 ·have C:kT s (4+n) 1 4=false:=by simpa using C
  clear o;go_enter NG,NC;go_wp2_with (first|(go_at_call 117;refine(lM s (4+n) 1 4 _ (by unfold RA;omega) (by omega) (by omega)).mono ?_;rintro e w ⟨rfl,rfl⟩));go_ret2;exact⟨rfl,bR.alloc lR _⟩
theorem Xa(s:tB)(w:tW)(hs:s.size<=120000)(I:B0 s=true)(F:xJ s=true)(D:zO s=false):
  RC LM 111 #[.string s] w λ e w'=>
   e=.returned (.tuple #[.pointer none,.bool false])/\Bl w w':=by
 obtain⟨h4,Q,h1,h8⟩:=pJ.1 I;have Q:=(FO s (by omega)).2 Q;have U:(s[3]).toNat=iR s:=kL s 3 (by omega);unfold xJ at F;simp only[MF,aE]at F;obtain⟨J,hz⟩:=F;have Y:=sA J;have C:=yF J 0 (by omega);have V:(s[4+iR s]).toNat=iM s:=kL s (4+iR s) (by omega);have C:iM s<=4:=by unfold iM;simp at C;omega
 unfold zO at D;generalize iM s=m at*;generalize iR s=n at*;clear I;have Z:((m:Int)==0)=false:=aC.2 (by omega);by_cases o:kT s 4 n (1+(m:Int))=true
 ·have X:kT s (5+n) 1 255=false:=by simpa[o]using D
  clear D;go_enter NG,NC;go_wp2_with (first|(go_at_call 117;refine(lM s (4+n) 1 4 _ (by unfold RA;omega) (by omega) (by omega)).mono ?_;rintro e w ⟨rfl,rfl⟩));go_quiet ((go_at_call 117;exact RC.quiet_of_same (lM s 4 n (1+m) _ (by unfold RA;omega) (by omega) (by omega))));go_wp2_with fail;refine(E4 s (5+n) 1 _ _ 255 _ (by omega) (by omega) (by omega) (by omega) rfl).mono ?_;rintro e w ⟨rfl,rfl⟩;go_wp2;go_ret2;exact⟨rfl,by repeat (first|exact bR|apply _root_.Go.below_drewN|refine QK ?_ lR _)⟩
 ·have o:kT s 4 n (1+(m:Int))=false:=by simpa using o
  clear D;go_enter NG,NC;go_wp2_with (first|(go_at_call 117;refine(lM s (4+n) 1 4 _ (by unfold RA;omega) (by omega) (by omega)).mono ?_;rintro e w ⟨rfl,rfl⟩));go_quiet ((go_at_call 117;exact RC.quiet_of_same (lM s 4 n (1+m) _ (by unfold RA;omega) (by omega) (by omega))));go_wp2_with fail;refine(E4 s (5+n) 1 _ _ 255 _ (by omega) (by omega) (by omega) (by omega) rfl).mono ?_;rintro e w ⟨rfl,rfl⟩;go_wp2;go_ret2;exact⟨rfl,by repeat (first|exact bR|apply _root_.Go.below_drewN|refine QK ?_ lR _)⟩
def Y8(s:tB)(c:Nat):List tV:=(MI c).map λ i=> .int .i64 ((pE s i+1:Nat):Int)
def Hm(s:tB)(c:Nat):List tV:=(MI c).map λ i=> .int .i64 (bt s (pE s i))
structure rY(w:tW)(b aH:Nat)(s:tB)(ca cs:Nat)(va vs:tV):Prop where
 c0:w.cell? ⟨b,0,none⟩=some (.string s)
 c1:w.cell? ⟨b,1,none⟩=some (.int .i64 (iR s))
 c2:w.cell? ⟨b,2,none⟩=some (.int .i64 (iM s))
 c3:w.cell? ⟨b,3,none⟩=some (.int .i64 ((6+iR s:Nat):Int))
 c4:w.cell? ⟨b,4,none⟩=some (.int .i64 (iK s))
 c5:w.cell? ⟨b,5,none⟩=some va
 c6:w.cell? ⟨b,6,none⟩=some vs
 f5:w.frozen? ⟨b,5,none⟩=false
 f6:w.frozen? ⟨b,6,none⟩=false
 ra:w.ownsRow aH 3 1 va ca (Y8 s ca)
 rs:w.ownsRow aH 3 1 vs cs (Hm s cs)
 hb:b<aH
 hz:aH<=w.heap.size
 ap:va.ownBlock=none\/va.ownBlock≠vs.ownBlock
theorem rY.drewN{w:tW}{s:tB}{o vs:tV}(h:rY w b aH s ca cs o vs)(q:Nat):rY (w.drewN q) b aH s ca cs o vs:=
 ⟨h.c0,h.c1,h.c2,h.c3,h.c4,h.c5,h.c6,h.f5,h.f6,h.ra,h.rs,h.hb,h.hz,h.ap⟩
theorem K6{w:tW}{v:tV}{xs:List tV}(h:w.ownsRow aH e size v n xs){b:Nat}(o:b<aH):some b≠v.ownBlock:=by
 intro e;have:=h.lt b e.symm;omega
theorem rY.app5{w w1:tW}{s:tB}{X vs:tV}(h:rY w b aH s c cs X vs)(o:Obj){g aJ:Nat}
  (Q:w1.ownsRow aH 3 1 (.slice (some ⟨g,0,none⟩) (c+1) aJ) (c+1) (Y8 s c++[.int .i64 ((pE s c+1:Nat):Int)]))
  (D:(w.alloc o).grownBy w1 X.ownBlock) (Z:X.ownBlock=some g\/g=w.heap.size+1):
  rY (w1.setCell ⟨b,5,none⟩ (.slice (some ⟨g,0,none⟩) (c+1) aJ)) b aH s (c+1) cs (.slice (some ⟨g,0,none⟩) (c+1) aJ) vs:=by
 have aL:=h.hb;have aO:=h.hz;have J:some b≠X.ownBlock:=K6 h.ra h.hb;have F:∀i v,w.cell? ⟨b,i,none⟩=some v->w1.cell? ⟨b,i,none⟩=some v:=λ i v V=>
  D.cell (by rw[MY (hn:=by omega)];exact V) J
 have I:∀i,w1.frozen? ⟨b,i,none⟩=w.frozen? ⟨b,i,none⟩:=λ i=>by
  rw[D.frozen_far ⟨b,i,none⟩ (by simp;omega) J,OE (hn:=by omega)]
 have C:∀i v,i≠5->w.cell? ⟨b,i,none⟩=some v->(w1.setCell ⟨b,5,none⟩ (.slice (some ⟨g,0,none⟩) (c+1) aJ)).cell? ⟨b,i,none⟩=some v:=λ i v hi V=>by
  rw[LF (h:=by intro e;injection e;omega)];exact F i v V
 refine⟨C 0 _ (by omega) h.c0,C 1 _ (by omega) h.c1,C 2 _ (by omega) h.c2,C 3 _ (by omega) h.c3,C 4 _ (by omega) h.c4,
  LI _ _ _ (F 5 _ h.c5),C 6 _ (by omega) h.c6,?_,?_,?_,?_,h.hb,?_,?_⟩
 ·rw[LH,I];exact h.f5
 ·rw[LH,I];exact h.f6
 ·have e:Y8 s (c+1)=Y8 s c++[.int .i64 ((pE s c+1:Nat):Int)]:=by
   unfold Y8;rw[PM,OF];rfl
  rw[e];exact QO Q h.hb _
 ·refine QO ((h.rs.alloc o).kept D ?_) h.hb _;rcases h.ap with e|e
  ·cases V:vs.ownBlock with
   | none=>exact .inl rfl
   | some k=>right;rw[e];simp
  ·exact .inr (Ne.symm e)
 ·have:=D.size;simp[LO]at this ⊢;omega
 ·right;show some g≠vs.ownBlock;intro e;rcases Z with U|U
  ·rcases h.ap with Y|Y
   ·rw[Y]at U;cases U
   ·exact Y (U.trans e)
  ·have:=h.rs.lt g e.symm;omega
theorem rY.app6{w w1:tW}{s:tB}{Y vs:tV}(h:rY w b aH s ca c Y vs)(o:Obj){g aJ:Nat}
  (Q:w1.ownsRow aH 3 1 (.slice (some ⟨g,0,none⟩) (c+1) aJ) (c+1) (Hm s c++[.int .i64 (bt s (pE s c))]))
  (D:(w.alloc o).grownBy w1 vs.ownBlock) (V:vs.ownBlock=some g\/g=w.heap.size+1):
  rY (w1.setCell ⟨b,6,none⟩ (.slice (some ⟨g,0,none⟩) (c+1) aJ)) b aH s ca (c+1) Y (.slice (some ⟨g,0,none⟩) (c+1) aJ):=by
 have aL:=h.hb;have aO:=h.hz;have J:some b≠vs.ownBlock:=K6 h.rs h.hb;have F:∀i v,w.cell? ⟨b,i,none⟩=some v->w1.cell? ⟨b,i,none⟩=some v:=λ i v X=>
  D.cell (by rw[MY (hn:=by omega)];exact X) J
 have I:∀i,w1.frozen? ⟨b,i,none⟩=w.frozen? ⟨b,i,none⟩:=λ i=>by
  rw[D.frozen_far ⟨b,i,none⟩ (by simp;omega) J,OE (hn:=by omega)]
 have C:∀i v,i≠6->w.cell? ⟨b,i,none⟩=some v->(w1.setCell ⟨b,6,none⟩ (.slice (some ⟨g,0,none⟩) (c+1) aJ)).cell? ⟨b,i,none⟩=some v:=λ i v hi X=>by
  rw[LF (h:=by intro e;injection e;omega)];exact F i v X
 refine⟨C 0 _ (by omega) h.c0,C 1 _ (by omega) h.c1,C 2 _ (by omega) h.c2,C 3 _ (by omega) h.c3,C 4 _ (by omega) h.c4,
  C 5 _ (by omega) h.c5,LI _ _ _ (F 6 _ h.c6),?_,?_,?_,?_,h.hb,?_,?_⟩
 ·rw[LH,I];exact h.f5
 ·rw[LH,I];exact h.f6
 ·refine QO ((h.ra.alloc o).kept D ?_) h.hb _;exact h.ap
 ·have e:Hm s (c+1)=Hm s c++[.int .i64 (bt s (pE s c))]:=by
   unfold Hm;rw[PM,OF];rfl
  rw[e];exact QO Q h.hb _
 ·have:=D.size;simp[LO]at this ⊢;omega
 ·right;show Y.ownBlock≠some g;intro e;rcases V with Z|Z
  ·rcases h.ap with U|U
   ·rw[U]at e;cases e
   ·exact U (e.trans Z.symm)
  ·have:=h.ra.lt g e;omega
theorem rY.kept{w w1:tW}{s:tB}{Q vs v:tV}{xs:List tV}(h:rY w b aH s ca cs Q vs){o:Obj}
  (J:w.ownsRow aH 3 1 v n xs) (D:(w.alloc o).grownBy w1 v.ownBlock):
  w1.cell? ⟨b,5,none⟩=some Q/\w1.frozen? ⟨b,5,none⟩=false/\w1.cell? ⟨b,6,none⟩=some vs/\w1.frozen? ⟨b,6,none⟩=false:=by
 have U:=h.hb;have V:=h.hz;have I:some b≠v.ownBlock:=K6 J h.hb;have C:∀i v,w.cell? ⟨b,i,none⟩=some v->w1.cell? ⟨b,i,none⟩=some v:=λ i v J=>
  D.cell (by rw[MY (hn:=by omega)];exact J) I
 have F:∀i,w1.frozen? ⟨b,i,none⟩=w.frozen? ⟨b,i,none⟩:=λ i=>by
  rw[D.frozen_far ⟨b,i,none⟩ (by simp;omega) I,OE (hn:=by omega)]
 exact⟨C 5 _ h.c5,(F 5).trans h.f5,C 6 _ h.c6,(F 6).trans h.f6⟩
theorem rY.start(w:tW)(s:tB)(k D I:Nat)(J:iK s=k+1):
  rY (((((w.alloc (.cells #[.string s,.int .i64 (iR s),.int .i64 (iM s),.int .i64 0,.int .i64 0,.slice none 0 0,.slice none 0 0] 227)).drewN D).setCell ⟨w.heap.size,4,none⟩ (.int .i64 ((k:Int)+1))).setCell
   ⟨w.heap.size,3,none⟩ (.int .i64 (4+(iR s:Int)+2))).drewN I) w.heap.size (w.heap.size+1) s 0 0 (.slice none 0 0) (.slice none 0 0):=by
 have C:∀i v, #[NM s,.int .i64 (iR s),.int .i64 (iM s),.int .i64 0,.int .i64 0,.slice none 0 0,.slice none 0 0][i]?=some v->
   ((w.alloc (.cells #[.string s,.int .i64 (iR s),.int .i64 (iM s),.int .i64 0,.int .i64 0,.slice none 0 0,.slice none 0 0] 227)).drewN D).cell? ⟨w.heap.size,i,none⟩=some v:=λ i v h=>by
  show(w.alloc _).cell? _=_;rw[LP];exact h
 have F:∀i,((w.alloc (.cells #[.string s,.int .i64 (iR s),.int .i64 (iM s),.int .i64 0,.int .i64 0,.slice none 0 0,.slice none 0 0] 227)).drewN D).frozen? ⟨w.heap.size,i,none⟩=false:=λ i=>by
  show(w.alloc _).frozen? _=_;rw[ML]
 have Q:((w.alloc (.cells #[.string s,.int .i64 (iR s),.int .i64 (iM s),.int .i64 0,.int .i64 0,.slice none 0 0,.slice none 0 0] 227)).drewN D).heap.size=w.heap.size+1:=by
  show(w.alloc _).heap.size=_;simp
 generalize ((w.alloc (.cells #[.string s,.int .i64 (iR s),.int .i64 (iM s),.int .i64 0,.int .i64 0,.slice none 0 0,.slice none 0 0] 227)).drewN D)=W at*;refine rY.drewN ?_ I;have o:∀i v,i≠3->i≠4->W.cell? ⟨w.heap.size,i,none⟩=some v->((W.setCell ⟨w.heap.size,4,none⟩ (.int .i64 ((k:Int)+1))).setCell ⟨w.heap.size,3,none⟩ (.int .i64 (4+(iR s:Int)+2))).cell? ⟨w.heap.size,i,none⟩=some v:=λ i v V X U=>by
  rw[LF (h:=by intro e;injection e;omega),LF (h:=by intro e;injection e;omega)];exact U
 refine⟨o 0 _ (by omega) (by omega) (C 0 _ rfl),o 1 _ (by omega) (by omega) (C 1 _ rfl),o 2 _ (by omega) (by omega) (C 2 _ rfl),?_,?_,
  o 5 _ (by omega) (by omega) (C 5 _ rfl),o 6 _ (by omega) (by omega) (C 6 _ rfl),?_,?_,LU _ _ _ _,LU _ _ _ _,by omega,?_,.inl rfl⟩
 ·rw[LI (u:= .int .i64 0)]
  ·congr 2;omega
  ·rw[LF (h:=by intro e;injection e;omega)];exact C 3 _ rfl
 ·rw[LF (h:=by intro e;injection e;omega),LI (h:=C 4 _ rfl)];rw[J];rfl
 ·rw[LH,LH];exact F 5
 ·rw[LH,LH];exact F 6
 ·simp[LO];omega
theorem Vz{s:tB}(C:s.size<=120000)(o:iR s<=8)(h:∀l,l<c->rX s (iR s) (iK s) (pE s l)=true):pE s c<=120000:=by
 cases c with
 | zero=>show 262+iR s<=120000;omega
 | succ n=>have:=(B3 (h n (OC n))).2;omega
theorem Qn(s:tB)(w:tW)(hs:s.size<=120000)(hA:B0 s=true)(hB:xJ s=true)(hC:zO s=true):
  RC LM 111 #[.string s] w λ e w'=>
   ∃v,e=.returned (.tuple #[v,.bool (iF s)])/\Bl w w'/\(iF s=true->v=.pointer (some ⟨w.heap.size,0,none⟩)/\∃va vs,rY w' w.heap.size (w.heap.size+1) s (iM s) (iM s) va vs):=by
 obtain⟨h4,hp,h1,h8⟩:=pJ.1 hA;have hp:=(FO s (by omega)).2 hp;have hE:(s[3]).toNat=iR s:=kL s 3 (by omega);have aL:=hB;unfold xJ at aL;simp only[MF,aE]at aL;obtain⟨hb,hz⟩:=aL;have hM:=sA hb;have bN:=yF hb 0 (by omega);have hF:(s[4+iR s]).toNat=iM s:=kL s (4+iR s) (by omega);have bN:iM s<=4:=by unfold iM;simp at bN;omega
 have aO:=hC;unfold zO at aO;simp only[MF]at aO;obtain⟨hG,cP⟩:=aO;have eR:=sA cP;have hbk:(s[4+iR s+1]).toNat=bt s (5+iR s):=by rw[kL s (4+iR s+1) (by omega)];congr 1;omega
 have hL:=mT s (5+iR s);have hP:((iM s:Int)==0)=false:=aC.2 (by omega);have HK:QQ (iK s=bt s (5+iR s)+1):=rfl;have hJ:decide ((s.size:Int)<4)=false:=by simp;omega
 have hI:decide ((iR s:Int)<1)=false:=by simp;omega
 have hK:decide (8<(iR s:Int))=false:=by simp;omega
 by_cases hD:yH s=true
 ·have hd:kT s (6+iR s) 256 (bt s (5+iR s):Int)=true:=by
   have:yH s=kT s (6+iR s) 256 (bt s (5+iR s):Int):=by unfold yH iK;congr 1;omega
   rw[<-this];exact hD
  have eS:=sA hd;have HH:QQ (B0 s=true/\xJ s=true/\zO s=true/\yH s=true):=⟨hA,hB,hC,hD⟩
  clear hA hB hC hD;generalize hkk:bt s (5+iR s)=k at*;have gL:QQ (bt s (5+iR s)=k):=hkk;clear hkk;go_enter NG,NC;go_wp2_with (first|(go_at_call 117;refine(lM s (4+iR s) 1 4 _ (by unfold RA;omega) (by omega) (by omega)).mono ?_;rintro e w ⟨rfl,rfl⟩));go_quiet ((go_at_call 117;exact RC.quiet_of_same (lM s 4 (iR s) (1+iM s) _ (by unfold RA;omega) (by omega) (by omega))));go_wp2_with fail;refine(E4 s (5+iR s) 1 _ _ 255 _ (by omega) (by omega) (by omega) (by omega) rfl).mono ?_;rintro e w ⟨rfl,rfl⟩;go_wp2_with fail;go_quiet ((go_at_call 117;exact RC.quiet_of_same (E4 s (6+iR s) 256 _ _ k _ (by omega) (by omega) (by omega) (by omega) rfl)));go_wp2_with fail;rw[hd]
  go_loopw [8,9] (λ a c wr=>∃(cn:Nat)(va vs:tV),cn<=iM s/\c=.int .i64 cn/\a=.int .i64 (pE s cn)/\(∀l,l<cn->rX s (iR s) (iK s) (pE s l)=true)/\rY wr w.heap.size (w.heap.size+1) s cn cn va vs/\Bl w wr)
   (λ _ c _=>4-(QP c).toNat)
  case atStart=>
   refine⟨0,.slice none 0 0,.slice none 0 0,zL,rfl,?_,λ l h=>absurd h (OG _),?_,?_⟩
   ·show _=MM .i64 ((262+iR s:Nat):Int);go_num
   ·exact rY.start w s k _ _ (by rw[HK.o])
   ·exact _root_.Go.below_drewN (((_root_.Go.below_drewN ((NB w.heap.size w).alloc lR _) _).setCell (p:=⟨w.heap.size,4,none⟩) lR _).setCell (p:=⟨w.heap.size,3,none⟩) lR _) _
  case round=>
   obtain⟨cn,va,vs,hH,rfl,rfl,U,C,J⟩:=hrel;have hN:=Vz hs h8 U;have bM:=C.c2;have HA:QQ (∀l,l<cn->rX s (iR s) (iK s) (pE s l)=true):=U;clear U;have bT:=J.size;by_cases Y:cn<iM s
   ·cases hst:rX s (iR s) (iK s) (pE s cn)with
    | false=>
     have bO:=Qi Y hst;have V:=Hn (s:=s) (aX:=iR s) (aM:=iK s) (i:=pE s cn) (by rw[hst];simp);have HN:QQ (iF s=false):=bO;clear bO;go_wp2_with fail;refine(Ee s (iR s) (iK s) (pE s cn) w.heap.size _ hs (by omega) (Tj s) C.c0 C.c1 C.c4).mono ?_;rintro e eL ⟨rfl,q,rfl⟩;rw[V.1,V.2.1,V.2.2];go_wp2;go_ret2;refine⟨.pointer none,by rw[HN.o];rfl,_root_.Go.below_drewN J _,λ h=>?_⟩;rw[HN.o]at h;cases h
    | true=>
     have Z:=Ed hst;have bC:=B3 hst;go_wp2_with fail;refine(Ee s (iR s) (iK s) (pE s cn) w.heap.size _ hs (by omega) (Tj s) C.c0 C.c1 C.c4).mono ?_;rintro e eL ⟨rfl,q,rfl⟩;rw[Z.1,Z.2,hst];have D:=C.drewN q;have aR:=_root_.Go.below_drewN J q;have eN:=D.hz;generalize wr.drewN q=wq at*;clear C J bT bM;have eO:=D.c5;go_wp2_with (first
      | (at_builtin;refine gB wq rfl (.tmp 134) (.tmp 137) 59 rfl (w.heap.size+1) 3 (.int .i64 0) 1 8 NE bU rfl (by decide) (by decide) va cn (Y8 s cn) [.int .i64 ((pE s cn:Int)+1)] _ rfl D.ra _ rfl rfl rfl (by simp[MG]) (by omega) (by omega) ?_;intro g aJ w1 bS Q cF eT;obtain⟨k5,hR,k6,hS⟩:=D.kept D.ra Q;have F:=D.app5 _ bS Q cF;have hQ:=F.hz)
      | (at_builtin;refine gB (w1.setCell ⟨w.heap.size,5,none⟩ (.slice (some ⟨g,0,none⟩) (cn+1) aJ)) rfl (.tmp 145) (.tmp 147) 59 rfl (w.heap.size+1) 3 (.int .i64 0) 1 8 NE bU rfl (by decide) (by decide) vs cn (Hm s cn) [.int .i64 (bt s (pE s cn))] _ rfl F.rs w1.heap.size (by simp) rfl rfl (by simp[MG]) (by omega) (by omega) ?_;intro g2 eM w2 aW I bK eX;obtain⟨m5,hT,m6,hU⟩:=F.kept F.rs I;have aT:=F.app6 _ aW I bK))
     go_roundw
     case rel=>
      refine⟨cn+1,_,_,Y,by go_num,?_,?_,aT,?_⟩
      ·rw[bC.1];simp
      ·intro l hl;by_cases e:l=cn
       ·rw[e];exact hst
       ·exact HA.o l (by omega)
      ·have cN:=(lN aR (by omega) D.ra (by omega) Q).setCell (p:=⟨w.heap.size,5,none⟩) lR (.slice (some ⟨g,0,none⟩) (cn+1) aJ);exact(lN cN (by omega) F.rs (by omega) I).setCell (p:=⟨w.heap.size,6,none⟩) lR _
     case measure=>simp[QP];omega
   ·have e:cn=iM s:=by omega
    have X:iF s=decide (pE s cn=s.size):=by
     rw[OO,mM,aE,e];rw[e]at HA;exact⟨λ h=>h.2.2.2.2.2,λ h=>⟨HH.o.1,HH.o.2.1,HH.o.2.2.1,HH.o.2.2.2,HA.o,h⟩⟩
    have HF:QQ (iF s=decide (pE s cn=s.size)):=X;have E:QQ (cn=iM s):=e;clear X e;go_wp2;go_ret2;refine⟨.pointer (some ⟨w.heap.size,0,none⟩),?_,J,λ _=>⟨rfl,va,vs,?_⟩⟩
    ·rw[HF.o];simp;rw[OO,beq_iff_eq,aE];omega
    ·rw[<-E.o];exact C
 ·have hd:kT s (6+iR s) 256 (bt s (5+iR s):Int)=false:=by
   have:yH s=kT s (6+iR s) 256 (bt s (5+iR s):Int):=by unfold yH iK;congr 1;omega
   rw[<-this];simpa using hD
  have HN:QQ (iF s=false):=Wv (by simpa using hD);clear hA hB hC hD;generalize hkk:bt s (5+iR s)=k at*;clear hkk;go_enter NG,NC;go_wp2_with (first|(go_at_call 117;refine(lM s (4+iR s) 1 4 _ (by unfold RA;omega) (by omega) (by omega)).mono ?_;rintro e w ⟨rfl,rfl⟩));go_quiet ((go_at_call 117;exact RC.quiet_of_same (lM s 4 (iR s) (1+iM s) _ (by unfold RA;omega) (by omega) (by omega))));go_wp2_with fail;refine(E4 s (5+iR s) 1 _ _ 255 _ (by omega) (by omega) (by omega) (by omega) rfl).mono ?_;rintro e w ⟨rfl,rfl⟩;go_wp2_with fail;go_quiet ((go_at_call 117;exact RC.quiet_of_same (E4 s (6+iR s) 256 _ _ k _ (by omega) (by omega) (by omega) (by omega) rfl)));go_wp2;go_ret2;refine⟨.pointer none,by rw[HN.o];rfl,?_,λ h=>?_⟩
  ·exact _root_.Go.below_drewN (((_root_.Go.below_drewN ((NB w.heap.size w).alloc lR _) _).setCell (p:=⟨w.heap.size,4,none⟩) lR _).setCell (p:=⟨w.heap.size,3,none⟩) lR _) _
  ·rw[HN.o]at h;cases h
theorem yM(s:tB)(w:tW)(o:s.size<=120000):
  RC LM 111 #[.string s] w λ e w'=>
   ∃v,e=.returned (.tuple #[v,.bool (iF s)])/\Bl w w'/\(iF s=true->v=.pointer (some ⟨w.heap.size,0,none⟩)/\∃D vs,rY w' w.heap.size (w.heap.size+1) s (iM s) (iM s) D vs):=by
 cases hA:B0 s with
 | false=>
  refine(Wy s w o hA).mono ?_;rintro e w' ⟨rfl,rfl⟩;rw[Ws hA];exact⟨_,rfl,bR,λ h=>by cases h⟩
 | true=>
  cases hB:xJ s with
  | false=>
   refine(Wz s w o hA hB).mono ?_;rintro e w' ⟨rfl,C⟩;rw[Wt hB];exact⟨_,rfl,C,λ h=>by cases h⟩
  | true=>
   cases hC:zO s with
   | false=>
    refine(Xa s w o hA hB hC).mono ?_;rintro e w' ⟨rfl,C⟩;rw[Wu hC];exact⟨_,rfl,C,λ h=>by cases h⟩
   | true=>exact Qn s w o hA hB hC
def G5(s:tB):Int:=if 120000<s.size then 1 else if iF s=true then 0 else 5
theorem T6(s:tB)(w:tW)(F:s.size<=RA):
  RC LM 87 #[.string s] w λ e w'=>e=.returned (.int .i64 (G5 s))/\Bl w w':=by
 unfold RA at F;by_cases D:120000<s.size
 ·have o:G5 s=1:=by unfold G5;rw[aB D]
  rw[o];clear o;go_enter func87,ntmps87;go_wp2;go_ret;exact⟨rfl,bR⟩
 ·cases hi:iF s with
  | true=>
   have o:G5 s=0:=by unfold G5;rw[aA D,aB hi]
   rw[o];clear o;go_enter func87,ntmps87;go_wp2_with (go_at_call 111;refine(yM s _ (by omega)).mono ?_;rintro e w1 ⟨v,rfl,C,_⟩);go_ret;exact⟨rfl,C⟩
  | false=>
   have o:G5 s=5:=by unfold G5;rw[aA D,aA (by rw[hi];decide)]
   rw[o];clear o;go_enter func87,ntmps87;go_wp2_with (go_at_call 111;refine(yM s _ (by omega)).mono ?_;rintro e w1 ⟨v,rfl,C,_⟩);go_ret;exact⟨rfl,C⟩
def Zo(w:tW)(s:tB)(e:Ending)(w':tW):Prop:=
 Bl w w'/\((¬(s.size<=120000/\iF s=true)/\e=.returned (.tuple #[.agg LG,.int .i64 (G5 s)]))\/(s.size<=120000/\iF s=true/\
  ∃(bb:Nat)(vc:tV)(ys:List pB),e=.returned (.tuple #[.agg (nS (.slice (some ⟨bb,0,none⟩) (jU s) (jU s)) (gP s) vc).toArray,.int .i64 0])/\
   pT w' w.heap.size bb (oG s)/\w'.ownsRow (bb+1) 110 1 vc ys.length (xD ys)/\ys.map (λ y=>y.2.map (·.1))=J8 s/\(∀y∈ys,oH w' (mV s) y)/\(∀y∈ys,∀k,V3 y k->bb<k)))
theorem wS{w w':tW}{v:tV}{xs:List tV}(F:w.ownsRow aH e size v m xs)(I:Bl w w'):w'.ownsRow aH e size v m xs:=by
 refine⟨F.1,?_⟩;have D:=F.lt;rcases F.2 with J|⟨g,aJ,o,rfl,C,hg,rest⟩
 ·exact .inl J
 ·exact .inr ⟨g,aJ,o,rfl,C,(I.block g (D g rfl).2).trans hg,rest⟩
theorem F0(s:tB)(w:tW):
  RC LM 24 #[.string s] w λ e w'=>Zo w s e w':=by
 by_cases I:120000<s.size
 ·have HT:=fV (iD w LG 72 w.heap.size 258 bL rfl);have hd:decide ((120000:Int)<(s.size:Int))=true:=by simp;omega
  go_enter func24,ntmps24;go_wp2_with (first|(refine QS rfl 72 (.tmp 2) (.tmp 9) rfl w.heap.size 0 LG rfl rfl ?_ ?_ bZ ?_;(rw[bL];exact HT.o);(rw[bL];exact bP)));refine jH OV w.heap.size 0 Tryz.zeroCells72.toList _ (.int .i64 1) rfl rfl ?_ MQ rfl (by rw[LY,bL];exact bP) rfl ?_
  ·exact MA _ _ _ _ (by rw[LY,bL];exact HT.o)
  ·refine⟨fX _ 0 _ w.heap.size (bR.alloc lR _) lR,.inl ⟨λ h=>by omega,?_⟩⟩;have e:G5 s=1:=by unfold G5;rw[aB I]
   rw[e]
 ·have hd:decide ((120000:Int)<(s.size:Int))=false:=by simp;omega
  have bN:QQ (zT ((w.alloc (.cells LG 72)).alloc (.cells #[.string s,.int .i64 0,.bool false] 138)) (w.heap.size+1) s (0,false)):=by
   have e:w.heap.size+1=(w.alloc (.cells LG 72)).heap.size:=by simp
   rw[e];refine⟨?_,?_,?_,?_,?_⟩
   ·rw[LP];rfl
   ·rw[LP];rfl
   ·rw[LP];rfl
   ·intro i;rw[ML]
   ·simp
  have HT:=fV (QB (iD w LG 72 w.heap.size 258 bL rfl) (.cells #[.string s,.int .i64 0,.bool false] 138));have HB:QQ (Bl w ((w.alloc (.cells LG 72)).alloc (.cells #[.string s,.int .i64 0,.bool false] 138))):=(bR.alloc lR _).alloc (by simp) _;have hz:w.heap.size+2=((w.alloc (.cells LG 72)).alloc (.cells #[.string s,.int .i64 0,.bool false] 138)).heap.size:=by simp
  go_enter func24,ntmps24;go_wp2_with fail;generalize (w.alloc (.cells LG 72)).alloc (.cells #[.string s,.int .i64 0,.bool false] 138)=W at*;refine(Px s (w.heap.size+1) W (by omega) bN.o).mono ?_;rintro e w1 ⟨bb,vc,ys,rfl,hn,ho,hm,hc,hg,hl⟩;have J:=fV (nY (.slice (some ⟨bb,0,none⟩) (jU s) (jU s)) (gP s) vc (by unfold gP;rw[lQ];rfl));have aL:=fV (yJ (vb:= .slice (some ⟨bb,0,none⟩) (jU s) (jU s)) (vc:=vc) (cs:=gP s) rfl (by obtain⟨va,aU,rfl⟩:=gA ho;rfl));obtain⟨IL,Y⟩:=xE (nS (.slice (some ⟨bb,0,none⟩) (jU s) (jU s)) (gP s) vc)
  rw[Y]at J aL ⊢;replace Y:=fV Y;have C:QQ (IL.toArray.size=258):=by unfold QQ;simpa using J.o
  have aT:QQ (IL.toArray.toList=IL):=by unfold QQ;simp
  have D:QQ (IL.toArray.all (·.oneCell')=true):=QT aL.o;obtain⟨Q,X⟩:=xE (IL.toArray)
  rw[X]at C aT D ⊢;replace X:=fV X;have HN:=fV hn;have HO:=fV ho;have HM:=fV hm;have HC:=fV hc;have bK:QQ (Bl w w1):=HB.o.trans ((Li hg (by omega)).mono (by omega));have bT:=fV (gJ HT.o (hg.block w.heap.size (by omega) (by intro e;injection e;omega)));have bS:=fV hl;have eS:w.heap.size+2<=w1.heap.size:=by have:=hg.size;omega
  have c1:=hl.c1;have c2:=hl.c2;have aR:=fV (BI s);have eO:=x9 s;have eR:w.heap.size+4<=bb:=by have:=HN.o.1;omega
  clear hn ho hm hc hg hl bN HB HT hz;generalize Nw s=R at*;have Z:=fV (iD w1 LG 72 w1.heap.size 258 bL rfl);have F:QQ (Bl w1 ((w1.alloc (.cells LG 72)).setCells w1.heap.size 0 Q.toList)):=fX _ 0 _ w1.heap.size (bR.alloc lR _) lR;have eM:QQ (((w1.alloc (.cells LG 72)).setCells w1.heap.size 0 Q.toList).rangeAt w1.heap.size 0 IL):=by
   have h:=MA (w1.alloc (.cells LG 72)) w1.heap.size 0 Q.toList (by rw[LY,C.o];exact Z.o);rw[aT.o]at h ⊢;exact h
  have aO:QQ (Bl w ((w1.alloc (.cells LG 72)).setCells w1.heap.size 0 Q.toList)):=bK.o.trans (F.o.mono (by omega));have U:=fV (sG bT.o F.o (by omega));have bO:=fV (bS.o.below F.o (by omega));clear c1 c2;have c1:=bO.o.c1;have c2:=bO.o.c2;have cP:=fV (HN.o.block F.o.size (F.o.block bb HN.o.2.1));have eL:=fV (wS HO.o F.o);have bM:QQ (∀y∈ys,oH ((w1.alloc (.cells LG 72)).setCells w1.heap.size 0 Q.toList) (mV s) y/\∀k,V3 y k->bb<k):=λ y hy=>⟨(HC.o y hy).1.below F.o lR,(HC.o y hy).2⟩
  obtain⟨a,b⟩:=R;simp only at*;generalize hW2:(w1.alloc (.cells LG 72)).setCells w1.heap.size 0 Q.toList=w2 at*;have aW:=fV hW2;clear bK bT bS HN HO HC F hW2
  cases b with
  | true=>
   have V:QQ (iF s=false):=by have:=aR.o;unfold QQ;simpa using this
   go_wp2_with (first|(refine QS rfl 72 (.tmp 5) (.tmp 12) rfl w1.heap.size 0 Q rfl rfl ?_ ?_ D.o ?_;(rw[C.o];exact Z.o);(rw[C.o];exact bP);rw[aW.o])|(refine QS rfl 72 (.tmp 2) (.tmp 22) rfl w.heap.size 0 LG rfl rfl ?_ ?_ bZ ?_;(rw[bL];exact U.o);(rw[bL];exact bP)));refine jH OV w.heap.size 0 Tryz.zeroCells72.toList _ (.int .i64 5) rfl rfl ?_ MQ rfl (by rw[LY,bL];exact bP) rfl ?_
   ·exact MA _ _ _ _ (by rw[LY,bL];exact U.o)
   ·refine⟨fX _ 0 _ w.heap.size aO.o lR,.inl ⟨λ h=>(by have h2:=h.2;rw[V.o]at h2;cases h2),?_⟩⟩;have e:G5 s=5:=by unfold G5;rw[aA I,V.o];rfl
    rw[e]
  | false=>
   by_cases cN:a<s.size
   ·have V:QQ (iF s=false):=by have:=aR.o;unfold QQ;simpa[cN]using this
    have eN:decide ((a:Int)<(s.size:Int))=true:=by simp;omega
    go_wp2_with (first|(refine QS rfl 72 (.tmp 5) (.tmp 12) rfl w1.heap.size 0 Q rfl rfl ?_ ?_ D.o ?_;(rw[C.o];exact Z.o);(rw[C.o];exact bP);rw[aW.o])|(refine QS rfl 72 (.tmp 2) (.tmp 22) rfl w.heap.size 0 LG rfl rfl ?_ ?_ bZ ?_;(rw[bL];exact U.o);(rw[bL];exact bP)));refine jH OV w.heap.size 0 Tryz.zeroCells72.toList _ (.int .i64 5) rfl rfl ?_ MQ rfl (by rw[LY,bL];exact bP) rfl ?_
    ·exact MA _ _ _ _ (by rw[LY,bL];exact U.o)
    ·refine⟨fX _ 0 _ w.heap.size aO.o lR,.inl ⟨λ h=>(by have h2:=h.2;rw[V.o]at h2;cases h2),?_⟩⟩;have e:G5 s=5:=by unfold G5;rw[aA I,V.o];rfl
     rw[e]
   ·have cF:QQ (iF s=true):=by have:=aR.o;unfold QQ;simpa[cN]using this
    have eN:decide ((a:Int)<(s.size:Int))=false:=by simp;omega
    go_wp2_with (first|(refine QS rfl 72 (.tmp 5) (.tmp 12) rfl w1.heap.size 0 Q rfl rfl ?_ ?_ D.o ?_;(rw[C.o];exact Z.o);(rw[C.o];exact bP);rw[aW.o])|(refine QR rfl 72 (.tmp 5) rfl w1.heap.size 0 rfl IL _ eM.o MQ rfl ?_ ?_;(rw[J.o];exact bP);rw[X.o])|(refine QS rfl 72 (.tmp 2) (.tmp 23) rfl w.heap.size 0 Q rfl rfl ?_ ?_ D.o ?_;(rw[C.o];exact U.o);(rw[C.o];exact bP)));refine jH OV w.heap.size 0 IL _ (.int .i64 0) rfl rfl ?_ MQ rfl (by rw[J.o];exact bP) rfl ?_
    ·have h:=MA w2 w.heap.size 0 Q.toList (by rw[LY,C.o];exact U.o);rw[aT.o]at h ⊢;exact h
    ·have bC:Below w.heap.size w2 (w2.setCells w.heap.size 0 Q.toList):=fX _ 0 _ w.heap.size bR lR;refine⟨aO.o.trans bC,.inr ⟨by omega,cF.o,bb,vc,ys,by rw[Y.o],?_,lC eL.o (by omega) _ 0,HM.o,λ y hy=>?_,λ y hy=>(bM.o y hy).2⟩⟩
     ·obtain⟨_,n2,n3⟩:=cP.o.block bC.size (mG w2 w.heap.size 0 Q.toList bb (by omega));exact⟨by omega,n2,n3⟩
     ·obtain⟨h1,h2⟩:=bM.o y hy;exact h1.block bC.size (λ q _ ho=>mG w2 w.heap.size 0 Q.toList q (by have:=h2 q ho;omega))
theorem Ms{w:tW}{s:tB}(hi:iF s=true){bb:Nat}{vc:tV}{ys:List pB}{lo:Nat}(hn:pT w lo bb (oG s))(ho:w.ownsRow (bb+1) 110 1 vc ys.length (xD ys))
  (hm:ys.map (λ y=>y.2.map (·.1))=J8 s) (hc:∀y∈ys,oH w (mV s) y) (hk:∀y∈ys,∀k,V3 y k->bb<k):∃vg aJ yb zb,vc=.slice (some ⟨vg,0,none⟩) (iM s) aJ/\IM w s bb vg yb zb w.heap.size/\KX s bb vg yb zb lo:=by
 have hd:=B4 hi;have aL:=(Gi hi).1;have aO:ys.length=iM s:=by have:=congrArg QD (hm.trans aL);simpa using this
 have hM:=(kZ hi).2.2.1;have aW:=ho.lt;obtain⟨g,aJ,rfl,bC,bK⟩:=ho.form (by omega);have aR:=nV ho;have U:∀c,c<iM s->∃y,ys[c]?=some y/\y∈ys/\y.2.map (·.1)=Bz s c:=λ c o=>by
  have X:c<ys.length:=by omega
  refine⟨ys[c],LR X,OJ X,?_⟩;have:=congrArg (λ l=>l[c]?) (hm.trans aL);simp only[MD,LR X,MN o,PN]at this;injection this
 have hz:∀c st,c<iM s->st<qZ s c->∀y,ys[c]?=some y->y∈ys->y.2.map (·.1)=Bz s c->∃z,y.2[st]?=some z/\z∈y.2/\z.1=Ji s (iK s) (qC s c st):=λ c st o D y _ _ he=>by
  have hl:y.2.length=qZ s c:=by have:=congrArg QD he;unfold Bz at this;simpa using this
  have Z:st<y.2.length:=by omega
  refine⟨y.2[st],LR Z,OJ Z,?_⟩;have:=congrArg (λ l=>l[st]?) he;unfold Bz at this;simp only[MD,LR Z,MN D,PN]at this;injection this
 have Y:∀c,c<iM s->∀y,ys[c]?=some y->y.2.map (·.1)=Bz s c->y.2.length=qZ s c:=λ c _ y _ he=>by
  have:=congrArg QD he;unfold Bz at this;simpa using this
 have C:∀(b k:Nat)(l:List tV)(v:tV),w.rangeAt b 0 l->l[k]?=some v->w.cell? ⟨b,k,none⟩=some v:=λ b k l v hr hk=>by
  have:=hr k v hk;rw[LN]at this;exact this
 refine⟨g,aJ,λ c=>((ys[c]?).getD (0,[])).1,λ c st=>((((ys[c]?).getD (0,[])).2[st]?).getD ((0,[]),0)).2,by rw[aO],?_,?_⟩;refine⟨λ r hr=>?_,λ c o=>?_,λ c st o D=>?_,λ c st o D=>?_,λ c st v o D hv=>?_,hn.2.1,(aW g rfl).2,λ c o=>?_,λ c st o D=>?_⟩
 ·refine C _ _ _ _ hn.2.2 ?_;rw[hd.be];unfold oY;rw[MD,MD,MN hr];rfl
 ·obtain⟨y,F,I,J⟩:=U c o;refine C _ _ _ _ aR ?_;rw[Ga ys c y F,F,Y c o y F J];rfl
 ·obtain⟨y,F,I,J⟩:=U c o;obtain⟨z,Q,V,h6⟩:=hz c st o D y F I J;simp only[F,NH];refine C _ _ _ _ (hc y I).rg ?_;rw[(Be _ _ st z Q).1,h6];rfl
 ·obtain⟨y,F,I,J⟩:=U c o;obtain⟨z,Q,V,h6⟩:=hz c st o D y F I J;simp only[F,NH,Q];refine C _ _ _ _ (hc y I).rg ?_;rw[(Be _ _ st z Q).2,hd.cl]
 ·obtain⟨y,F,I,J⟩:=U c o;obtain⟨z,Q,V,h6⟩:=hz c st o D y F I J;simp only[F,NH,Q];refine C _ _ _ _ ((hc y I).bF z V).2 (B6 _ _ _ ?_);rw[h6];unfold Ji;rw[MD,MN (wK hi v hv)];unfold Tl iA;rw[PN,show qC s c st+(tK s v+1)=qC s c st+1+tK s v by omega]
 ·obtain⟨y,F,I,J⟩:=U c o;simp only[F,NH];exact(hc y I).lt
 ·obtain⟨y,F,I,J⟩:=U c o;obtain⟨z,Q,V,h6⟩:=hz c st o D y F I J;simp only[F,NH,Q];exact((hc y I).bF z V).1
 ·have aT:=hn.1;refine⟨aT,by omega,λ c o=>?_,λ c st o D=>?_⟩
  ·obtain⟨y,F,I,J⟩:=U c o;simp only[F,NH];have:=hk y I y.1 (.inl rfl);omega
  ·obtain⟨y,F,I,J⟩:=U c o;obtain⟨z,Q,V,h6⟩:=hz c st o D y F I J;simp only[F,NH,Q];have:=hk y I z.2 (.inr ⟨z,V,rfl⟩);omega
structure rZ(w:tW)(B b g aJ:Nat)(s:tB):Prop where
 c0:w.cell? ⟨b,0,none⟩=some (.string s)
 c3:w.cell? ⟨b,3,none⟩=some (.int .i64 ((6+iR s:Nat):Int))
 c4:w.cell? ⟨b,4,none⟩=some (.int .i64 (iK s))
 c5:w.cell? ⟨b,5,none⟩=some (.slice (some ⟨g,0,none⟩) (iM s) aJ)
 at_:∀i,i<iM s->w.cell? ⟨g,i,none⟩=some (.int .i64 ((pE s i+1:Nat):Int))
 hb:b<B
 hg:g<B
theorem rZ.below{w w':tW}{B':Nat}{s:tB}(h:rZ w B b g aJ s)(o:Below B' w w')(D:B<=B'):rZ w' B b g aJ s:=by
 have C:=h.hb;have hg:=h.hg;exact⟨(o.cell (p:=⟨b,0,none⟩) (by show b<B';omega)).trans h.c0,(o.cell (p:=⟨b,3,none⟩) (by show b<B';omega)).trans h.c3,(o.cell (p:=⟨b,4,none⟩) (by show b<B';omega)).trans h.c4,
  (o.cell (p:=⟨b,5,none⟩) (by show b<B';omega)).trans h.c5,λ i hi=>(o.cell (p:=⟨g,i,none⟩) (by show g<B';omega)).trans (h.at_ i hi),C,hg⟩
theorem rZ.drewN{w:tW}{s:tB}(h:rZ w B b g aJ s)(q:Nat):rZ (w.drewN q) B b g aJ s:=
 ⟨h.c0,h.c3,h.c4,h.c5,h.at_,h.hb,h.hg⟩
theorem rY.rd{w:tW}{s:tB}{F vs:tV}(h:rY w b aH s (iM s) (iM s) F vs)(J:1<=iM s):∃g aJ,rZ w w.heap.size b g aJ s:=by
 obtain⟨g,aJ,rfl,D,C⟩:=h.ra.form (by omega);have I:=h.hb;refine⟨g,aJ,h.c0,h.c3,h.c4,h.c5,λ i hi=>?_,by omega,C⟩;have:=h.ra.cells (g:=g) rfl i (.int .i64 ((pE s i+1:Nat):Int)) (by unfold Y8;rw[MD,MN hi];rfl);have o:(⟨g,0,none⟩:Addr).add i=⟨g,i,none⟩:=by unfold Addr.add;split<;>simp_all
 rw[o]at this;exact this
def H8(s:tB)(c st v:Nat):Int:=if iA s c st v=255 then -1 else iA s c st v
theorem P9(s:tB)(B b g aJ c st:Nat)(w:tW)(hi:iF s=true)(hs:s.size<=120000)(Q:c<iM s)(I:st<qZ s c)(hw:rZ w B b g aJ s):
  RC LM 126 #[.pointer (some ⟨b,0,none⟩),.int .i64 c,.int .i64 st] w λ e w'=>e=.returned (.int .i64 (jM s c st))/\∃q,w'=w.drewN q:=by
 obtain⟨k0,k3,k4,k5,J,_,_⟩:=hw;have kc:=J c Q;clear J;have C:=Rm hi Q I;have D:=Nf s c st;have X:pE s c<=120000:=by unfold qC at C;omega
 have hK:=Tj s;have hn:=K5 hi Q;have F:=U7 (a:=st) (b:=1+iK s) (by omega) (by omega);have U:(0:Int)<=(st:Int)*(1+(iK s:Int))/\(st:Int)*(1+(iK s:Int))<=65535:=by
  have e:((st*(1+iK s):Nat):Int)=(st:Int)*(1+(iK s:Int)):=by simp
  omega
 have aO:=(kZ hi).2.2.2.1;have aL:(0:Int)<=(c:Int)/\(c:Int)<(iM s:Int):=by omega
 obtain⟨r,V⟩:=xE (qC s c st)
 have E:QQ (jM s c st=bt s r):=by unfold QQ jM;rw[V]
 rw[V]at C D;clear F hn hi I V;have Y:=kL s r (by omega);have Z:=mT s r;have aR:IntKind.i64.wrap (1+(iK s:Int))=1+(iK s:Int):=IntWalk.i64_in _ (by omega);have aT:IntKind.i64.wrap ((st:Int)*(1+(iK s:Int)))=(st:Int)*(1+(iK s:Int)):=IntWalk.i64_in _ (by omega);have aW:IntKind.i64.wrap ((pE s c:Int)+1+(st:Int)*(1+(iK s:Int)))=(r:Int):=by
  rw[<-D];simp only[OP,QF];exact IntWalk.i64_in _ (by omega)
 clear D U;go_enter func126,ntmps126;go_wp2;go_quiet (fail);go_wp2;go_ret;exact⟨by rw[E.o];rfl,_,rfl⟩
theorem Cn(s:tB)(B b g aJ c st v:Nat)(w:tW)(hi:iF s=true)(hs:s.size<=120000)(Y:c<iM s)(J:st<qZ s c)(hv:v<256)(hw:rZ w B b g aJ s):
  RC LM 125 #[.pointer (some ⟨b,0,none⟩),.int .i64 c,.int .i64 st,.int .u8 v] w λ e w'=>e=.returned (.int .i64 (H8 s c st v))/\∃q,w'=w.drewN q:=by
 obtain⟨k0,k3,k4,k5,X,_,_⟩:=hw;have kc:=X c Y;clear X;have C:=EV hi Y J hv;have F:=Rm hi Y J;have Q:=wK hi v hv;have I:=Nf s c st;have aW:pE s c<=120000:=by unfold qC at F;omega
 have hK:=Tj s;have hn:=K5 hi Y;have V:=U7 (a:=st) (b:=1+iK s) (by omega) (by omega);have aR:(0:Int)<=(st:Int)*(1+(iK s:Int))/\(st:Int)*(1+(iK s:Int))<=65535:=by
  have e:((st*(1+iK s):Nat):Int)=(st:Int)*(1+(iK s:Int)):=by simp
  omega
 have bN:=(kZ hi).2.2.2.1;have hR:=(kZ hi).1;have aT:=(kZ hi).2.2.2.2;have bM:(0:Int)<=(c:Int)/\(c:Int)<(iM s:Int):=by omega
 obtain⟨r,hr⟩:=xE (qC s c st)
 obtain⟨k,Z⟩:=xE (tK s v)
 obtain⟨t,ht⟩:=xE (r+1+k)
 obtain⟨a,ha⟩:=xE (6+iR s+v)
 have E:QQ (H8 s c st v=if bt s t=255 then -1 else(bt s t:Int)):=by unfold QQ H8 iA;rw[hr,Z,ht]
 rw[hr]at F I C;rw[Z]at C Q;rw[ht]at C;have U:bt s a=k:=by rw[<-ha];exact Z
 have aL:a<s.size:=by omega
 have bS:IntKind.i64.wrap (6+(iR s:Int)+(v:Int))=(a:Int):=by rw[<-ha];simp only[OP];exact IntWalk.i64_in _ (by omega)
 have eL:IntKind.i64.wrap ((r:Int)+1+(k:Int))=(t:Int):=by rw[<-ht];simp only[OP];exact IntWalk.i64_in _ (by omega)
 have bO:r<=120000/\k<256:=by omega
 clear V hn hi J hr Z ht ha;have aO:=kL s a aL;rw[U]at aO;clear U;have bC:=kL s t C;have bK:=mT s t;have eO:IntKind.i64.wrap (v:Int)=(v:Int):=IntWalk.i64_in _ (by omega);have eN:IntKind.i64.wrap (k:Int)=(k:Int):=IntWalk.i64_in _ (by omega);have eM:IntKind.i64.wrap (bt s t:Int)=(bt s t:Int):=IntWalk.i64_in _ (by omega);have bT:IntKind.i64.wrap (1+(iK s:Int))=1+(iK s:Int):=IntWalk.i64_in _ (by omega);have cF:IntKind.i64.wrap ((st:Int)*(1+(iK s:Int)))=(st:Int)*(1+(iK s:Int)):=IntWalk.i64_in _ (by omega);have cN:IntKind.i64.wrap ((pE s c:Int)+1+(st:Int)*(1+(iK s:Int)))=(r:Int):=by
  rw[<-I];simp only[OP,QF];exact IntWalk.i64_in _ (by omega)
 have cP:IntKind.i64.wrap ((r:Int)+1)=(r:Int)+1:=IntWalk.i64_in _ (by omega);clear I aR;by_cases D:bt s t=255
 ·go_enter func125,ntmps125;go_wp2;go_quiet (fail);go_wp2;go_quiet (fail);go_wp2;go_ret;exact⟨by rw[E.o,aB D];rfl,_,rfl⟩
 ·have hd:((bt s t:Int)==255)=false:=aC.2 (by omega);go_enter func125,ntmps125;go_wp2;go_quiet (fail);go_wp2;go_quiet (fail);go_wp2;go_ret;exact⟨by rw[E.o,aA D];rfl,_,rfl⟩
theorem Mb(s aI:tB)(B b g aJ c p:Nat)(w:tW)(hi:iF s=true)(hs:s.size<=120000)(bK:aI.size<=300)(hp:p<=aI.size)(J:c<iM s)(hw:rZ w B b g aJ s):
  RC LM 120 #[.pointer (some ⟨b,0,none⟩),.string aI,.int .i64 p,.int .i64 c] w λ e w'=>
   e=.returned (.tuple #[.int .i64 (Fe s aI c p).1,.int .i64 (Fe s aI c p).2])/\∃q,w'=w.drewN q:=by
 have HL:QQ (Fe s aI c p=sN s aI c p (aI.size-p)):=rfl;go_enter func120,ntmps120;go_wp2_with fail
 go_loopw [10] (λ x w'=>∃d q:Nat,p+d<=aI.size/\x=.int .i64 ((p:Int)+(d:Int))/\w'=w.drewN q/\Fe s aI c p=sN s aI c p d) (λ x _=>(QP x).toNat)
 case atStart=>exact⟨aI.size-p,0,by omega,by congr 1;omega,rfl,HL.o⟩
 case round=>
  obtain⟨d,q,hd,rfl,rfl,Y⟩:=hrel;have HG:QQ (Fe s aI c p=sN s aI c p d):=Y;clear Y;by_cases bM:0<d
  ·obtain⟨e,he⟩:∃e,d=e+1:=⟨d-1,by omega⟩
   have I:QQ (d=e+1):=he;have bC:e<d:=by omega
   clear he;have aT:decide ((p:Int)<(p:Int)+(d:Int))=true:=by simp;omega
   go_wp2_with fail
   go_loopw [11,12] (λ x y w'=>∃j q:Nat,j<=d/\y=.int .i64 ((p:Int)+(j:Int))/\w'=w.drewN q/\((∃st:Nat,oO s aI c p j=some st/\x=.int .i64 (st:Int))\/(oO s aI c p d=none/\x=.int .i64 (-1)))) (λ _ y _=>aI.size-(QP y).toNat)
   case atStart=>exact⟨0,q,by omega,by simp,rfl,.inl ⟨0,rfl,rfl⟩⟩
   case round=>
    obtain⟨j,q2,hj,rfl,rfl,V⟩:=hrel;rcases V with⟨st,aO,rfl⟩|⟨aL,rfl⟩
    ·have U:QQ (oO s aI c p j=some st):=aO;clear aO;by_cases Q:j<d
     ·have aW:=kL aI (p+j) (by omega);have aR:=mT aI (p+j);go_wp2_with fail;refine(Cn s B b g aJ c st (bt aI (p+j)) _ hi hs J (yS hi J j st U.o) aR (hw.drewN _)).mono ?_;rintro e' w2 ⟨rfl,q3,rfl⟩;go_wp2_with fail;go_roundw
      case rel=>
       refine⟨j+1,q2+q3,Q,by go_num,by simp,?_⟩;have F:=Am U.o;by_cases D:iA s c st (bt aI (p+j))=255
       ·rw[aB D]at F;exact .inr ⟨Nt F _ Q,by unfold H8;rw[aB D]⟩
       ·rw[aA D]at F;exact .inl ⟨_,F,by unfold H8;rw[aA D]⟩
      case measure=>simp[QP];omega
     ·have ej:j=d:=by omega
      subst ej;by_cases hm:0<jM s c st
      ·have bN:=Tu hi J (yS hi J _ st U.o);have hR:=(kZ hi).1;have C:=Cs (d:=e) (by rw[<-I.o];exact Yw U.o hm);have X:QQ (sN s aI c p j=(((jM s c st-1:Nat):Int),p+j)):=by rw[<-I.o]at C;exact C
       clear C;go_wp2_with fail;refine(P9 s B b g aJ c st _ hi hs J (yS hi J _ st U.o) (hw.drewN _)).mono ?_;rintro e' w2 ⟨rfl,q3,rfl⟩;go_wp2;go_ret2;refine⟨?_,q2+q3,by simp⟩;rw[HG.o,X.o];simp;omega
      ·have Z:jM s c st=0:=by omega
       have C:=K2 (d:=e) (by rw[<-I.o];exact CK U.o Z);have X:QQ (sN s aI c p j=sN s aI c p e):=by rw[<-I.o]at C;exact C
       clear C;go_wp2_with fail;refine(P9 s B b g aJ c st _ hi hs J (yS hi J _ st U.o) (hw.drewN _)).mono ?_;rintro e' w2 ⟨rfl,q3,rfl⟩;rw[Z];go_wp2;go_roundw
       case rel=>exact⟨e,q2+q3,by omega,by have:=I.o;go_num,by simp,by rw[HG.o,X.o]⟩
       case measure=>simp[QP];omega
    ·have C:=K2 (d:=e) (by rw[<-I.o];exact Sq aL);have X:QQ (sN s aI c p d=sN s aI c p e):=by rw[<-I.o]at C;exact C
     clear C aL;go_wp2_with fail
     all_goals
      go_roundw
      case rel=>exact⟨e,q2,by omega,by have:=I.o;go_num,rfl,by rw[HG.o,X.o]⟩
      case measure=>simp[QP];omega
  ·have e0:d=0:=by omega
   subst e0;go_wp2;go_ret2;refine⟨?_,q,rfl⟩;rw[HG.o]
   rfl
theorem G8{w w':tW}(h:Below B w.drew w'):Below B w w':=⟨h.os,h.tape,h.output,h.size,h.block⟩
structure Zt(w:tW)(B:Nat)(v:tV)(l:List (Int×Int×Int)):Prop where
 sh:(v=.slice none 0 0/\l=[])\/∃g aJ,v=.slice (some ⟨g,0,none⟩) l.length aJ/\g<B/\l.length<=aJ/\aJ<=RA/\
  ∀k x,l[k]?=some x->w.cell? ⟨g,k*3,none⟩=some (.int .i64 x.1)/\w.cell? ⟨g,k*3+1,none⟩=some (.int .i64 x.2.1)/\w.cell? ⟨g,k*3+2,none⟩=some (.int .i64 x.2.2)
theorem mX{w:tW}{e:Nat}{v:tV}{l:List (Int×Int×Int)}(h:w.ownsRow aH e 3 v n (hZ l)):Zt w w.heap.size v l:=by
 have hn:n=l.length:=by have:=h.1;rw[Ey]at this;omega
 subst hn;refine⟨?_⟩;rcases h.2 with⟨rfl,Y⟩|⟨g,aJ,X,rfl,hb,hg,F,D,Z,I⟩
 ·exact .inl ⟨rfl,List.eq_nil_of_length_eq_zero Y⟩
 ·refine .inr ⟨g,aJ,rfl,(NZ.1 hg).1,F,D,λ k x hx=>?_⟩;have C:=h.cells (g:=g) rfl;have o:∀j,(⟨g,0,none⟩:Addr).add j=⟨g,j,none⟩:=λ j=>by unfold Addr.add;split<;>simp_all
  obtain⟨a1,U,V⟩:=Ox l k x hx;have J:=C _ _ a1;have b2:=C _ _ U;have Q:=C _ _ V;rw[o]at J b2 Q;exact⟨J,b2,Q⟩
theorem Ti(l:List (Int×Int×Int))(v:tV)(x y z:Int)(w:tW)(hl:l.length<=1000000)(hr:Zt w w.heap.size v l):
  RC LM 124 #[v,.agg #[.int .i64 x,.int .i64 y,.int .i64 z]] w λ e w'=>e=.returned (.bool (sV l (x,y,z)))/\Bl w w':=by
 rcases hr.sh with⟨rfl,rfl⟩|⟨g,aJ,rfl,hg,Z,h2,C⟩
 ·go_enter func124,ntmps124;go_wp2_with fail
  go_loop [5] (λ i=>i=.int .i64 0) (λ _=>0)
  case atStart=>rfl
  case round=>
   subst hrel;go_wp2;go_ret;exact⟨rfl,bR.alloc lR _⟩
 ·have aO:(w.alloc (.cells #[.int .i64 x,.int .i64 y,.int .i64 z] 234)).cell? ⟨w.heap.size,0,none⟩=some (.int .i64 x):=by rw[LP];rfl
  have aR:(w.alloc (.cells #[.int .i64 x,.int .i64 y,.int .i64 z] 234)).cell? ⟨w.heap.size,1,none⟩=some (.int .i64 y):=by rw[LP];rfl
  have aT:(w.alloc (.cells #[.int .i64 x,.int .i64 y,.int .i64 z] 234)).cell? ⟨w.heap.size,2,none⟩=some (.int .i64 z):=by rw[LP];rfl
  have HC:QQ (∀k u,l[k]?=some u->(w.alloc (.cells #[.int .i64 x,.int .i64 y,.int .i64 z] 234)).cell? ⟨g,k*3,none⟩=some (.int .i64 u.1)/\
    (w.alloc (.cells #[.int .i64 x,.int .i64 y,.int .i64 z] 234)).cell? ⟨g,k*3+1,none⟩=some (.int .i64 u.2.1)/\(w.alloc (.cells #[.int .i64 x,.int .i64 y,.int .i64 z] 234)).cell? ⟨g,k*3+2,none⟩=some (.int .i64 u.2.2)):=by
   intro k u X;rw[MY (hn:=hg),MY (hn:=hg),MY (hn:=hg)];exact C k u X
  have I:Bl w (w.alloc (.cells #[.int .i64 x,.int .i64 y,.int .i64 z] 234)):=bR.alloc lR _;clear C hr;go_enter func124,ntmps124;go_wp2_with fail;generalize w.alloc (.cells #[.int .i64 x,.int .i64 y,.int .i64 z] 234)=W at*
  go_loopw [5] (λ i w'=>∃k q:Nat,k<=l.length/\i=.int .i64 (k:Int)/\w'=W.drewN q/\∀j,j<k->l[j]? ≠some (x,y,z)) (λ i _=>l.length-(QP i).toNat)
  case atStart=>exact⟨0,0,zL,rfl,rfl,λ j h=>absurd h (OG _)⟩
  case round=>
   obtain⟨k,q,hk,rfl,rfl,F⟩:=hrel;have HA:QQ (∀j,j<k->l[j]? ≠some (x,y,z)):=F;clear F;by_cases Q:k<l.length
   ·obtain⟨⟨a,b,c⟩,X⟩:∃u,l[k]?=some u:=⟨_,LR Q⟩
    obtain⟨k0,k1,k2⟩:=HC.o k _ X;have HU:QQ (l[k]?=some (a,b,c)):=X;clear X;simp only at k0 k1 k2;have aL:(0:Int)<=(k:Int)/\(k:Int)<(l.length:Int):=by omega
    have D:((a==x)=true/\(b==y)=true/\(c==z)=true)\/(((a==x)=false)\/((a==x)=true/\(b==y)=false)\/((a==x)=true/\(b==y)=true/\(c==z)=false)):=by
     cases (a==x)<;>cases (b==y)<;>cases (c==z)<;>simp
    rcases D with⟨Y,e2,e3⟩|D
    ·have J:l.contains (x,y,z)=true:=by
      have Z:(a,b,c)=(x,y,z):=by rw[beq_iff_eq.1 Y,beq_iff_eq.1 e2,beq_iff_eq.1 e3]
      rw[NT,<-Z];exact List.mem_of_getElem? HU.o
     have HI:QQ (sV l (x,y,z)=true):=J;clear J;go_wp2;go_quiet (fail);go_wp2;go_ret;exact⟨by rw[HI.o];rfl,_root_.Go.below_drewN (_root_.Go.below_drewN I _) _⟩
    ·have U:(a,b,c)≠(x,y,z):=by
      intro h;injection h with Z h2;injection h2 with h2 h3;subst Z h2 h3;simp at D
     have HN:QQ ((a,b,c)≠(x,y,z)):=U;clear U;rcases D with Y|⟨Y,e2⟩|⟨Y,e2,e3⟩
     all_goals
      go_wp2;go_quiet (fail);go_wp2;go_roundw
      case rel=>
       refine⟨k+1,_,Q,by go_num,rfl,λ j hj=>?_⟩;by_cases ej:j=k
       ·rw[ej,HU.o];intro h;exact HN.o (Option.some.inj h)
       ·exact HA.o j (by omega)
      case measure=>simp[QP];omega
   ·have V:l.contains (x,y,z)=false:=by
     rw[Bool.eq_false_iff];intro h;rw[NT]at h;obtain⟨j,hj⟩:=List.mem_iff_getElem?.1 h;have:j<l.length:=(LJ.1 hj).1;exact HA.o j (by omega) hj
    have HI:QQ (sV l (x,y,z)=false):=V;clear V;go_wp2;go_ret;exact⟨by rw[HI.o];rfl,_root_.Go.below_drewN I _⟩
section
structure jG(w:tW)(cb aH top ib:Nat)(aI:tB)(c:Nat)(H:List (Int×Int×Int))(n:Nat)(T:List (Int×Int×Int))(vh vt:tV):Prop where
 c0:w.cell? ⟨cb,0,none⟩=some (.pointer (some ⟨ib,0,none⟩))
 c1:w.cell? ⟨cb,1,none⟩=some (.string aI)
 c2:w.cell? ⟨cb,2,none⟩=some (.int .i64 c)
 c3:w.cell? ⟨cb,3,none⟩=some vh
 c4:w.cell? ⟨cb,4,none⟩=some (.int .i64 n)
 c5:w.cell? ⟨cb,5,none⟩=some vt
 fz:∀i,w.frozen? ⟨cb,i,none⟩=false
 rh:w.ownsRow aH 234 3 vh H.length (hZ H)
 rt:w.ownsRow aH 79 3 vt T.length (hZ T)
 hb:cb<aH
 hz:top<=w.heap.size
 hbt:aH<=top
 lh:∀k,vh.ownBlock=some k->k<top
 lt:∀k,vt.ownBlock=some k->k<top
 ap:vh.ownBlock=none\/vh.ownBlock≠vt.ownBlock
variable {w w':tW}{cb aH top ib:Nat}{aI:tB}{c:Nat}{H:List (Int×Int×Int)}{n:Nat}{T:List (Int×Int×Int)}{vh vt:tV}
theorem jG.below(h:jG w cb aH top ib aI c H n T vh vt)(D:Below top w w'):jG w' cb aH top ib aI c H n T vh vt:=by
 have X:=h.hb;have Q:=h.hbt;have o:cb<top:=by omega
 have cl:∀i,w'.cell? ⟨cb,i,none⟩=w.cell? ⟨cb,i,none⟩:=λ i=>D.cell (p:=⟨cb,i,none⟩) o
 have C:∀(v:tV)(m:Nat)(xs:List tV)(e:TypeId),w.ownsRow aH e 3 v m xs->(∀k,v.ownBlock=some k->k<top)->w'.ownsRow aH e 3 v m xs:=λ v m xs e J U=>by
  refine⟨J.1,?_⟩;rcases J.2 with V|⟨g,aJ,F,rfl,I,hg,rest⟩
  ·exact .inl V
  ·exact .inr ⟨g,aJ,F,rfl,I,(D.block g (U g rfl)).trans hg,rest⟩
 exact⟨(cl 0).trans h.c0,(cl 1).trans h.c1,(cl 2).trans h.c2,(cl 3).trans h.c3,(cl 4).trans h.c4,(cl 5).trans h.c5,
  λ i=>(D.frozen (p:=⟨cb,i,none⟩) o).trans (h.fz i),C _ _ _ _ h.rh h.lh,C _ _ _ _ h.rt h.lt,h.hb,NF h.hz D.size,h.hbt,h.lh,h.lt,h.ap⟩
theorem jG.drewN(h:jG w cb aH top ib aI c H n T vh vt)(q:Nat):jG (w.drewN q) cb aH top ib aI c H n T vh vt:=
 ⟨h.c0,h.c1,h.c2,h.c3,h.c4,h.c5,h.fz,h.rh,h.rt,h.hb,h.hz,h.hbt,h.lh,h.lt,h.ap⟩
theorem jG.other(h:jG w cb aH top ib aI c H n T vh vt)(i:Nat)(v:tV):∀j u,j≠i->w.cell? ⟨cb,j,none⟩=some u->(w.setCell ⟨cb,i,none⟩ v).cell? ⟨cb,j,none⟩=some u:=λ j u C o=>by
 have _:=h;rw[LF (h:=by intro e;injection e;omega)];exact o
theorem jG.steps(h:jG w cb aH top ib aI c H n T vh vt)(m:Nat):jG (w.setCell ⟨cb,4,none⟩ (.int .i64 m)) cb aH top ib aI c H m T vh vt:=by
 have o:=h.other 4 (.int .i64 m);refine⟨o 0 _ (by omega) h.c0,o 1 _ (by omega) h.c1,o 2 _ (by omega) h.c2,o 3 _ (by omega) h.c3,LI _ _ _ h.c4,o 5 _ (by omega) h.c5,
  λ i=>by rw[LH];exact h.fz i,QO h.rh h.hb _,QO h.rt h.hb _,h.hb,?_,h.hbt,h.lh,h.lt,h.ap⟩
 have:=h.hz;simp[LO];omega
theorem jG.bE(h:jG w cb aH top ib aI c H n T vh vt)(m:Nat):jG (w.setCell ⟨cb,2,none⟩ (.int .i64 m)) cb aH top ib aI m H n T vh vt:=by
 have o:=h.other 2 (.int .i64 m);refine⟨o 0 _ (by omega) h.c0,o 1 _ (by omega) h.c1,LI _ _ _ h.c2,o 3 _ (by omega) h.c3,o 4 _ (by omega) h.c4,o 5 _ (by omega) h.c5,
  λ i=>by rw[LH];exact h.fz i,QO h.rh h.hb _,QO h.rt h.hb _,h.hb,?_,h.hbt,h.lh,h.lt,h.ap⟩
 have:=h.hz;simp[LO];omega
theorem jG.raise(h:jG w cb aH top ib aI c H n T vh vt):jG w cb aH w.heap.size ib aI c H n T vh vt:=by
 have D:=h.hz;have C:=h.hbt;exact⟨h.c0,h.c1,h.c2,h.c3,h.c4,h.c5,h.fz,h.rh,h.rt,h.hb,lR,by omega,λ k o=>by have:=h.lh k o;omega,λ k o=>by have:=h.lt k o;omega,h.ap⟩
theorem jG.again3(h:jG w cb aH top ib aI c H n T vh vt):jG (w.setCell ⟨cb,3,none⟩ vh) cb aH top ib aI c H n T vh vt:=by
 have o:=h.other 3 vh;refine⟨o 0 _ (by omega) h.c0,o 1 _ (by omega) h.c1,o 2 _ (by omega) h.c2,LI _ _ _ h.c3,o 4 _ (by omega) h.c4,o 5 _ (by omega) h.c5,
  λ i=>by rw[LH];exact h.fz i,QO h.rh h.hb _,QO h.rt h.hb _,h.hb,?_,h.hbt,h.lh,h.lt,h.ap⟩
 have:=h.hz;simp[LO];omega
theorem jG.step1(h:jG w cb aH top ib aI c H n T vh vt):jG (w.setCell ⟨cb,4,none⟩ (.int .i64 ((n:Int)+1))) cb aH top ib aI c H (n+1) T vh vt:=
 h.steps (n+1)
theorem rF{w w':tW}{v:tV}{xs:List tV}(h:w.ownsRow aH e size v m xs)(D:Below B w w')(J:w.heap.size<=B):w'.ownsRow aH e size v m xs:=by
 refine⟨h.1,?_⟩;rcases h.2 with I|⟨g,aJ,o,rfl,C,hg,rest⟩
 ·exact .inl I
 ·have F:g<w.heap.size:=(NZ.1 hg).1;exact .inr ⟨g,aJ,o,rfl,C,(D.block g (by omega)).trans hg,rest⟩
theorem sM(h:p):QQ p:=h
theorem iL{w:tW}{v:tV}{xs:List tV}(h:w.ownsRow aH e size v m xs):v=.slice none 0 0\/∃g aJ,v=.slice (some ⟨g,0,none⟩) m aJ:=by
 rcases h.2 with⟨e,_⟩|⟨g,aJ,_,e,_⟩
 ·exact .inl e
 ·exact .inr ⟨g,aJ,e⟩
theorem yY(l:List (Int×Int×Int)):∀u∈hZ l,u.oneCell'=true:=by
 intro u o;unfold hZ at o;rw[List.mem_flatMap]at o;obtain⟨x,_,C⟩:=o;simp at C;rcases C with rfl|rfl|rfl<;>rfl
theorem jG.kept(h:jG w cb aH top ib aI c H n T vh vt){w1:tW}{o:Option Nat}(F:∀k,o=some k->aH<=k)(hg:w.grownBy w1 o):
  (∀i u,w.cell? ⟨cb,i,none⟩=some u->w1.cell? ⟨cb,i,none⟩=some u)/\∀i,w1.frozen? ⟨cb,i,none⟩=false:=by
 have J:=h.hb;have D:=h.hbt;have Q:=h.hz;have C:some cb≠o:=λ e=>by have:=F cb e.symm;omega
 exact⟨λ i u I=>hg.cell I C,λ i=>(hg.frozen_far ⟨cb,i,none⟩ (by show cb<_;omega) C).trans (h.fz i)⟩
theorem jG.hope(h:jG w cb aH top ib aI c H n T vh vt){w1:tW}{S:List (Int×Int×Int)}{g m aJ:Nat}(Y:m=H.length+S.length)
  (F:w1.ownsRow aH 234 3 (.slice (some ⟨g,0,none⟩) m aJ) m (hZ H++hZ S))
  (C:w.grownBy w1 vh.ownBlock) (Q:vh.ownBlock=some g\/g=w.heap.size) (X:g<w1.heap.size):
  jG (w1.setCell ⟨cb,3,none⟩ (.slice (some ⟨g,0,none⟩) m aJ)) cb aH w1.heap.size ib aI c (H++S) n T (.slice (some ⟨g,0,none⟩) m aJ) vt:=by
 have hb:=h.hb;have V:=h.hbt;have hz:=h.hz;have Z:=C.size;obtain⟨U,kf⟩:=h.kept (λ k D=>(h.rh.lt k D).1) C;have o:∀j u,j≠3->w.cell? ⟨cb,j,none⟩=some u->(w1.setCell ⟨cb,3,none⟩ (.slice (some ⟨g,0,none⟩) m aJ)).cell? ⟨cb,j,none⟩=some u:=λ j u hj hu=>by
  rw[LF (h:=by intro e;injection e;omega)];exact U j u hu
 refine⟨o 0 _ (by omega) h.c0,o 1 _ (by omega) h.c1,o 2 _ (by omega) h.c2,LI _ _ _ (U 3 _ h.c3),o 4 _ (by omega) h.c4,o 5 _ (by omega) h.c5,
  λ i=>by rw[LH];exact kf i,?_,?_,h.hb,by simp[LO],by omega,?_,?_,?_⟩
 ·rw[LS,<-Y,Ex];exact QO F h.hb _
 ·refine QO (h.rt.kept C ?_) h.hb _;rcases h.ap with e|e
  ·cases hv:vt.ownBlock with
   | none=>exact .inl rfl
   | some k=>right;rw[e];simp
  ·exact .inr (Ne.symm e)
 ·intro k D;have:g=k:=by simpa[MH]using D
  omega
 ·intro k D;have:=h.lt k D;omega
 ·right;show some g≠vt.ownBlock;intro e;rcases Q with I|I
  ·rcases h.ap with J|J
   ·rw[J]at I;cases I
   ·exact J (I.trans e)
  ·have:=h.lt g e.symm;omega
theorem jG.tell(h:jG w cb aH top ib aI c H n T vh vt){w1:tW}{o:Obj}{x:Int×Int×Int}{g aJ:Nat}
  (I:w1.ownsRow aH 79 3 (.slice (some ⟨g,0,none⟩) (T.length+1) aJ) (T.length+1) (hZ T++[.int .i64 x.1,.int .i64 x.2.1,.int .i64 x.2.2]))
  (C:(w.alloc o).grownBy w1 vt.ownBlock) (U:vt.ownBlock=some g\/g=w.heap.size+1) (aL:g<w1.heap.size):
  jG (w1.setCell ⟨cb,5,none⟩ (.slice (some ⟨g,0,none⟩) (T.length+1) aJ)) cb aH w1.heap.size ib aI c H n (T++[x]) vh (.slice (some ⟨g,0,none⟩) (T.length+1) aJ):=by
 have D:jG (w.alloc o) cb aH top ib aI c H n T vh vt:=h.below (bR.alloc h.hz o);have hb:=h.hb;have Z:=h.hbt;have hz:=h.hz;have V:=C.size;simp at V;obtain⟨Y,kf⟩:=D.kept (λ k F=>(D.rt.lt k F).1) C;have J:∀j u,j≠5->(w.alloc o).cell? ⟨cb,j,none⟩=some u->(w1.setCell ⟨cb,5,none⟩ (.slice (some ⟨g,0,none⟩) (T.length+1) aJ)).cell? ⟨cb,j,none⟩=some u:=λ j u hj hu=>by
  rw[LF (h:=by intro e;injection e;omega)];exact Y j u hu
 refine⟨J 0 _ (by omega) D.c0,J 1 _ (by omega) D.c1,J 2 _ (by omega) D.c2,J 3 _ (by omega) D.c3,J 4 _ (by omega) D.c4,LI _ _ _ (Y 5 _ D.c5),
  λ i=>by rw[LH];exact kf i,?_,?_,h.hb,by simp[LO],by omega,?_,?_,?_⟩
 ·refine QO (D.rh.kept C ?_) h.hb _;exact h.ap
 ·rw[LS,MJ,Z1];exact QO I h.hb _
 ·intro k F;have:=h.lh k F;omega
 ·intro k F;have:g=k:=by simpa[MH]using F
  omega
 ·right;show vh.ownBlock≠some g;intro e;rcases U with X|X
  ·rcases h.ap with Q|Q
   ·rw[Q]at e;cases e
   ·exact Q (e.trans X.symm)
  ·have:=h.lh g e;omega
end
section
structure CW(w:tW)(cb top:Nat)(s aI:tB)(bb vg aU:Nat)(yb:Nat->Nat)(zb:Nat->Nat->Nat)(vt:tV)(hg bH:Nat)(hbk:Nat->Nat)(HT:Nat->Nat->Bool)(c p n:Nat)(T:List (Int×Int×Int)):Prop where
 mem:IM w s bb vg yb zb cb
 im:w.rangeAt cb 0 (nS (.slice (some ⟨bb,0,none⟩) (iR s) (iR s)) (gP s) (.slice (some ⟨vg,0,none⟩) (iM s) aU))
 k1:w.cell? ⟨cb,258,none⟩=some (.string aI)
 k2:w.cell? ⟨cb,259,none⟩=some (.int .i64 c)
 k3:w.cell? ⟨cb,260,none⟩=some (.int .i64 p)
 k4:w.cell? ⟨cb,261,none⟩=some (.int .i64 n)
 k5:w.cell? ⟨cb,262,none⟩=some vt
 k6:w.cell? ⟨cb,263,none⟩=some (.slice (some ⟨hg,0,none⟩) (iM s) bH)
 fz:∀i,w.frozen? ⟨cb,i,none⟩=false
 rt:w.ownsRow (cb+1) 79 3 vt T.length (hZ T)
 hl:∀j,j<iM s->w.cell? ⟨hg,j,none⟩=some (.slice (some ⟨hbk j,0,none⟩) (qZ s j*aI.size) (qZ s j*aI.size))
 tb:∀j k,j<iM s->k<qZ s j*aI.size->w.cell? ⟨hbk j,k,none⟩=some (.bool (HT j k))/\w.frozen? ⟨hbk j,k,none⟩=false
 b0:cb<top
 b1:cb<hg/\hg<top
 b2:∀j,j<iM s->cb<hbk j/\hbk j<top/\hbk j≠hg
 bi:∀i j,i<iM s->j<iM s->hbk i=hbk j->i=j
 bv:∀k,vt.ownBlock=some k->k<top/\k≠hg/\∀j,j<iM s->k≠hbk j
 hz:top<=w.heap.size
variable {w w':tW}{cb top:Nat}{s aI:tB}{bb vg aU:Nat}{yb:Nat->Nat}{zb:Nat->Nat->Nat}{vt:tV}{hg bH:Nat}{hbk:Nat->Nat}{HT:Nat->Nat->Bool}{c p n:Nat}{T:List (Int×Int×Int)}
theorem iH{v:tV}{xs:List tV}(D:w.ownsRow aH e size v m xs)(F:∀k,v.ownBlock=some k->w'.heap[k]?=w.heap[k]?):w'.ownsRow aH e size v m xs:=by
 refine⟨D.1,?_⟩;rcases D.2 with I|⟨g,aJ,o,rfl,C,hg,rest⟩
 ·exact .inl I
 ·exact .inr ⟨g,aJ,o,rfl,C,(F g rfl).trans hg,rest⟩
theorem CW.below(h:CW w cb top s aI bb vg aU yb zb vt hg bH hbk HT c p n T)(o:Below top w w'):CW w' cb top s aI bb vg aU yb zb vt hg bH hbk HT c p n T:=by
 have F:=h.b0;have cl:∀i,w'.cell? ⟨cb,i,none⟩=w.cell? ⟨cb,i,none⟩:=λ i=>o.cell (p:=⟨cb,i,none⟩) F
 exact⟨h.mem.below o (by omega),λ j v I=>(cl (0+j)).trans (h.im j v I),(cl _).trans h.k1,(cl _).trans h.k2,(cl _).trans h.k3,(cl _).trans h.k4,(cl _).trans h.k5,(cl _).trans h.k6,
  λ i=>(o.frozen (p:=⟨cb,i,none⟩) F).trans (h.fz i),iH h.rt (λ k D=>o.block k (h.bv k D).1),λ j C=>(o.cell (p:=⟨hg,j,none⟩) h.b1.2).trans (h.hl j C),
  λ j k C D=>⟨(o.cell (p:=⟨hbk j,k,none⟩) (h.b2 j C).2.1).trans (h.tb j k C D).1,(o.frozen (p:=⟨hbk j,k,none⟩) (h.b2 j C).2.1).trans (h.tb j k C D).2⟩,
  h.b0,h.b1,h.b2,h.bi,h.bv,NF h.hz o.size⟩
theorem CW.drewN(h:CW w cb top s aI bb vg aU yb zb vt hg bH hbk HT c p n T)(q:Nat):CW (w.drewN q) cb top s aI bb vg aU yb zb vt hg bH hbk HT c p n T:=
 ⟨h.mem.drewN q,h.im,h.k1,h.k2,h.k3,h.k4,h.k5,h.k6,h.fz,h.rt,h.hl,h.tb,h.b0,h.b1,h.b2,h.bi,h.bv,h.hz⟩
theorem CW.raise(h:CW w cb top s aI bb vg aU yb zb vt hg bH hbk HT c p n T):CW w cb w.heap.size s aI bb vg aU yb zb vt hg bH hbk HT c p n T:=by
 have I:=h.hz;have D:=h.b0;have F:=h.b1;exact⟨h.mem,h.im,h.k1,h.k2,h.k3,h.k4,h.k5,h.k6,h.fz,h.rt,h.hl,h.tb,by omega,by omega,λ j o=>by have:=h.b2 j o;exact⟨this.1,by omega,this.2.2⟩,h.bi,λ k C=>by have:=h.bv k C;exact⟨by omega,this.2⟩,lR⟩
theorem tI{v:tV}(h:B<=b):Below B w (w.setCell ⟨b,i,none⟩ v):=bR.setCell (p:=⟨b,i,none⟩) h v
theorem CW.setOwn(h:CW w cb top s aI bb vg aU yb zb vt hg bH hbk HT c p n T)(i:Nat)(v:tV)(hi:258<=i):
  (∀j u,j≠i->w.cell? ⟨cb,j,none⟩=some u->(w.setCell ⟨cb,i,none⟩ v).cell? ⟨cb,j,none⟩=some u)/\
  IM (w.setCell ⟨cb,i,none⟩ v) s bb vg yb zb cb/\(w.setCell ⟨cb,i,none⟩ v).rangeAt cb 0 (nS (.slice (some ⟨bb,0,none⟩) (iR s) (iR s)) (gP s) (.slice (some ⟨vg,0,none⟩) (iM s) aU))/\
  (∀i',(w.setCell ⟨cb,i,none⟩ v).frozen? ⟨cb,i',none⟩=false)/\(w.setCell ⟨cb,i,none⟩ v).ownsRow (cb+1) 79 3 vt T.length (hZ T)/\
  (∀j,j<iM s->(w.setCell ⟨cb,i,none⟩ v).cell? ⟨hg,j,none⟩=some (.slice (some ⟨hbk j,0,none⟩) (qZ s j*aI.size) (qZ s j*aI.size)))/\
  (∀j k,j<iM s->k<qZ s j*aI.size->(w.setCell ⟨cb,i,none⟩ v).cell? ⟨hbk j,k,none⟩=some (.bool (HT j k))/\(w.setCell ⟨cb,i,none⟩ v).frozen? ⟨hbk j,k,none⟩=false)/\
  top<=(w.setCell ⟨cb,i,none⟩ v).heap.size:=by
 have o:∀j u,j≠i->w.cell? ⟨cb,j,none⟩=some u->(w.setCell ⟨cb,i,none⟩ v).cell? ⟨cb,j,none⟩=some u:=λ j u C D=>by
  rw[LF (h:=by intro e;injection e;omega)];exact D
 have F:∀j u,(nS (.slice (some ⟨bb,0,none⟩) (iR s) (iR s)) (gP s) (.slice (some ⟨vg,0,none⟩) (iM s) aU))[j]?=some u->j<258:=λ j u D=>by
  have:=(LJ.1 D).1;rw[nY _ _ _ (by unfold gP;rw[lQ];rfl)]at this;exact this
 refine⟨o,h.mem.below (tI lR) lR,λ j u D=>o _ _ (by have:=F j u D;omega) (h.im j u D),λ i'=>by rw[LH];exact h.fz i',
  QO h.rt (OC _) _,λ j C=>?_,λ j k C I=>⟨?_,by rw[LH];exact(h.tb j k C I).2⟩,by have:=h.hz;simp[LO];omega⟩
 ·rw[LF (h:=by intro e;injection e;have:=h.b1;omega)];exact h.hl j C
 ·rw[LF (h:=by intro e;injection e;have:=h.b2 j C;omega)];exact(h.tb j k C I).1
theorem CW.stepN(h:CW w cb top s aI bb vg aU yb zb vt hg bH hbk HT c p n T):CW (w.setCell ⟨cb,261,none⟩ (.int .i64 ((n:Int)+1))) cb top s aI bb vg aU yb zb vt hg bH hbk HT c p (n+1) T:=by
 obtain⟨o,a1,C,D,F,I,J,Q⟩:=h.setOwn 261 (.int .i64 ((n:Int)+1)) (by omega);exact⟨a1,C,o _ _ (by omega) h.k1,o _ _ (by omega) h.k2,o _ _ (by omega) h.k3,LI _ _ _ h.k4,o _ _ (by omega) h.k5,o _ _ (by omega) h.k6,D,F,I,J,h.b0,h.b1,h.b2,h.bi,h.bv,Q⟩
theorem CW.setC(h:CW w cb top s aI bb vg aU yb zb vt hg bH hbk HT c p n T)(C:Nat):CW (w.setCell ⟨cb,259,none⟩ (.int .i64 (C:Int))) cb top s aI bb vg aU yb zb vt hg bH hbk HT C p n T:=by
 obtain⟨o,a1,D,F,I,J,Q,U⟩:=h.setOwn 259 (.int .i64 (C:Int)) (by omega);exact⟨a1,D,o _ _ (by omega) h.k1,LI _ _ _ h.k2,o _ _ (by omega) h.k3,o _ _ (by omega) h.k4,o _ _ (by omega) h.k5,o _ _ (by omega) h.k6,F,I,J,Q,h.b0,h.b1,h.b2,h.bi,h.bv,U⟩
theorem CW.setP(h:CW w cb top s aI bb vg aU yb zb vt hg bH hbk HT c p n T)(C:Nat):CW (w.setCell ⟨cb,260,none⟩ (.int .i64 (C:Int))) cb top s aI bb vg aU yb zb vt hg bH hbk HT c C n T:=by
 obtain⟨o,a1,D,F,I,J,Q,U⟩:=h.setOwn 260 (.int .i64 (C:Int)) (by omega);exact⟨a1,D,o _ _ (by omega) h.k1,o _ _ (by omega) h.k2,LI _ _ _ h.k3,o _ _ (by omega) h.k4,o _ _ (by omega) h.k5,o _ _ (by omega) h.k6,F,I,J,Q,h.b0,h.b1,h.b2,h.bi,h.bv,U⟩
theorem CW.mark(h:CW w cb top s aI bb vg aU yb zb vt hg bH hbk HT c p n T){i k:Nat}(hi:i<iM s)(U:k<qZ s i*aI.size):
  CW (w.setCell ⟨hbk i,k,none⟩ (.bool true)) cb top s aI bb vg aU yb zb vt hg bH hbk (λ j m=>if j=i/\m=k then true else HT j m) c p n T:=by
 have b2:=h.b2 i hi;have o:∀b j u,b≠hbk i->w.cell? ⟨b,j,none⟩=some u->(w.setCell ⟨hbk i,k,none⟩ (.bool true)).cell? ⟨b,j,none⟩=some u:=λ b j u C F=>by
  rw[LF (h:=by intro e;injection e;omega)];exact F
 refine⟨h.mem.below (tI (by omega)) lR,λ j u F=>o _ _ _ (by omega) (h.im j u F),o _ _ _ (by omega) h.k1,o _ _ _ (by omega) h.k2,o _ _ _ (by omega) h.k3,o _ _ _ (by omega) h.k4,o _ _ _ (by omega) h.k5,o _ _ _ (by omega) h.k6,
  λ i'=>by rw[LH];exact h.fz i',iH h.rt (λ q Q=>MR _ _ _ _ (by have:=(h.bv q Q).2.2 i hi;exact this)),λ j C=>o _ _ _ (by omega) (h.hl j C),λ j m C D=>⟨?_,by rw[LH];exact(h.tb j m C D).2⟩,
  h.b0,h.b1,h.b2,h.bi,h.bv,by have:=h.hz;simp[LO];omega⟩
 by_cases e:j=i
 ·subst e;by_cases I:m=k
  ·subst I;rw[aB ⟨rfl,rfl⟩];exact LI _ _ _ (h.tb j m C D).1
  ·rw[aA (λ q=>I q.2),LF (h:=by intro J;injection J;omega)];exact(h.tb j m C D).1
 ·rw[aA (λ q=>e q.1)];exact o _ _ _ (λ q=>e (h.bi j i C hi q)) (h.tb j m C D).1
end
def Su(w:tW)(cb:Nat)(s aI:tB)(bb vg aU:Nat)(yb:Nat->Nat)(zb:Nat->Nat->Nat)(vt:tV)(hg bH:Nat)(hbk:Nat->Nat)(c p n:Nat)(H T:List (Int×Int×Int))(e:Ending)(w':tW):Prop:=
 e=.returned (.tuple #[.int .i64 ((Nu (nZ s aI c H (aI.size-p) 0 p none):Nat):Int),.int .i64 ((KT p (nZ s aI c H (aI.size-p) 0 p none):Nat):Int)])/\
 Below cb w w'/\∃o,CW w' cb w'.heap.size s aI bb vg aU yb zb vt hg bH hbk o c p (n+(iE s aI c H p).2) T/\J7 s aI (H++(iE s aI c H p).1) o
theorem AQ{w:tW}{e:Nat}{xs:List tV}(h:w.ownsRow aH e 1 (.slice (some ⟨g,0,none⟩) n aJ) n xs):w.ownsRow aH e 1 (.slice (some ⟨g,0,none⟩) 0 aJ) 0 []:=by
 refine⟨rfl,?_⟩;rcases h.2 with⟨Q,_⟩|⟨V,I,o,J,C,hg,U,D,F,_⟩
 ·cases Q
 ·cases J
  exact .inr ⟨g,aJ,o,rfl,C,hg,zL,D,F,by simp⟩
theorem K7(w:tW)(e:TypeId):(w.alloc (.cells #[] e)).ownsRow w.heap.size e 1 (.slice (some ⟨w.heap.size,0,none⟩) 0 0) 0 []:=by
 refine⟨rfl,.inr ⟨w.heap.size,0, #[],rfl,lR,QW w _,lR,?_⟩⟩;simp
theorem Vi(s aI:tB)(cb bb vg aU:Nat)(yb:Nat->Nat)(zb:Nat->Nat->Nat)(vt:tV)(hg bH:Nat)(hbk:Nat->Nat)(HT:Nat->Nat->Bool)(c p n:Nat)(H T:List (Int×Int×Int))(w:tW)
  (hi:iF s=true) (O5:aI.size<=300) (hp:p<=aI.size) (hc:c<iM s) (hn:n<=100000) (hH:J7 s aI H HT)
  (F:CW w cb w.heap.size s aI bb vg aU yb zb vt hg bH hbk HT c p n T):
  RC LM 52 #[.pointer (some ⟨cb,0,none⟩)] w λ e w'=>Su w cb s aI bb vg aU yb zb vt hg bH hbk c p n H T e w':=by
 have lH:=fV F;obtain⟨M,EM⟩:=xE (iM s)
 obtain⟨N,EN⟩:=xE (qZ s c)
 obtain⟨NL,aT⟩:=xE (N*aI.size)
 have hM:=(kZ hi).2.2.2.1;have W3:=iI c M (by omega)
 have cN:=fV (show(gP s).length=256 by unfold gP;rw[lQ];rfl);have B1:w.cell? ⟨cb,257,none⟩=some (.slice (some ⟨vg,0,none⟩) M aU):=by have:=F.im 257 _ (yI _ _ _ cN.o);rw[LN,EM]at this;exact this
 have k2:=F.k2;have k3:=F.k3;have k6:=F.k6;rw[EM]at k6;have m1:=F.mem.co c hc;rw[EN]at m1;have m2:=F.hl c hc;rw[EN,aT]at m2;have HH:=fV hH;have HI:=fV hi;have hN:=K5 hi hc;rw[EN]at hN;have T2:NL<=30000:=by rw[<-aT];have:=NI hN.1 O5;omega
 have W2:c<M:=by omega
 replace hc:=fV hc;replace EM:=fV EM;replace EN:=fV EN;replace aT:=fV aT;clear F hH hM hi;go_enter func52,ntmps52;go_wp2;go_quiet (fail);have aL:=fV (lH.o.drewN nq);have hV:QQ (Below cb w (w.drewN nq)):=_root_.Go.below_drewN bR nq;have A3:(w.drewN nq).heap.size=w.heap.size:=rfl;generalize w.drewN nq=wa at*;clear B1 k2 k3 k6 m1 m2 lH;have k2:=aL.o.k2;have k6:=aL.o.k6;rw[EM.o]at k6;have m2:=aL.o.hl c hc.o;rw[EN.o,aT.o]at m2;go_wp2;go_quiet (fail);have aO:=fV (aL.o.drewN nq);have hW:QQ (Below cb w (wa.drewN nq)):=_root_.Go.below_drewN hV.o nq;have O8:(wa.drewN nq).heap.size=w.heap.size:=A3;generalize wa.drewN nq=wb at*;clear k2 k6 m2 aL hV A3;have k3:=aO.o.k3;go_upto_region 7 with fail;have aW:=fV (aO.o.below (bR.alloc aO.o.hz (.cells #[] 3)));have hD:QQ (Below cb w (wb.alloc (.cells #[] 3))):=hW.o.alloc (by have:=aO.o.b0;omega) _;have hG:QQ ((wb.alloc (.cells #[] 3)).ownsRow w.heap.size 3 1 (.slice (some ⟨w.heap.size,0,none⟩) 0 0) 0 []):=by
  rw[<-O8];exact K7 wb 3
 have X4:w.heap.size<(wb.alloc (.cells #[] 3)).heap.size:=by simp;omega
 clear k3;generalize wb.alloc (.cells #[] 3)=w0 at*;clear aO hW;have k3:=aW.o.k3;go_upto_block 0 with fail;clear k3;obtain⟨Q,EB⟩:=xE (nZ s aI c H (aI.size-p) 0 p none)
 obtain⟨SF,bS⟩:=xE (iE s aI c H p)
 replace EB:=fV EB;replace bS:=fV bS
 go_cut [6,7,9] from 14 (λ tk hR sd wc=>∃(g aJ:Nat),tk=.int .i64 (Nu Q:Nat)/\hR=.int .i64 (KT p Q:Nat)/\sd=.slice (some ⟨g,0,none⟩) SF.1.length aJ/\KF s aI c SF.1/\SF.1.length<=300/\
  wc.ownsRow w.heap.size 3 1 (.slice (some ⟨g,0,none⟩) SF.1.length aJ) SF.1.length (Ef aI.size SF.1)/\CW wc cb w.heap.size s aI bb vg aU yb zb vt hg bH hbk HT c p (n+SF.2) T/\Below cb w wc)
 case rest=>
  obtain⟨g,aJ,rfl,rfl,rfl,eT,X1,U,F,hb⟩:=hcut;have eM:=fV eT;have qL:=fV U;have iN:=fV F;have hS:=fV hb;clear eT U F hb aW hD hG;obtain⟨S,kk⟩:=SF;simp only at*;go_wp2_with fail
  go_loopw [115] (λ x wr=>∃(k:Nat)(eN:Nat->Nat->Bool),x=.int .i64 (k:Int)/\k<=S.length/\CW wr cb w.heap.size s aI bb vg aU yb zb vt hg bH hbk eN c p (n+kk) T/\J7 s aI (H++S.take k) eN/\
   wr.ownsRow w.heap.size 3 1 (.slice (some ⟨g,0,none⟩) S.length aJ) S.length (Ef aI.size S)/\Below cb w wr) (λ x _=>S.length-(QP x).toNat)
  case atStart=>exact⟨0,HT,rfl,zL,iN.o,by rw[List.take_zero,OQ];exact HH.o,qL.o,hS.o⟩
  case round=>
   obtain⟨k,eN,rfl,hk,F,A0,U,hb⟩:=hrel;have bT:=fV F;have nL:=fV A0;have qR:=fV U;have hT:=fV hb;clear F A0 U hb iN qL hS;by_cases Z:k<S.length
   ·obtain⟨st,i,hx,aR,eR⟩:=eM.o _ (OJ Z);have hm:=bT.o.tb c (st*aI.size+i) hc.o (D6 aR eR);have O0:wr.cell? ⟨g,k,none⟩=some (.int .i64 ((st*aI.size+i:Nat):Int)):=by
     have e:(Ef aI.size S)[k]?=some (.int .i64 ((st*aI.size+i:Nat):Int)):=by
      unfold Ef;rw[MD,LR Z,hx];simp[uR]
     have:=nV qR.o k _ e;rw[LN]at this;exact this
    have HM:=fV (bT.o.mark hc.o (D6 aR eR));have HK:=fV (Vy nL.o (c:=c) (st:=st) eR);have L1:QQ (H++S.take k++[uR c st i]=H++S.take (k+1)):=by
     unfold QQ;rw[NW,<-hx,QA,LR Z];rfl
    have hy:st*aI.size+i<NL:=by have:=D6 aR eR;rw[EN.o,aT.o]at this;exact this
    generalize st*aI.size+i=Y at*;generalize eN c Y=old at*;clear hx aR eR;have B2:=hm.1;have P0:=hm.2;clear hm;have O7:=iI Y NL (by omega)
    have W8:(0:Int)<=(k:Int)/\(k:Int)<(S.length:Int):=by omega
    have H1:=fV (QO (a:=⟨hbk c,Y,none⟩) qR.o (bT.o.b2 c hc.o).2.1 (.bool true));have E6:=fV (hT.o.setCell (p:=⟨hbk c,Y,none⟩) (MV (bT.o.b2 c hc.o).1) (.bool true));go_wp2;go_roundw
    case rel=>exact⟨k+1,_,by go_num,Z,HM.o,by rw[<-L1.o];exact HK.o,H1.o,E6.o⟩
    case measure=>simp[QP];omega
   ·have e:k=S.length:=by omega
    subst e;go_wp2;go_ret2;refine⟨by rw[EB.o];rfl,hT.o,eN,?_,?_⟩
    ·rw[bS.o];exact bT.o.raise
    ·rw[bS.o];have:=nL.o;rw[List.take_length]at this;exact this
 case first=>
  go_wp2_with fail
  go_loopg [6,7,8,9,10] (aI.size-p) (λ gk tk hR sv sd iv wr=>∃(D:Option (Nat×Nat)) (st i k:Nat) (S:List (Int×Int×Int)) (g aJ:Nat),tk=.int .i64 (Nu D:Nat)/\hR=.int .i64 (KT p D:Nat)/\
   sv=.int .i64 (st:Int)/\sd=.slice (some ⟨g,0,none⟩) S.length aJ/\iv=.int .i64 (i:Int)/\st<N/\p<=i/\i+gk=aI.size/\k<=i-p/\S.length<=i-p/\KF s aI c S/\
   SF=pF s aI c H gk st i S k/\Q=nZ s aI c H gk st i D/\
   wr.ownsRow w.heap.size 3 1 (.slice (some ⟨g,0,none⟩) S.length aJ) S.length (Ef aI.size S)/\CW wr cb w.heap.size s aI bb vg aU yb zb vt hg bH hbk HT c p (n+k) T/\Below cb w wr)
  case atStart=>exact⟨none,0,p,0,[],w.heap.size,0,rfl,rfl,rfl,rfl,rfl,by omega,lR,by omega,by omega,by simp,Ty _ _ _,bS.o.symm,EB.o.symm,hG.o,aW.o,hD.o⟩
  case round=>
   obtain⟨D,st,i,k,S,g,aJ,rfl,rfl,rfl,rfl,rfl,aR,W9,W7,hk,T3,eT,A1,hC,U,F,hb⟩:=hrel;have cP:=fV A1;have eL:=fV hC;have eM:=fV eT;have HO:=fV U;have HC:=fV F;have HB:=fV hb;clear A1 hC eT U F hb aW hD hG;have k1:=HC.o.k1;by_cases Z:i<aI.size
   ·obtain⟨d,rfl⟩:∃d,gk=d+1:=⟨gk-1,by omega⟩
    have J:st<qZ s c:=by rw[EN.o];exact aR
    have O6:st*aI.size+i<NL:=by have:=D6 J Z;rw[EN.o,aT.o]at this;exact this
    have cF:=fV (HH.o c st i hc.o J Z);have hP:=HC.o.tb c (st*aI.size+i) hc.o (D6 J Z);obtain⟨X,hX⟩:∃X:Nat,X=st*aI.size:=⟨_,rfl⟩
    obtain⟨Y,hY⟩:∃Y:Nat,Y=X+i:=⟨_,rfl⟩
    have M2:(st:Int)*(aI.size:Int)=(X:Int):=by rw[hX];simp
    have N0:(X:Int)+(i:Int)=(Y:Int):=by rw[hY];simp
    rw[<-hX,<-hY]at O6 hP cF;replace hX:=fV hX;have W0:X<=30000:=by omega
    replace hY:=fV hY;have O7:=iI Y NL (by omega)
    have hd:decide ((i:Int)<(aI.size:Int))=true:=by simp;omega
    have t1:=hP.1;clear hP J
    cases hkn:sV H (uR c st i)with
    | true=>
     rw[hkn]at cF;rw[cF.o]at t1;have C:QQ (SF=(S,k)):=cP.o.trans (C0 hkn);have V:QQ (Q=D):=eL.o.trans (Mc hkn);clear hkn;go_wp2;go_meet
     case rel=>
      refine⟨g,aJ,by rw[V.o],by rw[V.o],by rw[C.o],by rw[C.o];exact eM.o,by rw[C.o];simp only;omega,by rw[C.o];exact HO.o,by rw[C.o];exact HC.o,HB.o⟩
    | false=>
     rw[hkn]at cF;rw[cF.o]at t1;have bN:=fV hkn;clear hkn;obtain⟨N1,hA⟩:=xE (n+k)
     rw[hA]at HC;have O9:N1<=101000:=by omega
     replace hA:=fV hA;have hQ:=HC.o.hz;go_wp2_with (first|(at_builtin;refine gB wr rfl (.tmp 66) (.tmp 68) 59 rfl w.heap.size 3 (.int .i64 0) 1 8 NE bU rfl (by decide) (by decide) _ S.length (Ef aI.size S) [.int .i64 (Y:Int)] _ rfl HO.o _ rfl rfl rfl (by simp[MG]) (by omega) hQ ?_;intro g4 cap4 w4 eX bC tT A2;have hJ:=lN (NB w.heap.size wr) hQ HO.o lR bC;have bK:=fV (HC.o.below hJ);have r4:=bK.o.k4;have f4:=bK.o.fz 261;clear k1 t1));have bM:=fV bK.o.stepN;have rL:QQ ((w4.setCell ⟨cb,261,none⟩ (.int .i64 ((N1:Int)+1))).ownsRow w.heap.size 3 1 (.slice (some ⟨g4,0,none⟩) (S.length+1) cap4) (S.length+1) (Ef aI.size (S++[uR c st i]))):=by
      rw[Yo];have e:(st:Int)*(aI.size:Int)+(i:Int)=(Y:Int):=by rw[M2,N0]
      rw[e];exact QO eX (by have:=bK.o.b0;exact this) _
     have hU:=fV ((HB.o.trans (hJ.mono (by have:=bK.o.b0;omega))).setCell (p:=⟨cb,261,none⟩) lR (.int .i64 ((N1:Int)+1)));generalize w4.setCell ⟨cb,261,none⟩ (.int .i64 ((N1:Int)+1))=w5 at*;clear bK HC HO HB eX bC tT A2 hJ r4 f4 hQ;have J:st<qZ s c:=by rw[EN.o];exact aR
     have W1:=kL aI i Z;have eO:=mT aI i;have q1:=bM.o.k1;have q2:=bM.o.mem.nx c st hc.o J;rw[PF 2 st]at q2;have q3:=bM.o.mem.ld c st (bt aI i) hc.o J eO;have q4:w5.cell? ⟨cb,1+bt aI i,none⟩=some (.int .i64 (tK s (bt aI i):Int)):=by
      have e:(gP s)[bt aI i]'(by rw[cN.o];exact eO)=tK s (bt aI i):=by simp only[(B4 HI.o).co];simp
      have:=bM.o.im (1+bt aI i) _ (s9 _ _ _ (bt aI i) (by rw[cN.o];exact eO));rw[LN,e]at this;exact this
     have W4:=wK HI.o (bt aI i) eO;have nN:QQ (Tl s c st (bt aI i)=oL (iA s c st (bt aI i))):=rfl;have hL:=Iv HI.o hc.o J eO;have rO:=fV (@xY s aI c d st i k H S bN.o);have rT:=fV (@C1 s aI c d st i k H S bN.o);have sR:=fV (@K3 s aI c d st i k H S bN.o);have sW:=fV (@Fh s aI c d st i H D bN.o);have tL:=fV (@Md s aI c d st i H D bN.o);have tO:=fV (@Qf s aI c d st i H D bN.o);generalize Tl s c st (bt aI i)=lj at*;generalize iA s c st (bt aI i)=ln at*;generalize tK s (bt aI i)=q at*;generalize iK s=K at*;generalize bt aI i=v at*;rw[EN.o]at hL;have S5:=iI st N (by omega)
     have X0:=iI q K (by omega)
     have X2:(0:Int)<=(v:Int)/\(v:Int)<256:=by omega
     have W6:(0:Int)<=(i:Int)/\(i:Int)<(aI.size:Int):=by omega
     clear J;go_quiet (fail);have gL:=fV (bM.o.drewN nq);have hI:QQ ((w5.drewN nq).ownsRow w.heap.size 3 1 (.slice (some ⟨g4,0,none⟩) (S.length+1) cap4) (S.length+1) (Ef aI.size (S++[uR c st i]))):=rL.o;have hE:=fV (_root_.Go.below_drewN hU.o nq);generalize w5.drewN nq=w6 at*;clear bM rL hU q1 q2 q3 q4;have bO:QQ ((S++[uR c st i]).length=S.length+1):=by unfold QQ;simp
     have hF:QQ (n+(k+1)=N1+1):=by unfold QQ;have:=hA.o;omega
     have hB:QQ (KF s aI c (S++[uR c st i])):=AJ eM.o (by rw[EN.o];exact aR) Z;by_cases I:ln=255
     ·have hK:lj= -1:=by rw[nN.o,I];rfl
      subst hK;have C:QQ (SF=(S++[uR c st i],k+1)):=cP.o.trans (rO.o I);have V:QQ (Q=D):=eL.o.trans (sW.o I);clear hL I;go_wp2;go_meet
      case rel=>
       refine⟨g4,cap4,by rw[V.o],by rw[V.o],by rw[C.o];simp only;rw[bO.o],by rw[C.o];exact hB.o,by rw[C.o];simp only;rw[bO.o];omega,by rw[C.o];simp only;rw[bO.o];exact hI.o,by rw[C.o];simp only;rw[hF.o];exact gL.o,hE.o⟩
     ·have hK:lj=(ln:Int):=by rw[nN.o];unfold oL;rw[aA I]
      subst hK;have eS:ln<N:=by omega
      have W5:((ln:Int)== -1)=false:=by rw[aC];omega
      have q5:=gL.o.mem.tk c ln hc.o (by rw[EN.o];exact eS);rw[PF 2 ln]at q5;have H3:=fV (rT.o I);have H4:=fV (sR.o I);have H5:=fV (tL.o I);have H6:=fV (tO.o I);generalize jM s c ln=m at*;have S2:=iI ln N (by omega)
      clear hL I rO rT sR sW tL tO;by_cases hm:m=0
      ·have C:QQ (SF=pF s aI c H d ln (i+1) (S++[uR c st i]) (k+1)):=cP.o.trans (H4.o hm);have V:QQ (Q=nZ s aI c H d ln (i+1) D):=eL.o.trans (H6.o hm);have O3:((m:Int) !=0)=false:=by rw[hm];rfl
       clear hm;go_wp2;go_roundg d
       case measure=>omega
       case rel=>
        refine⟨D,ln,i+1,k+1,S++[uR c st i],g4,cap4,rfl,rfl,rfl,by rw[bO.o],by go_num,eS,by omega,by omega,by omega,by rw[bO.o];omega,hB.o,C.o,V.o,by rw[bO.o];exact hI.o,by rw[hF.o];exact gL.o,hE.o⟩
      ·have C:QQ (SF=pF s aI c H d ln (i+1) [] (k+1)):=cP.o.trans (H3.o (by omega));have V:QQ (Q=nZ s aI c H d ln (i+1) (some (m-1,i+1))):=eL.o.trans (H5.o (by omega));have O3:((m:Int) !=0)=true:=by rw[aD];omega
       have H0:QQ (Nu (some (m-1,i+1))=m):=by unfold QQ Nu;simp only;omega
       have H2:=fV (AQ hI.o);clear hm;go_wp2;go_roundg d
       case measure=>omega
       case rel=>
        refine⟨some (m-1,i+1),ln,i+1,k+1,[],g4,cap4,by rw[H0.o],by simp[KT],rfl,rfl,by go_num,eS,by omega,by omega,by omega,by simp,Ty _ _ _,C.o,V.o,H2.o,by rw[hF.o];exact gL.o,hE.o⟩
   ·have e:gk=0:=by omega
    subst e;have C:QQ (SF=(S,k)):=cP.o;have V:QQ (Q=D):=eL.o;have hd:decide ((i:Int)<(aI.size:Int))=false:=by simp;omega
    go_wp2;go_meet
    case rel=>
     refine⟨g,aJ,by rw[V.o],by rw[V.o],by rw[C.o],by rw[C.o];exact eM.o,by rw[C.o];simp only;omega,by rw[C.o];exact HO.o,by rw[C.o];exact HC.o,HB.o⟩
section
theorem cJ:(Tryz.prog.info? 79).map (λ i=>(i.zero,i.size,i.bytes))=some (some (.agg #[.int .i64 0,.int .i64 0,.int .i64 0]),3,24):=by kernel_rfl
variable {w w':tW}{cb top:Nat}{s aI:tB}{bb vg aU:Nat}{yb:Nat->Nat}{zb:Nat->Nat->Nat}{vt:tV}{hg bH:Nat}{hbk:Nat->Nat}{HT:Nat->Nat->Bool}{c p n:Nat}{T:List (Int×Int×Int)}
theorem CW.told{W w4:tW}(h:CW W cb W.heap.size s aI bb vg aU yb zb vt hg bH hbk HT c p n T){o:Obj}{x:Int×Int×Int}{g aJ:Nat}
  (V:w4.ownsRow (cb+1) 79 3 (.slice (some ⟨g,0,none⟩) (T.length+1) aJ) (T.length+1) (hZ T++[.int .i64 x.1,.int .i64 x.2.1,.int .i64 x.2.2]))
  (C:(W.alloc o).grownBy w4 vt.ownBlock) (aO:vt.ownBlock=some g\/g=W.heap.size+1) (bC:g<w4.heap.size):
  CW (w4.setCell ⟨cb,262,none⟩ (.slice (some ⟨g,0,none⟩) (T.length+1) aJ)) cb w4.heap.size s aI bb vg aU yb zb (.slice (some ⟨g,0,none⟩) (T.length+1) aJ) hg bH hbk HT c p n (T++[x]):=by
 have b0:=h.b0;have b1:=h.b1;have aR:=C.size;simp at aR;have F:∀k,k<W.heap.size->vt.ownBlock≠some k->w4.heap[k]?=W.heap[k]? :=λ k I hv=>(C.block k (by simp;omega) (λ e=>hv e.symm)).trans (MB W o k I)
 have X:vt.ownBlock≠some cb:=λ e=>by have:=(h.rt.lt cb e).1;omega
 have aW:∀k,k<cb->vt.ownBlock≠some k:=λ k I e=>by have:=(h.rt.lt k e).1;omega
 have aT:vt.ownBlock≠some hg:=λ e=>(h.bv hg e).2.1 rfl
 have Y:∀j,j<iM s->vt.ownBlock≠some (hbk j):=λ j D e=>(h.bv _ e).2.2 j D rfl
 have Z:Below cb W w4:=⟨C.os,C.tape,C.output,by omega,λ k I=>F k (by omega) (aW k I)⟩
 have cc:∀i,w4.cell? ⟨cb,i,none⟩=W.cell? ⟨cb,i,none⟩:=λ i=>LD (w:=W) (a:=⟨cb,i,none⟩) (F cb b0 X)
 have cf:∀i,w4.frozen? ⟨cb,i,none⟩=W.frozen? ⟨cb,i,none⟩:=λ i=>LQ (w:=W) (a:=⟨cb,i,none⟩) (F cb b0 X)
 have ch:∀i,w4.cell? ⟨hg,i,none⟩=W.cell? ⟨hg,i,none⟩:=λ i=>LD (w:=W) (a:=⟨hg,i,none⟩) (F hg b1.2 aT)
 have ct:∀j i,j<iM s->w4.cell? ⟨hbk j,i,none⟩=W.cell? ⟨hbk j,i,none⟩:=λ j i D=>LD (w:=W) (a:=⟨hbk j,i,none⟩) (F _ (h.b2 j D).2.1 (Y j D))
 have aL:∀j i,j<iM s->w4.frozen? ⟨hbk j,i,none⟩=W.frozen? ⟨hbk j,i,none⟩:=λ j i D=>LQ (w:=W) (a:=⟨hbk j,i,none⟩) (F _ (h.b2 j D).2.1 (Y j D))
 have U:∀j u,(nS (.slice (some ⟨bb,0,none⟩) (iR s) (iR s)) (gP s) (.slice (some ⟨vg,0,none⟩) (iM s) aU))[j]?=some u->j<258:=λ j u J=>by
  have:=(LJ.1 J).1;rw[nY _ _ _ (by unfold gP;rw[lQ];rfl)]at this;exact this
 have Q:∀j u,j≠262->W.cell? ⟨cb,j,none⟩=some u->(w4.setCell ⟨cb,262,none⟩ (.slice (some ⟨g,0,none⟩) (T.length+1) aJ)).cell? ⟨cb,j,none⟩=some u:=λ j u D J=>by
  rw[LF (h:=by intro e;injection e;omega),cc];exact J
 refine⟨(h.mem.below Z lR).below (tI lR) lR,λ j u J=>Q _ _ (by have:=U j u J;omega) (h.im j u J),Q _ _ (by omega) h.k1,Q _ _ (by omega) h.k2,Q _ _ (by omega) h.k3,Q _ _ (by omega) h.k4,
  LI (u:=vt) _ _ _ ((cc 262).trans h.k5),Q _ _ (by omega) h.k6,λ i=>by rw[LH,cf];exact h.fz i,?_,λ j D=>?_,λ j k D I=>⟨?_,?_⟩,by omega,⟨b1.1,by omega⟩,λ j D=>?_,h.bi,λ k I=>?_,by simp[LO]⟩
 ·rw[show(T++[x]).length=T.length+1 by simp,show hZ (T++[x])=hZ T++[.int .i64 x.1,.int .i64 x.2.1,.int .i64 x.2.2] by simp[hZ]];exact QO V (OC _) _
 ·rw[LF (h:=by intro e;injection e;omega),ch];exact h.hl j D
 ·rw[LF (h:=by intro e;injection e;have:=h.b2 j D;omega),ct j k D];exact(h.tb j k D I).1
 ·rw[LH,aL j k D];exact(h.tb j k D I).2
 ·have:=h.b2 j D;exact⟨this.1,by omega,this.2.2⟩
 ·have e:g=k:=by simpa[MH]using I
  subst e;rcases aO with h1|h1
  ·have:=h.bv g h1;exact⟨by omega,this.2⟩
  ·exact⟨by omega,by omega,λ j D=>by have:=h.b2 j D;omega⟩
theorem CW.drew(h:CW w cb top s aI bb vg aU yb zb vt hg bH hbk HT c p n T):CW w.drew cb top s aI bb vg aU yb zb vt hg bH hbk HT c p n T:=h.drewN 1
theorem T7(s aI:tB)(cb bb vg aU:Nat)(yb:Nat->Nat)(zb:Nat->Nat->Nat)(vt:tV)(hg bH:Nat)(hbk:Nat->Nat)(HT:Nat->Nat->Bool)(c p n:Nat)(T:List (Int×Int×Int))(r q:Int)(w:tW)
  (hT:T.length<=100000) (h:CW w cb w.heap.size s aI bb vg aU yb zb vt hg bH hbk HT c p n T):
  RC LM 53 #[.pointer (some ⟨cb,0,none⟩),.int .i64 r,.int .i64 q] w λ e w'=>e=.returned (.tuple #[])/\Below cb w w'/\
   ∃X,CW w' cb w'.heap.size s aI bb vg aU yb zb X hg bH hbk HT c p n (T++[(r,(p:Int),q)]):=by
 have Q:=fV h;have k3:=h.k3;have k5:=h.k5;have Z:=h.fz 262;obtain⟨va,V,hv⟩:=gA h.rt;subst hv;have aL:=h.b0;clear h;go_enter func53,ntmps53;go_wp2_with fail;have D:some cb≠(MZ va T.length V).ownBlock:=λ e=>by have:=(Q.o.rt.lt cb e.symm).1;omega
 go_region_law ((refine sF w.drew rfl (.tmp 10) (.tmp 18) 29 rfl (cb+1) 79 (.agg #[.int .i64 0,.int .i64 0,.int .i64 0]) 3 24 MW cJ rfl (by decide) (by decide) _ T.length (hZ T) [.int .i64 r,.int .i64 (p:Int),.int .i64 q] _ (by simp[Act.eval]) Q.o.rt _ rfl (by simp[Act.eval]) rfl (by simp[MG]) (by omega) (by show cb+1<=w.heap.size;omega) ?_;intro g4 cap4 w4 F C I J;have m3:=((gH C (k:=cb) (by show cb<w.heap.size;omega) D).1 262).trans k5;have n3:=((gH C (k:=cb) (by show cb<w.heap.size;omega) D).2 262).trans Z;have Y:=fV (Q.o.drew.told (x:=(r,(p:Int),q)) F C I J);have U:QQ (Below cb w w4):=(lN (o:= .cells #[.int .i64 r,.int .i64 (p:Int),.int .i64 q] 79) (_root_.Go.below_drewN (NB cb w) 1) (by show cb<=w.heap.size;omega) Q.o.rt (NK _) C)))
 all_goals
  go_wp2
  go_end0
  exact⟨rfl,U.o.setCell (p:=⟨cb,262,none⟩) lR _,_,Y.o.raise⟩
end
theorem Vm(s aI:tB)(cb bb vg aU:Nat)(yb:Nat->Nat)(zb:Nat->Nat->Nat)(vt:tV)(hg bH:Nat)(hbk:Nat->Nat)(HT:Nat->Nat->Bool)(c p n:Nat)(T:List (Int×Int×Int))(r q:Nat)(w:tW)
  (hi:iF s=true) (hr:r<iR s) (hT:T.length<=100000) (h:CW w cb w.heap.size s aI bb vg aU yb zb vt hg bH hbk HT c p n T):
  RC LM 54 #[.pointer (some ⟨cb,0,none⟩),.int .i64 r,.int .i64 q] w λ e w'=>e=.returned (.tuple #[])/\Below cb w w'/\
   ∃aO,CW w' cb w'.heap.size s aI bb vg aU yb zb aO hg bH hbk HT (if 1<nC s r then nC s r-2 else c) q n (if nC s r=1 then T else T++[((r:Int),(p:Int),(q:Int))]):=by
 have V:=fV h;have k0:=h.im 0 _ (Pm _ _ _);have m0:=h.mem.be r hr;have aL:=vX hi hr;have hM:=(kZ hi).2.2.2.1;obtain⟨R,ER⟩:=xE (iR s)
 rw[ER]at k0 hr;obtain⟨b,EB⟩:=xE (nC s r)
 rw[EB]at m0 aL ⊢;have aW:b<=5:=by omega
 have bC:=iI r R (by omega)
 have aR:=h.b0;replace ER:=fV ER;replace EB:=fV EB;clear h hi aL hM;rcases(show b=1\/b=0\/2<=b by omega)with J|J|J
 ·have Y:((b:Int) !=1)=false:=by rw[J];rfl
  have Z:decide ((2:Int)<=(b:Int))=false:=by simp;omega
  rw[aA (show¬1<b by omega),aB J];clear J;have q3:=V.o.k3;have f3:=V.o.fz 260;go_enter func54,ntmps54;go_wp2
  go_end0
  exact⟨rfl,bR.setCell (p:=⟨cb,260,none⟩) lR _,vt,(V.o.setP q).raise⟩
 ·have Y:((b:Int) !=1)=true:=by rw[J];rfl
  have Z:decide ((2:Int)<=(b:Int))=false:=by simp;omega
  rw[aA (show¬1<b by omega),aA (show¬b=1 by omega)];clear J;go_enter func54,ntmps54;go_wp2_with fail;refine(T7 s aI cb bb vg aU yb zb vt hg bH hbk HT c p n T (r:Int) (q:Int) _ hT V.o).mono ?_;rintro e w1 ⟨rfl,D,Q,C⟩;have I:=fV C;have F:=fV D;have q3:=C.k3;have f3:=C.fz 260;clear C D k0 m0;go_wp2
  go_end0
  exact⟨rfl,F.o.setCell (p:=⟨cb,260,none⟩) lR _,Q,(I.o.setP q).raise⟩
 ·have Y:((b:Int) !=1)=true:=by rw[aD];omega
  have Z:decide ((2:Int)<=(b:Int))=true:=by simp;omega
  rw[aB (show 1<b by omega),aA (show¬b=1 by omega)];obtain⟨U,X⟩:∃U:Nat,b-2=U:=⟨_,rfl⟩
  have aT:(b:Int)-2=(U:Int):=by omega
  rw[X];clear X;go_enter func54,ntmps54;go_wp2_with fail;refine(T7 s aI cb bb vg aU yb zb vt hg bH hbk HT c p n T (r:Int) (q:Int) _ hT V.o).mono ?_;rintro e w1 ⟨rfl,D,Q,C⟩;have I:=fV C;have F:=fV D;have q2:=C.k2;have f2:=C.fz 259;have q3:=(C.setC U).k3;have f3:=(C.setC U).fz 260;clear C D k0 m0;go_wp2
  go_end0
  exact⟨rfl,(F.o.setCell (p:=⟨cb,259,none⟩) lR _).setCell (p:=⟨cb,260,none⟩) lR _,Q,((I.o.setC U).setP q).raise⟩
theorem fQ:((Tryz.prog.info? 141).map (·.zero))=some (some (.agg LZ)):=by kernel_rfl
theorem dO:(MI 6).map (λ k=>LZ[258+k]?)=[some (.string QE),some (.int .i64 0),some (.int .i64 0),some (.int .i64 0),some (.slice none 0 0),some (.slice none 0 0)]:=by kernel_rfl
theorem dC:Tryz.zeroCells141.size=264:=by kernel_rfl
theorem fP:(Tryz.prog.info? 141).map (·.size)=some 264:=by kernel_rfl
theorem dV:Tryz.zeroCells141.all (·.oneCell')=true:=by kernel_rfl
theorem eG:(match Tryz.prog.underlying 141 with
  | some (.struct fs)=>fs.toList.mapM (λ f=>(Tryz.prog.info? f.type).map λ i=>(f.offset,i.size))
  | _=>none)=some [(0,258),(258,1),(259,1),(260,1),(261,1),(262,1),(263,1)]:=by kernel_rfl
theorem fC(bA:List (Nat×tV)):Tryz.prog.built 141 bA=Instr.fill ([(0,258),(258,1),(259,1),(260,1),(261,1),(262,1),(263,1)].toArray[·]?) LZ bA:=by
 have C:=fQ;have o:=eG;generalize LZ=Z at*;unfold Program.built
 cases hi:Tryz.prog.info? 141 with
 | none=>rw[hi]at C;cases C
 | some it=>
  rw[hi]at C;have D:it.zero=some (.agg Z):=by simpa using C
  cases hu:Tryz.prog.underlying 141 with
  | none=>rw[hu]at o;cases o
  | some d=>
   rw[hu]at o
   cases d with
   | struct fs=>
    simp only at o;simp only[D,o,PV]
   | _=>cases o
theorem Vp(A:Array tV)(hA:A.size=258)(V:A.all (·.oneCell')=true)(aI:tB)(c0:Int):∃C:Array tV,Tryz.prog.built 141 [(0,.agg A),(1,.string aI),(2,.int .i64 c0)]=some C/\C.size=264/\C.all (·.oneCell')=true/\
  (∀k,k<258->C[k]?=A[k]?)/\C[258]?=some (.string aI)/\C[259]?=some (.int .i64 c0)/\C[260]?=some (.int .i64 0)/\C[261]?=some (.int .i64 0)/\C[262]?=some (.slice none 0 0)/\C[263]?=some (.slice none 0 0):=by
 have J:=dC;have ht:=dO;have ho:=dV;rw[fC];generalize LZ=Z at*;have D:∀k v,[some (NM QE),some (.int .i64 0),some (.int .i64 0),some (.int .i64 0),some (.slice none 0 0),some (.slice none 0 0)][k]?=some v->k<6->Z[258+k]?=v:=λ k v hk h6=>by
  rw[<-ht,MD,MN h6]at hk;simpa using hk
 obtain⟨U,Q⟩:=P1 0 A Z;obtain⟨X,I⟩:=P1 258 #[NM aI] (A.zipIdx.foldl (λ cs x=>cs.setIfInBounds (0+x.2) x.1) Z);obtain⟨s3,F⟩:=P1 259 #[MM .i64 c0] (#[NM aI].zipIdx.foldl (λ cs x=>cs.setIfInBounds (258+x.2) x.1) (A.zipIdx.foldl (λ cs x=>cs.setIfInBounds (0+x.2) x.1) Z));refine⟨#[MM .i64 c0].zipIdx.foldl (λ cs x=>cs.setIfInBounds (259+x.2) x.1) (#[NM aI].zipIdx.foldl (λ cs x=>cs.setIfInBounds (258+x.2) x.1) (A.zipIdx.foldl (λ cs x=>cs.setIfInBounds (0+x.2) x.1) Z)),?_,by rw[s3,X,U,J],?_,λ k hk=>?_,?_,?_,?_,?_,?_,?_⟩
 ·have e1:(QN A).cells=A:=rfl;have e2:(NM aI).cells= #[NM aI]:=rfl;have e3:(MM .i64 c0).cells= #[MM .i64 c0]:=rfl;unfold Instr.fill;simp only[PQ,NO,e1,hA,J];rw[aA (by decide)];unfold Instr.fill;simp only[ND,NO,e2];rw[aA (by rw[U,J];simp)];unfold Instr.fill;simp only[ND,NO,e3];rw[aA (by rw[X,U,J];simp)];unfold Instr.fill
  rfl
 ·rw[OY];intro i hi;have o:=OX hi;have aL:=hi;rw[s3,X,U,J]at aL;rw[F,I,Q]at o;generalize (#[MM .i64 c0].zipIdx.foldl (λ cs x=>cs.setIfInBounds (259+x.2) x.1) (#[NM aI].zipIdx.foldl (λ cs x=>cs.setIfInBounds (258+x.2) x.1) (A.zipIdx.foldl (λ cs x=>cs.setIfInBounds (0+x.2) x.1) Z)))[i]=u at*;split at o
  ·rename_i Y;have e:i-259=0:=by have:=Y.2.1;simp at this;omega
   rw[e]at o;have hq:(#[MM .i64 c0]:Array tV).all (·.oneCell')=true:=by simp[MG]
   exact E2 hq o
  ·split at o
   ·rename_i Y;have e:i-258=0:=by have:=Y.2.1;simp at this;omega
    rw[e]at o;have hq:(#[NM aI]:Array tV).all (·.oneCell')=true:=by simp[MG]
    exact E2 hq o
   ·split at o
    ·exact E2 V o
    ·exact E2 ho o
 ·rw[F,aA (by omega),I,aA (by omega),Q,aB (by omega)];rfl
 ·rw[F,aA (by omega),I,aB ⟨by omega,by simp,by rw[U,J];omega⟩];rfl
 ·rw[F,aB ⟨by omega,by simp,by rw[X,U,J];omega⟩];rfl
 ·rw[F,aA (by simp),I,aA (by simp),Q,aA (by omega)];exact D 2 _ rfl (by omega)
 ·rw[F,aA (by simp),I,aA (by simp),Q,aA (by omega)];exact D 3 _ rfl (by omega)
 ·rw[F,aA (by simp),I,aA (by simp),Q,aA (by omega)];exact D 4 _ rfl (by omega)
 ·rw[F,aA (by simp),I,aA (by simp),Q,aA (by omega)];exact D 5 _ rfl (by omega)
section
def Pk(s aI:tB)(hbk:Nat->Nat)(m:Nat):List tV:=(MI m).map λ j=>MZ (some ⟨hbk j,0,none⟩) (qZ s j*aI.size) (qZ s j*aI.size)
structure Zi(w:tW)(cb:Nat)(s aI:tB)(bb vg aU:Nat)(yb:Nat->Nat)(zb:Nat->Nat->Nat)(vh:tV)(hbk:Nat->Nat)(c0 m:Nat):Prop where
 mem:IM w s bb vg yb zb cb
 im:w.rangeAt cb 0 (nS (.slice (some ⟨bb,0,none⟩) (iR s) (iR s)) (gP s) (.slice (some ⟨vg,0,none⟩) (iM s) aU))
 k1:w.cell? ⟨cb,258,none⟩=some (.string aI)
 k2:w.cell? ⟨cb,259,none⟩=some (.int .i64 c0)
 k3:w.cell? ⟨cb,260,none⟩=some (.int .i64 0)
 k4:w.cell? ⟨cb,261,none⟩=some (.int .i64 0)
 k5:w.cell? ⟨cb,262,none⟩=some (.slice none 0 0)
 k6:w.cell? ⟨cb,263,none⟩=some vh
 fz:∀i,w.frozen? ⟨cb,i,none⟩=false
 rh:w.ownsRow (cb+1) 80 1 vh m (Pk s aI hbk m)
 tb:∀j k,j<m->k<qZ s j*aI.size->w.cell? ⟨hbk j,k,none⟩=some (.bool false)/\w.frozen? ⟨hbk j,k,none⟩=false
 hb:cb<w.heap.size
 b2:∀j,j<m->cb<hbk j/\hbk j<w.heap.size/\vh.ownBlock≠some (hbk j)
 bi:∀i j,i<m->j<m->hbk i=hbk j->i=j
variable {w w':tW}{cb:Nat}{s aI:tB}{bb vg aU:Nat}{yb:Nat->Nat}{zb:Nat->Nat->Nat}{vh:tV}{hbk:Nat->Nat}{c0 m:Nat}
theorem Me(n k:Nat)(h:k<n):(QV #[QM false] n)[k]?=some (.bool false):=by
 unfold QV;rw[Array.getElem?_map,Array.getElem?_range,aB h];simp[QL]
theorem Zi.more(h:Zi w cb s aI bb vg aU yb zb vh hbk c0 m){V:TypeId}{o:Obj}{w4:tW}{J g aJ:Nat}(aL:qZ s m*aI.size=J)
  (aT:w4.ownsRow (cb+1) 80 1 (.slice (some ⟨g,0,none⟩) (m+1) aJ) (m+1) (Pk s aI hbk m++[.slice (some ⟨w.heap.size,0,none⟩) J J]))
  (C:((w.alloc (.cells (QV #[.bool false] J) V)).alloc o).grownBy w4 vh.ownBlock) (aO:vh.ownBlock=some g\/g=w.heap.size+2):
  Zi (w4.setCell ⟨cb,263,none⟩ (.slice (some ⟨g,0,none⟩) (m+1) aJ)) cb s aI bb vg aU yb zb (.slice (some ⟨g,0,none⟩) (m+1) aJ) (λ j=>if j=m then w.heap.size else hbk j) c0 (m+1):=by
 have b0:=h.hb;have bM:=C.size;simp at bM;have I:∀k,vh.ownBlock=some k->cb<k/\k<w.heap.size:=λ k D=>by have:=h.rh.lt k D;omega
 have F:∀k,k<w.heap.size->vh.ownBlock≠some k->w4.heap[k]?=w.heap[k]? :=λ k D hv=>((C.block k (by simp;omega) (λ e=>hv e.symm)).trans (MB _ o k (by simp;omega))).trans (MB w _ k D)
 have Q:w4.heap[w.heap.size]?=some (.cells (QV #[.bool false] J) V (0,0)):=((C.block _ (by simp;omega) (λ e=>by have:=I _ e.symm;omega)).trans (MB _ o _ (by simp))).trans (QW w _);have aW:vh.ownBlock≠some cb:=λ e=>by have:=I cb e;omega
 have bC:Below cb w w4:=⟨C.os,C.tape,C.output,by omega,λ k D=>F k (by omega) (λ e=>by have:=I k e;omega)⟩
 have cc:∀i,w4.cell? ⟨cb,i,none⟩=w.cell? ⟨cb,i,none⟩:=λ i=>LD (w:=w) (a:=⟨cb,i,none⟩) (F cb b0 aW)
 have cf:∀i,w4.frozen? ⟨cb,i,none⟩=w.frozen? ⟨cb,i,none⟩:=λ i=>LQ (w:=w) (a:=⟨cb,i,none⟩) (F cb b0 aW)
 have aR:∀j u,(nS (.slice (some ⟨bb,0,none⟩) (iR s) (iR s)) (gP s) (.slice (some ⟨vg,0,none⟩) (iM s) aU))[j]?=some u->j<258:=λ j u X=>by
  have:=(LJ.1 X).1;rw[nY _ _ _ (by unfold gP;rw[lQ];rfl)]at this;exact this
 have Y:∀j u,j≠263->w.cell? ⟨cb,j,none⟩=some u->(w4.setCell ⟨cb,263,none⟩ (.slice (some ⟨g,0,none⟩) (m+1) aJ)).cell? ⟨cb,j,none⟩=some u:=λ j u hj X=>by
  rw[LF (h:=by intro e;injection e;omega),cc];exact X
 have bK:∀k,k<w.heap.size->vh.ownBlock≠some k->(MZ (some ⟨g,0,none⟩) (m+1) aJ).ownBlock≠some k:=λ k D hv e=>by
  have e':g=k:=by simpa[MH]using e
  subst e';rcases aO with h1|h1
  ·exact hv h1
  ·omega
 refine⟨(h.mem.below bC lR).below (tI lR) lR,λ j u X=>Y _ _ (by have:=aR j u X;omega) (h.im j u X),Y _ _ (by omega) h.k1,Y _ _ (by omega) h.k2,Y _ _ (by omega) h.k3,Y _ _ (by omega) h.k4,Y _ _ (by omega) h.k5,
  LI (u:=vh) _ _ _ ((cc 263).trans h.k6),λ i=>by rw[LH,cf];exact h.fz i,?_,λ j k hj D=>?_,by simp[LO];omega,λ j hj=>?_,λ i j hi hj he=>?_⟩
 ·have e:Pk s aI (λ j=>if j=m then w.heap.size else hbk j) (m+1)=Pk s aI hbk m++[.slice (some ⟨w.heap.size,0,none⟩) J J]:=by
   unfold Pk;rw[PM,OF,PX];congr 1
   ·refine MO (λ j hj=>?_);simp only;rw[aA (by have:=OU.1 hj;omega)]
   ·simp only[aB];rw[aL]
  rw[e];exact QO aT (OC _) _
 ·by_cases e:j=m
  ·subst e;rw[aB rfl];rw[aL]at D;refine⟨?_,?_⟩
   ·rw[LF (h:=by intro e;injection e;omega)];unfold World.cell?;simp only[Q];exact Me J k D
   ·rw[LH];unfold World.frozen?;simp only[Q];simp
  ·rw[aA e];have U:j<m:=by omega
   have b:=h.b2 j U;have bq:=F _ b.2.1 b.2.2;refine⟨?_,?_⟩
   ·rw[LF (h:=by intro e;injection e;omega),LD (w:=w) (a:=⟨hbk j,k,none⟩) bq];exact(h.tb j k U D).1
   ·rw[LH,LQ (w:=w) (a:=⟨hbk j,k,none⟩) bq];exact(h.tb j k U D).2
 ·by_cases e:j=m
  ·subst e;simp only[aB];refine⟨b0,by simp[LO];omega,λ e'=>?_⟩;have Z:g=w.heap.size:=by simpa[MH]using e'
   rcases aO with h1|h1
   ·have:=I g h1;omega
   ·omega
  ·simp only[aA e];have b:=h.b2 j (by omega);exact⟨b.1,by simp[LO];omega,bK _ b.2.1 b.2.2⟩
 ·by_cases V:i=m
  ·by_cases Z:j=m
   ·omega
   ·simp only[aB V,aA Z]at he;have:=(h.b2 j (by omega)).2.1;omega
  ·by_cases Z:j=m
   ·simp only[aA V,aB Z]at he;have:=(h.b2 i (by omega)).2.1;omega
   ·simp only[aA V,aA Z]at he;exact h.bi i j (by omega) (by omega) he
theorem Zi.drew(h:Zi w cb s aI bb vg aU yb zb vh hbk c0 m):Zi w.drew cb s aI bb vg aU yb zb vh hbk c0 m:=⟨h.mem.drewN 1,h.im,h.k1,h.k2,h.k3,h.k4,h.k5,h.k6,h.fz,h.rh,h.tb,h.hb,h.b2,h.bi⟩
theorem Zi.done(h:Zi w cb s aI bb vg aU yb zb vh hbk c0 (iM s))(X:1<=iM s):∃hg bH,CW w cb w.heap.size s aI bb vg aU yb zb (.slice none 0 0) hg bH hbk (λ _ _=>false) c0 0 0 []:=by
 have D:=h.rh.lt;have F:=h.rh;obtain⟨g,aJ,V,J,Q⟩:=h.rh.form (by omega);have C:=h.k6;have o:=h.b2;rw[V]at D F C o;refine⟨g,aJ,h.mem,h.im,h.k1,h.k2,h.k3,h.k4,h.k5,C,h.fz,LU _ _ _ _,λ j I=>?_,h.tb,h.hb,?_,λ j I=>?_,h.bi,λ k U=>?_,lR⟩
 ·have:=nV F j (.slice (some ⟨hbk j,0,none⟩) (qZ s j*aI.size) (qZ s j*aI.size)) (by unfold Pk;rw[MD,MN I];rfl);rw[LN]at this;exact this
 ·have:=D g rfl;omega
 ·have b:=o j I;refine⟨b.1,b.2.1,λ e=>b.2.2 ?_⟩;rw[e];rfl
 ·cases U
theorem s8(s aI:tB):J7 s aI [] (λ _ _=>false):=λ _ _ _ _ _ _=>by simp[sV]
end
section
theorem fH:(Tryz.prog.info? 4).map (λ i=>(i.zero,i.size,i.bytes))=some (some (.bool false),1,1):=by kernel_rfl
theorem eI:(Tryz.prog.info? 80).map (λ i=>(i.zero,i.size,i.bytes))=some (some (.slice none 0 0),1,24):=by kernel_rfl
def Wl:tV->Nat
 | .int _ z=>z.toNat
 | _=>0
def IQ(v:tV):Prop:=∃z:Nat,v=.int .i64 (z:Int)/\z<=30000
theorem dR{d:Option Tmp}{p:String}{o:Array Edge}{X:tW}{K:Act->tW->Prop}{Q:Exit->Act->tW->Prop}
  (h:IQ (a.eval x)):
  Oper.wp LM {dst:=d,op:= .makeSlice 80 x x,type:=ty,pos:=p,after:=o,guard:=gd} a X K Q=K (a.put d (.slice (some ⟨X.heap.size,0,none⟩) (Wl (a.eval x)) (Wl (a.eval x)))) (X.alloc (.cells (QV #[.bool false] (Wl (a.eval x))) 4)):=by
 obtain⟨z,D,F⟩:=h;have C:=run_make_row' (P:=LM) 80 4 (.bool false) 1 underlying80 fH rfl .i64 .i64 z (by omega) (by omega) X;unfold Oper.wp execOp;simp only[D,Sem.run_bind,C,Result.andThen_ok,Wl,Int.toNat_natCast]
 rfl
theorem uX:∀(vs:List tV)(o:Nat)(w:tW)(b:Nat)(a:Addr),(w.setCells b o vs).frozen? a=w.frozen? a:=by
 intro vs
 induction vs with
 | nil=>intro o w b a;rfl
 | cons v r ih=>intro o w b a;exact(ih (o+1) _ b a).trans (LH _ _ _ _)
theorem Ew{a w:tW}(h:Below B a w):Below B a w.drew:=⟨h.os,h.tape,h.output,h.size,h.block⟩
def IX(w:tW)(s aI:tB)(c0:Nat)(e:Ending)(w':tW):Prop:=
 ∃vt,e=.returned (.tuple #[vt,.int .i64 ((pX s aI c0).2.1:Nat),.int .i64 ((pX s aI c0).2.2:Nat)])/\w'.ownsRow (w.heap.size+1+1) 79 3 vt (pX s aI c0).1.length (hZ (pX s aI c0).1)/\Bl w w'
attribute [local go_sem ↓] Go.wp_at_zero Go.wp_at_succ dR
theorem Kv(s aI:tB)(c0 bb vg aU:Nat)(yb:Nat->Nat)(zb:Nat->Nat->Nat)(A:Array tV)(w:tW)(hi:iF s=true)(A2:aI.size<=300)(M2:c0<iM s)
  (hA:A.toList=nS (.slice (some ⟨bb,0,none⟩) (iR s) (iR s)) (gP s) (.slice (some ⟨vg,0,none⟩) (iM s) aU)) (hm:IM w s bb vg yb zb w.heap.size):
  RC LM 25 #[.agg A,.int .i64 (c0:Int),.string aI] w λ e w'=>IX w s aI c0 e w':=by
 have eR:=nY (.slice (some ⟨bb,0,none⟩) (iR s) (iR s)) (gP s) (.slice (some ⟨vg,0,none⟩) (iM s) aU) (by unfold gP;rw[lQ];rfl);have cN:=yJ (vb:= .slice (some ⟨bb,0,none⟩) (iR s) (iR s)) (vc:= .slice (some ⟨vg,0,none⟩) (iM s) aU) (cs:=gP s) rfl rfl;have hD:A.size=258:=by rw[<-LY,hA];exact eR
 have nN:A.all (·.oneCell')=true:=by
  rw[<-hA]at cN;have:=QT cN;simpa using this
 obtain⟨C,tT,hE,tL,qL,qR,rL,rO,rT,sR,sW⟩:=Vp A hD nN aI (c0:Int);have gL:QQ ((w.alloc (.cells A 72)).rangeAt w.heap.size 0 A.toList):=mE w A _;have HT:=fV (iD (w.alloc (.cells A 72)) LZ 141 (w.heap.size+1) 264 dC (by simp));have eX:QQ (Below (w.heap.size+1) (w.alloc (.cells A 72)) (((w.alloc (.cells A 72)).alloc (.cells LZ 141)).setCells (w.heap.size+1) 0 C.toList)):=
  fX _ 0 _ (w.heap.size+1) (bR.alloc (by simp) _) lR
 have eT:QQ (Bl w (((w.alloc (.cells A 72)).alloc (.cells LZ 141)).setCells (w.heap.size+1) 0 C.toList)):=
  ((NB w.heap.size w).alloc lR _).trans (eX.o.mono (by omega))
 have iN:QQ ((((w.alloc (.cells A 72)).alloc (.cells LZ 141)).setCells (w.heap.size+1) 0 C.toList).rangeAt (w.heap.size+1) 0 C.toList):=
  MA _ _ _ _ (by rw[LY,hE];exact HT.o)
 have H3:QQ ((((w.alloc (.cells A 72)).alloc (.cells LZ 141)).setCells (w.heap.size+1) 0 C.toList).there (w.heap.size+1) 0 264):=ON HT.o _ _ _;have hR:QQ ((((w.alloc (.cells A 72)).alloc (.cells LZ 141)).setCells (w.heap.size+1) 0 C.toList).cell? ⟨w.heap.size,257,none⟩=some (.slice (some ⟨vg,0,none⟩) (iM s) aU)):=by
  unfold QQ;rw[eX.o.cell (p:=⟨w.heap.size,257,none⟩) (OC _)];have:=gL.o 257 (.slice (some ⟨vg,0,none⟩) (iM s) aU) (by rw[hA];exact yI _ _ _ (by unfold gP;rw[lQ];rfl));rw[LN]at this;exact this
 have nL:QQ (w.heap.size+1<(((w.alloc (.cells A 72)).alloc (.cells LZ 141)).setCells (w.heap.size+1) 0 C.toList).heap.size):=by
  unfold QQ;have:=(fX C.toList 0 ((w.alloc (.cells A 72)).alloc (.cells LZ 141)) (w.heap.size+1) (NB 0 _) zL).size;simp at this;omega
 have hP:=fV tT;have lH:=fV hD;have hC:=fV hE;have hY:=fV tL;have hS:QQ ((∀k,k<258->C[k]?=A[k]?)/\C[258]?=some (.string aI)/\C[259]?=some (.int .i64 (c0:Int))/\C[260]?=some (.int .i64 0)/\C[261]?=some (.int .i64 0)/\C[262]?=some (.slice none 0 0)/\C[263]?=some (.slice none 0 0)):=⟨qL,qR,rL,rO,rT,sR,sW⟩
 have hN:QQ (A.toList.toArray=A):=by unfold QQ;simp
 have HM:=fV hm;have HI:=fV hi;have HA:=fV hA;clear tT hD hE tL qL qR rL rO rT sR sW eR cN nN hm hi hA;go_enter func25,ntmps25;go_upto_region 2 with(first
  | (refine wpList_boxTo rfl 72 (.tmp 0) rfl _ rfl w.heap.size rfl A rfl ?_)
  | (refine QR rfl 72 (.tmp 3) rfl w.heap.size 0 rfl A.toList _ gL.o MQ rfl ?_ ?_;(rw[LY,lH.o];exact bP);rw[hN.o])
  | (refine wpList_buildTo rfl 141 _ rfl _ rfl C ?_ ?_;(simp only[PA,NS,PZ];exact hP.o))
  | (refine QS rfl 141 (.tmp 9) (.tmp 17) rfl (w.heap.size+1) 0 C rfl rfl ?_ ?_ hY.o ?_;(rw[hC.o];exact HT.o);(rw[hC.o];exact fP)))
 have hW:QQ (∀i,(((w.alloc (.cells A 72)).alloc (.cells LZ 141)).setCells (w.heap.size+1) 0 C.toList).frozen? ⟨w.heap.size+1,i,none⟩=false):=λ i=>by
  rw[uX];have e:w.heap.size+1=(w.alloc (.cells A 72)).heap.size:=by simp
  rw[e,ML]
 generalize ((w.alloc (.cells A 72)).alloc (.cells LZ 141)).setCells (w.heap.size+1) 0 C.toList=W0 at*;have U:∀k v,C[k]?=some v->W0.cell? ⟨w.heap.size+1,k,none⟩=some v:=λ k v hk=>by
  have:=iN.o k v (by simpa using hk);rw[LN]at this;exact this
 have hQ:QQ (Zi W0 (w.heap.size+1) s aI bb vg aU yb zb (.slice none 0 0) (λ _=>0) c0 0):=by
  obtain⟨h0,h1,h2,h3,h4,h5,h6⟩:=hS.o;refine⟨(HM.o.below eT.o lR).mono (NK _),λ j u hu=>?_,U _ _ h1,U _ _ h2,U _ _ h3,U _ _ h4,U _ _ h5,U _ _ h6,hW.o,LU _ _ _ _,λ j k hj=>by omega,nL.o,λ j hj=>by omega,λ i j hi=>by omega⟩;have hj:j<258:=by
   have:=(LJ.1 hu).1;rw[nY _ _ _ (by unfold gP;rw[lQ];rfl)]at this;exact this
  rw[LN];refine U j u ((h0 j hj).trans ?_);rw[<-HA.o]at hu;simpa using hu
 have hM:=(kZ HI.o).2.2;obtain⟨M,EM⟩:=xE (iM s)
 have eO:=hR.o;rw[EM]at eO hM M2;have H5:1<=M/\M<=4:=⟨hM.1,hM.2.1⟩
 replace EM:=fV EM;clear hM U iN H3 hW hS hP hY hC lH hN HA HT eX gL hR nL;go_wp2_with fail;clear eO
 go_loopw [21] (λ x wr=>∃(m:Nat)(vh:tV)(hbk:Nat->Nat),x=.int .i64 (m:Int)/\m<=M/\Zi wr (w.heap.size+1) s aI bb vg aU yb zb vh hbk c0 m/\Bl w wr) (λ x _=>M-(QP x).toNat)
 case atStart=>exact⟨0,_,_,rfl,zL,hQ.o,eT.o⟩
 case round=>
  obtain⟨m,vh,hbk,rfl,S2,V,hb⟩:=hrel;have D:=fV V;have aW:=fV hb;clear V hb hQ eT;by_cases bM:m<M
  ·have hI:m<iM s:=by rw[EM.o];exact bM
   have m1:=D.o.mem.co m hI;have A3:=K5 HI.o hI;obtain⟨N,EN⟩:=xE (qZ s m)
   rw[EN]at m1 A3;obtain⟨Q,bN⟩:=xE (N*aI.size)
   have L1:Q<=30000:=by rw[<-bN];have:=NI A3.1 A2;omega
   have H6:(N:Int)*(aI.size:Int)=(Q:Int):=by rw[<-bN];simp
   have T3:IntKind.i64.wrap ((N:Int)*(aI.size:Int))=(Q:Int):=by rw[H6];exact IntWalk.i64_in _ (by omega)
   have O8:IntKind.i64.wrap (Q:Int)=(Q:Int):=IntWalk.i64_in _ (by omega);have hX:QQ (qZ s m*aI.size=Q):=by unfold QQ;rw[EN,bN]
   replace EN:=fV EN;replace bN:=fV bN;obtain⟨va,aR,hv⟩:=gA D.o.rh;subst hv;have k6:=D.o.k6;have f6:=D.o.fz 263;have hF:=D.o.hb;have S5:IQ (.int .i64 (Q:Int)):=⟨Q,rfl,L1⟩
   have N1:Wl (.int .i64 (Q:Int))=Q:=by simp[Wl]
   have P0:=iI m M (by omega)
   clear hI;have hd:=dT m M (by omega)
   go_wp2_with fail;have x1:(wr.alloc (.cells (QV #[.bool false] Q) 4)).cell? ⟨w.heap.size+1,263,none⟩=some (.slice va m aR):=(LD (w:=wr) (a:=⟨w.heap.size+1,263,none⟩) (MB _ _ _ hF)).trans k6;have x2:((wr.alloc (.cells (QV #[.bool false] Q) 4)).alloc (.cells #[.slice (some ⟨wr.heap.size,0,none⟩) Q Q] 80)).cell? ⟨w.heap.size+1,263,none⟩=some (.slice va m aR):=(LD (w:=wr) (a:=⟨w.heap.size+1,263,none⟩) ((MB _ _ _ (by simp;omega)).trans (MB _ _ _ hF))).trans k6;have B1:∀q,(MZ va m aR).ownBlock=some q->w.heap.size+2<=q/\q<wr.heap.size:=λ q hq=>D.o.rh.lt q hq
   go_region_law ((refine sF (wr.drew.alloc (.cells (QV #[.bool false] Q) 4)) rfl (.tmp 26) (.tmp 33) 129 rfl (w.heap.size+1+1) 80 (.slice none 0 0) 1 24 underlying129 eI rfl (by decide) (by decide) _ m (Pk s aI hbk m) [.slice (some ⟨wr.heap.size,0,none⟩) Q Q] _ (by simp[Act.eval]) (D.o.rh.drew.alloc _) (wr.heap.size+1) (by simp) (by simp[Act.eval]) rfl (by simp[MG]) (by omega) (by simp;omega) ?_;intro g4 cap4 w4 hJ I tO O3;have e4:w4.heap[w.heap.size+1]?=wr.heap[w.heap.size+1]? :=((I.block (w.heap.size+1) (by simp;omega) (λ e=>by have:=B1 _ e.symm;omega)).trans (MB _ _ _ (by simp;omega))).trans (MB _ _ _ hF);have m3:=(LD (w:=wr) (a:=⟨w.heap.size+1,263,none⟩) e4).trans k6;have n3:=(LQ (w:=wr) (a:=⟨w.heap.size+1,263,none⟩) e4).trans f6;have H2:=fV (D.o.drew.more hX.o hJ I (tO.imp id (λ h=>h.trans (by simp))));have B2:QQ (Bl w w4):=(((Ew aW.o).alloc (by have:=aW.o.size;show w.heap.size<=wr.heap.size;omega) _).alloc (by have:=aW.o.size;simp;omega) _).grown I (by have:=aW.o.size;simp;omega) (λ q hq=>by have:=B1 q hq;omega)))
   all_goals
    go_wp2;go_roundw
    case rel=>exact⟨m+1,_,_,by go_num,bM,H2.o,B2.o.setCell (p:=⟨w.heap.size+1,263,none⟩) (NK _) _⟩
    case measure=>simp[QP];omega
  ·have e:m=M:=by omega
   subst e;have hd:=dF m m (by omega)
   obtain⟨hg,bH,V⟩:=Zi.done (by rw[EM.o];exact D.o) (by rw[EM.o];exact H5.1);have hU:=fV V;clear V D;go_wp2_with fail
   go_loopg [12] (aI.size+1) (λ gk _ wr=>∃(p c n:Nat)(H T:List (Int×Int×Int)) (HT:Nat->Nat->Bool) (vt:tV),p<=aI.size/\aI.size-p<gk/\c<m/\n<=p*300/\T.length<=p/\pX s aI c0=yP s aI gk p c H n T/\
    CW wr (w.heap.size+1) wr.heap.size s aI bb vg aU yb zb vt hg bH hbk HT c p n T/\J7 s aI H HT/\yW s aI H/\Bl w wr)
   case atStart=>exact⟨0,c0,0,[],[],λ _ _=>false,.slice none 0 0,zL,by omega,by omega,by omega,by simp,rfl,hU.o,s8 _ _,λ _ _ _ h=>absurd h (OK),aW.o⟩
   case round=>
    obtain⟨p,c,n,H,T,HT,vt,hp,O9,hc,hn,hT,eS,V,A1,cF,hb⟩:=hrel;have hB:=fV eS;have J:=fV V;have E6:=fV A1;have hV:=fV cF;have F:=fV hb;clear eS V A1 cF hb hU aW;have k3:=J.o.k3;by_cases bM:p<aI.size
    ·have A0:c<iM s:=by rw[EM.o];exact hc
     have bK:=Vi s aI (w.heap.size+1) bb vg aU yb zb vt hg bH hbk HT c p n H T wr HI.o A2 hp A0 (by omega) E6.o J.o;have Z:=Qg (c:=c) hV.o hp;have hH:=Wp (c:=c) hV.o hp;have N1:= @P7 s aI c p H;have hG:=yK HI.o A0 hp (aI:=aI);obtain⟨f,rfl⟩:∃f,gk=f+1:=⟨gk-1,by omega⟩
     have cP:= @wB s aI f p c n H T bM;have eL:=λ r q=> @wC s aI f p c n r q H T bM
     unfold Su at bK;generalize iE s aI c H p=SF at*;obtain⟨SL,kk⟩:=SF;generalize nZ s aI c H (aI.size-p) 0 p none=best at*;simp only at*;have N0:decide ((p:Int)<(aI.size:Int))=true:=by simp;omega
     have H1:=fV hH
     cases best with
     | none=>
      simp only at Z;have HE:QQ (pX s aI c0=(T++[(-1,(p:Int),(p:Int))],n+kk,c)):=hB.o.trans (cP Z);clear Z hH hG cP eL;go_wp2_with fail;refine bK.mono ?_;rintro e w1 ⟨rfl,bS,eM,X,aT⟩;have bC:=fV X;have bO:=fV (F.o.trans (bS.mono (NK _)));clear X aT bS bK k3 J F;have k3:=bC.o.k3;go_wp2_with fail;refine(T7 s aI (w.heap.size+1) bb vg aU yb zb vt hg bH hbk eM c p (n+kk) T (-1) (p:Int) _ (by omega) bC.o).mono ?_;rintro e w2 ⟨rfl,bT,hL,Y⟩;have aO:=fV Y;have aL:=fV (bO.o.trans (bT.mono (NK _)));clear Y bT bC bO k3;have k2:=aO.o.k2;have k4:=aO.o.k4;have k5:=aO.o.k5;go_wp2;go_quiet (fail);go_wp2;go_ret3;refine⟨hL,by rw[HE.o];rfl,by rw[HE.o];exact aO.o.rt,⟨aL.o.os,aL.o.tape,aL.o.output,aL.o.size,aL.o.block⟩⟩
     | some x=>
      obtain⟨r,q⟩:=x;simp only at Z;have hx:r<iR s/\p<q/\q<=aI.size:=by
       rcases hG with h1|⟨r',q',h1,h2,h3,h4⟩
       ·rw[Z]at h1;injection h1 with h1 _;omega
       ·rw[Z]at h1;injection h1 with h5 h6;have h7:r=r':=by omega
        rw[h7,h6];exact⟨h2,h3,h4⟩
      have HE:=fV (hB.o.trans (eL r q Z));have O0:=vX HI.o hx.1;rw[EM.o]at O0;clear Z hH hG cP eL;obtain⟨tk,eN⟩:∃tk:Nat,tk=Nu (some (r,q)):=⟨_,rfl⟩
      obtain⟨tq,hK⟩:∃tq:Nat,tq=KT p (some (r,q)):=⟨_,rfl⟩
      rw[<-eN,<-hK]at bK;have O6:(tk:Int)-1=(r:Int):=by rw[eN];simp[Nu]
      have O5:((tk:Int)==0)=false:=by rw[aC,eN];simp only[Nu];omega
      have H4:QQ (tq=q):=hK;have T2:r<=8:=by have:=(kZ HI.o).1;omega
      clear eN hK;have O7:tk<=9:=by omega
      go_wp2_with fail;refine bK.mono ?_;rintro e w1 ⟨rfl,bS,eM,X,aT⟩;have bC:=fV X;have H0:=fV aT;have bO:=fV (F.o.trans (bS.mono (NK _)));clear X aT bS bK k3 J F;go_wp2_with fail;refine(Vm s aI (w.heap.size+1) bb vg aU yb zb vt hg bH hbk eM c p (n+kk) T r tq _ HI.o hx.1 (by omega) bC.o).mono ?_;rintro e w2 ⟨rfl,bT,hL,Y⟩;have aO:=fV Y;have aL:=fV (bO.o.trans (bT.mono (NK _)));clear Y bT bC bO;rw[H4.o]at aO;go_wp2;go_roundg f
      case measure=>omega
      case rel=>
       refine⟨q,_,_,_,_,eM,hL,hx.2.2,by omega,?_,?_,?_,HE.o,aO.o,H0.o,H1.o,aL.o⟩
       ·split<;>omega
       ·omega
       ·split
        ·omega
        ·simp;omega
    ·have HE:QQ (pX s aI c0=(T,n,c)):=by
      obtain⟨f,rfl⟩:∃f,gk=f+1:=⟨gk-1,by omega⟩
      exact hB.o.trans (yQ bM)
     have N0:decide ((p:Int)<(aI.size:Int))=false:=by simp;omega
     have k2:=J.o.k2;have k4:=J.o.k4;have k5:=J.o.k5;go_wp2;go_quiet (fail);go_wp2;go_ret3;refine⟨vt,by rw[HE.o];rfl,by rw[HE.o];exact J.o.rt,⟨F.o.os,F.o.tape,F.o.output,F.o.size,F.o.block⟩⟩
end
structure CT(w:tW)(cb lo:Nat)(s:tB)(c bb vg aU:Nat)(yb:Nat->Nat)(zb:Nat->Nat->Nat):Prop where
 ok:iF s=true
 sz:s.size<=120000
 hc:c<iM s
 mem:IM w s bb vg yb zb cb
 il:KX s bb vg yb zb lo
 im:w.rangeAt cb 0 (nS (.slice (some ⟨bb,0,none⟩) (iR s) (iR s)) (gP s) (.slice (some ⟨vg,0,none⟩) (iM s) aU))
 k1:w.cell? ⟨cb,258,none⟩=some (.int .i64 c)
 fz:∀i,w.frozen? ⟨cb,i,none⟩=false
 b0:cb<w.heap.size
 b1:lo<=cb
theorem CT.blocks{w w':tW}{s:tB}{yb:Nat->Nat}{zb:Nat->Nat->Nat}(h:CT w cb lo s c bb vg aU yb zb)(o:∀k,lo<=k->k<=cb->w'.heap[k]?=w.heap[k]?)(I:w.heap.size<=w'.heap.size):CT w' cb lo s c bb vg aU yb zb:=
 ⟨h.ok,h.sz,h.hc,h.mem.blocks h.il (λ k C D=>o k C (MV D)),h.il,λ j v F=>(LD (w:=w) (a:=⟨cb,0+j,none⟩) (o cb h.b1 lR)).trans (h.im j v F),
  (LD (w:=w) (a:=⟨cb,258,none⟩) (o cb h.b1 lR)).trans h.k1,λ i=>(LQ (w:=w) (a:=⟨cb,i,none⟩) (o cb h.b1 lR)).trans (h.fz i),LK h.b0 I,h.b1⟩
theorem fO:((Tryz.prog.info? 154).map (·.zero))=some (some (.agg NY)):=by kernel_rfl
theorem dM:Tryz.zeroCells154.size=259:=by kernel_rfl
theorem dN:NY[258]?=some (.int .i64 0):=by kernel_rfl
theorem dU:Tryz.zeroCells154.all (·.oneCell')=true:=by kernel_rfl
theorem eF:(match Tryz.prog.underlying 154 with
  | some (.struct fs)=>fs.toList.mapM (λ f=>(Tryz.prog.info? f.type).map λ i=>(f.offset,i.size))
  | _=>none)=some [(0,258),(258,1)]:=by kernel_rfl
theorem fB(bA:List (Nat×tV)):Tryz.prog.built 154 bA=Instr.fill ([(0,258),(258,1)].toArray[·]?) NY bA:=by
 have C:=fO;have o:=eF;generalize NY=Z at*;unfold Program.built
 cases hi:Tryz.prog.info? 154 with
 | none=>rw[hi]at C;cases C
 | some it=>
  rw[hi]at C;have D:it.zero=some (.agg Z):=by simpa using C
  cases hu:Tryz.prog.underlying 154 with
  | none=>rw[hu]at o;cases o
  | some d=>
   rw[hu]at o
   cases d with
   | struct fs=>
    simp only at o;simp only[D,o,PV]
   | _=>cases o
theorem Vn(A:Array tV)(Q:A.size=258)(o:A.all (·.oneCell')=true):∃C:Array tV,Tryz.prog.built 154 [(0,.agg A)]=some C/\C.size=259/\C.all (·.oneCell')=true/\
  (∀k,k<258->C[k]?=A[k]?)/\C[258]?=some (.int .i64 0):=by
 have I:=dM;have V:=dN;have U:=dU;rw[fB];generalize NY=Z at*;obtain⟨X,F⟩:=P1 0 A Z;refine⟨A.zipIdx.foldl (λ cs x=>cs.setIfInBounds (0+x.2) x.1) Z,?_,by rw[X,I],?_,λ k Y=>?_,?_⟩
 ·have J:(QN A).cells=A:=rfl;unfold Instr.fill;simp only[PQ,NO,J,Q,I];rw[aA (by decide)];unfold Instr.fill
  rfl
 ·rw[OY];intro i hi;have D:=OX hi;rw[F]at D;generalize (A.zipIdx.foldl (λ cs x=>cs.setIfInBounds (0+x.2) x.1) Z)[i]=u at*;split at D
  ·exact E2 o D
  ·exact E2 U D
 ·rw[F,aB (by omega)];rfl
 ·rw[F,aA (by omega)];exact V
def DH(w:tW)(s:tB)(e:Ending)(w':tW):Prop:=
 Bl w w'/\((¬(s.size<=120000/\iF s=true)/\e=.returned (.tuple #[.pointer none,.int .i64 (G5 s)]))\/(s.size<=120000/\iF s=true/\
  ∃(cb bb vg aU:Nat)(yb:Nat->Nat)(zb:Nat->Nat->Nat),e=.returned (.tuple #[.pointer (some ⟨cb,0,none⟩),.int .i64 0])/\CT w' cb w.heap.size s 0 bb vg aU yb zb))
theorem Gz(s:tB)(w:tW):
  RC LM 90 #[.string s] w λ e w'=>DH w s e w':=by
 go_enter func90,ntmps90;go_wp2_with fail;refine(F0 s _).mono ?_;by_cases D:s.size<=120000/\iF s=true
 ·rintro e w1 ⟨V,⟨gL,_⟩|⟨_,hi,bb,vc,ys,rfl,hn,ho,hm,hc,hk⟩⟩
  ·exact absurd D gL
  obtain⟨vg,aJ,yb,zb,rfl,eL,cP⟩:=Ms hi hn ho hm hc hk;have X:=nY (.slice (some ⟨bb,0,none⟩) (jU s) (jU s)) (gP s) (.slice (some ⟨vg,0,none⟩) (iM s) aJ) (by unfold gP;rw[lQ];rfl);have Y:=yJ (vb:= .slice (some ⟨bb,0,none⟩) (jU s) (jU s)) (vc:= .slice (some ⟨vg,0,none⟩) (iM s) aJ) (cs:=gP s) rfl rfl;obtain⟨IL,aR⟩:=xE (nS (.slice (some ⟨bb,0,none⟩) (jU s) (jU s)) (gP s) (.slice (some ⟨vg,0,none⟩) (iM s) aJ))
  rw[aR]at X Y ⊢;have aT:QQ (IL.toArray.toList=IL):=by unfold QQ;simp
  have J:QQ (IL.toArray.size=258):=by unfold QQ;simpa using X
  have Q:QQ (IL.toArray.all (·.oneCell')=true):=QT Y;obtain⟨A,EA⟩:=xE (IL.toArray)
  rw[EA]at aT J Q ⊢;have HA:QQ (A.toList=nS (.slice (some ⟨bb,0,none⟩) (iR s) (iR s)) (gP s) (.slice (some ⟨vg,0,none⟩) (iM s) aJ)):=by
   unfold QQ;rw[aT.o,<-aR,(B4 hi).ru]
  have bK:=fV eL;have eR:=fV cP;have HI:=fV hi;have F:=fV V;have aL:=fV D;obtain⟨C,cN,bT,bS,bN,bO⟩:=Vn A J.o Q.o;have eM:=fV cN;have hB:=fV bT;have hA:=fV bS;clear aR X Y EA aT eL hi V hn ho hm hc D cP hk cN bT bS;have Z:=fV (iD w1 LG 72 w1.heap.size 258 bL rfl);have I:QQ (Bl w1 ((w1.alloc (.cells LG 72)).setCells w1.heap.size 0 A.toList)):=fX _ 0 _ w1.heap.size (bR.alloc lR _) lR;have eT:QQ (((w1.alloc (.cells LG 72)).setCells w1.heap.size 0 A.toList).rangeAt w1.heap.size 0 A.toList):=MA _ _ _ _ (by rw[LY,J.o];exact Z.o);have bM:QQ (IM ((w1.alloc (.cells LG 72)).setCells w1.heap.size 0 A.toList) s bb vg yb zb ((w1.alloc (.cells LG 72)).setCells w1.heap.size 0 A.toList).heap.size):=(bK.o.below I.o lR).mono I.o.size;have bC:QQ (Bl w ((w1.alloc (.cells LG 72)).setCells w1.heap.size 0 A.toList)):=F.o.trans (I.o.mono F.o.size);generalize aW:(w1.alloc (.cells LG 72)).setCells w1.heap.size 0 A.toList=w2 at*;replace aW:=fV aW;clear bK F I;have eN:=fV bN;have eO:=fV bO;clear bN bO;go_wp2_with (first
   | (refine QS rfl 72 (.tmp 4) (.tmp 9) rfl w1.heap.size 0 A rfl rfl ?_ ?_ Q.o ?_;(rw[J.o];exact Z.o);(rw[J.o];exact bP);rw[aW.o])
   | (refine QR rfl 72 (.tmp 4) rfl w1.heap.size 0 rfl A.toList _ eT.o MQ rfl ?_ ?_;(rw[LY,J.o];exact bP);rw[Array.toArray_toList])
   | (refine wpList_buildTo rfl 154 _ rfl _ rfl C ?_ ?_;(simp only[PA,NS,PZ];exact eM.o))
   | (refine wpList_boxTo rfl 154 (.tmp 15) rfl _ rfl w2.heap.size rfl C rfl ?_)
   | fail)
  go_ret2;have hr:=mE w2 C 154;have cF:Bl w2 (w2.alloc (.cells C 154)):=bR.alloc lR _;have hz:=bC.o.size;have U:∀k v,C[k]?=some v->(w2.alloc (.cells C 154)).cell? ⟨w2.heap.size,k,none⟩=some v:=λ k v hv=>by
   have:=hr k v (by simpa using hv);rw[LN]at this;exact this
  refine⟨bC.o.trans (cF.mono hz),.inr ⟨aL.o.1,aL.o.2,w2.heap.size,bb,vg,aJ,yb,zb,rfl,aL.o.2,aL.o.1,(kZ HI.o).2.2.1,bM.o.below cF lR,eR.o,?_,U _ _ eO.o,λ i=>by rw[ML],by simp,hz⟩⟩;intro j u hu;have hj:j<258:=by
   have:=(LJ.1 hu).1;rw[nY _ _ _ (by unfold gP;rw[lQ];rfl)]at this;exact this
  rw[LN];refine U j u ((eN.o j hj).trans ?_);rw[<-HA.o]at hu;simpa using hu
 ·have eX:((G5 s:Int) !=0)=true:=by
   rw[aD];unfold G5;by_cases h1:120000<s.size
   ·rw[aB h1];decide
   ·have h2:¬iF s=true:=λ h=>D ⟨by omega,h⟩
    rw[aA h1,aA h2];decide
  have eS:=fV D;rintro e w1 ⟨V,⟨_,rfl⟩|⟨h1,h2,_⟩⟩
  ·have F:=fV V;have Z:=fV (iD w1 LG 72 w1.heap.size 258 bL rfl);have I:QQ (Bl w1 ((w1.alloc (.cells LG 72)).setCells w1.heap.size 0 Tryz.zeroCells72.toList)):=fX _ 0 _ w1.heap.size (bR.alloc lR _) lR;clear V D;obtain⟨ck,aO⟩:=xE (G5 s)
   rw[aO]at eX ⊢;replace aO:=fV aO;go_wp2_with (first
    | (refine QS rfl 72 (.tmp 4) (.tmp 9) rfl w1.heap.size 0 LG rfl rfl ?_ ?_ bZ ?_;(rw[bL];exact Z.o);(rw[bL];exact bP))
    | fail)
   go_ret2;exact⟨F.o.trans (I.o.mono F.o.size),.inl ⟨eS.o,by rw[aO.o];rfl⟩⟩
  ·exact absurd ⟨h1,h2⟩ D
theorem cI:(Tryz.prog.info? 234).map (λ i=>(i.zero,i.size,i.bytes))=some (some (.agg #[.int .i64 0,.int .i64 0,.int .i64 0]),3,24):=by kernel_rfl
theorem z4(s aI:tB)(B b g aJ c p cb aH n:Nat)(H T:List (Int×Int×Int))(vh vt:tV)(w:tW)(hi:iF s=true)(hs:s.size<=120000)(tT:aI.size<=300)(hp:p<=aI.size)(hc:c<iM s)
  (hH:H.length<=100000) (hn:n<=100000)
  (hw:rZ w B b g aJ s) (hB:B<=cb) (hcut:jG w cb aH w.heap.size b aI c H n T vh vt):
  RC LM 119 #[.pointer (some ⟨cb,0,none⟩),.int .i64 p] w λ e w'=>
   e=.returned (.tuple #[])/\Below cb w w'/\∃rL,jG w' cb aH w'.heap.size b aI c (H++(iE s aI c H p).1) (n+(iE s aI c H p).2) T rL vt:=by
 have HL:QQ (iE s aI c H p=pF s aI c H (aI.size-p) 0 p [] 0):=rfl;have hU:=hcut.hb;have sW:=hcut.hbt;go_enter func119,ntmps119;go_wp2_with fail
 go_loopw [4,5,6] (λ x y z wr=>∃(st i k:Nat)(S:List (Int×Int×Int)) (sv:tV),sv=y/\x=.int .i64 st/\z=.int .i64 i/\st<qZ s c/\p<=i/\i<=aI.size/\k<=i-p/\S.length<=i-p/\
   iE s aI c H p=pF s aI c H (aI.size-i) st i S k/\(S=[]->sv=.slice none 0 0)/\wr.ownsRow w.heap.size 234 3 sv S.length (hZ S)/\
   jG wr cb aH w.heap.size b aI c H (n+k) T vh vt/\Below cb w wr)
  (λ _ _ z _=>aI.size-(QP z).toNat)
 case atStart=>exact⟨0,p,0,[],_,rfl,rfl,rfl,(K5 hi hc).2,lR,hp,by omega,by simp,HL.o,λ _=>rfl,LU _ _ _ _,hcut,bR⟩
 case round=>
  obtain⟨st,i,k,S,sv,rfl,rfl,rfl,hM,A0,tO,hk,hS,eL,eX,bO,I,bM⟩:=hrel;have HK:QQ (iE s aI c H p=pF s aI c H (aI.size-i) st i S k):=eL;have HN:QQ (S=[]->sv=.slice none 0 0):=eX;clear eL eX;have k1:=I.c1;have k2:=I.c2;have k3:=I.c3;have qL:=I.hz;by_cases hK:i<aI.size
  ·have bS:QQ (jG (wr.alloc (.cells #[.int .i64 (c:Int),.int .i64 (st:Int),.int .i64 (i:Int)] 234)) cb aH w.heap.size b aI c H (n+k) T vh vt):=I.below (bR.alloc qL _);have eR:QQ ((wr.alloc (.cells #[.int .i64 (c:Int),.int .i64 (st:Int),.int .i64 (i:Int)] 234)).ownsRow w.heap.size 234 3 sv S.length (hZ S)):=bO.alloc _;have eN:QQ (Below cb w (wr.alloc (.cells #[.int .i64 (c:Int),.int .i64 (st:Int),.int .i64 (i:Int)] 234))):=bM.alloc (by omega) _;have g0:(wr.alloc (.cells #[.int .i64 (c:Int),.int .i64 (st:Int),.int .i64 (i:Int)] 234)).cell? ⟨wr.heap.size,0,none⟩=some (.int .i64 (c:Int)):=by rw[LP];rfl
   have g1:(wr.alloc (.cells #[.int .i64 (c:Int),.int .i64 (st:Int),.int .i64 (i:Int)] 234)).cell? ⟨wr.heap.size,1,none⟩=some (.int .i64 (st:Int)):=by rw[LP];rfl
   have g2:(wr.alloc (.cells #[.int .i64 (c:Int),.int .i64 (st:Int),.int .i64 (i:Int)] 234)).cell? ⟨wr.heap.size,2,none⟩=some (.int .i64 (i:Int)):=by rw[LP];rfl
   have gz:(wr.alloc (.cells #[.int .i64 (c:Int),.int .i64 (st:Int),.int .i64 (i:Int)] 234)).heap.size=wr.heap.size+1:=by simp
   go_wp2_with fail;generalize wr.alloc (.cells #[.int .i64 (c:Int),.int .i64 (st:Int),.int .i64 (i:Int)] 234)=W at*;clear k1 k2 k3 I bO bM;have k3:=bS.o.c3;have HR:QQ (Zt W W.heap.size vh H):=mX bS.o.rh;have eT:cb<W.heap.size:=by omega
   have cF:wr.heap.size<W.heap.size:=by omega
   cases hkn:sV H ((c:Int),(st:Int),(i:Int))with
   | true=>
    go_region_held3 (λ w'=>w'.cell? ⟨cb,3,none⟩=some vh/\w'.cell? ⟨wr.heap.size,0,none⟩=some (.int .i64 (c:Int))/\w'.cell? ⟨wr.heap.size,1,none⟩=some (.int .i64 (st:Int))/\w'.cell? ⟨wr.heap.size,2,none⟩=some (.int .i64 (i:Int))) (go_keep)
     (first|(go_at_call 124;refine(Ti H vh _ _ _ _ (by omega) ?_).mono ?_;exact⟨HR.o.sh⟩;rintro e w2 ⟨rfl,F⟩;replace F:=G8 F;have j3:=(F.cell (p:=⟨cb,3,none⟩) eT).trans k3;have j0:=(F.cell (p:=⟨wr.heap.size,0,none⟩) cF).trans g0;have j1:=(F.cell (p:=⟨wr.heap.size,1,none⟩) cF).trans g1;have j2:=(F.cell (p:=⟨wr.heap.size,2,none⟩) cF).trans g2))
    have HX:QQ (iE s aI c H p=(S,k)):=by
     have e:aI.size-i=(aI.size-i-1)+1:=by omega
     unfold QQ;rw[HK.o,e];exact C0 hkn
    have C:QQ (jG w2 cb aH w.heap.size b aI c H (n+k) T vh vt):=bS.o.below (F.mono (by show w.heap.size<=W.heap.size;omega));have cP:QQ (w2.ownsRow w.heap.size 234 3 sv S.length (hZ S)):=rF eR.o F lR;have aT:QQ (Below cb w w2):=eN.o.trans (F.mono (by show cb<=W.heap.size;omega));have hC:QQ (S=[]->sv=.slice none 0 0):=HN;clear bS eR eN g0 g1 g2 k3 j0 j1 j2 j3 HR F HK;have nL:=hU;rcases(show S=[]\/0<S.length from by cases S with
     | nil=>exact .inl rfl
     | cons a r=>exact .inr (by simp))with U|U
    ·have hP:=hC.o U;subst hP;rcases iL C.o.rh with rfl|⟨gv,cv,rfl⟩
     all_goals
      have t3:=C.o.c3;have qR:=C.o.fz 3;go_wp2_with (first|(at_builtin;refine An w2 rfl (.tmp 80) (.tmp 81) 222 rfl aH 234 (.agg #[.int .i64 0,.int .i64 0,.int .i64 0]) 3 24 NJ cI _ H.length (hZ H) rfl C.o.rh rfl ?_))
      go_end0
      have J:=C.o.again3.raise;refine⟨rfl,aT.o.setCell (p:=⟨cb,3,none⟩) lR _,?_⟩;rw[HX.o,U,OQ];exact⟨_,J⟩
    ·have t3:=C.o.c3;have hX:=C.o.hz;go_wp2_with (first|(at_builtin;refine yB w2 rfl (.tmp 80) (.tmp 81) 222 rfl aH w.heap.size 234 (.agg #[.int .i64 0,.int .i64 0,.int .i64 0]) 3 24 NJ cI rfl (by decide) (by decide) vh H.length (hZ H) sv S.length (hZ S) rfl C.o.rh rfl cP.o (yY _) U (by omega) (by omega) ?_;intro g3 eS w3 Q D Y Z;obtain⟨aL,aO⟩:=C.o.kept (λ k hk=>(C.o.rh.lt k hk).1) D;have m3:=aL 3 _ t3;have hY:=aO 3;clear aL aO))
     go_end0
     refine⟨rfl,(aT.o.grown D (by omega) (λ k hk=>by have:=(C.o.rh.lt k hk).1;omega)).setCell (p:=⟨cb,3,none⟩) lR _,?_⟩;rw[HX.o];have J:=C.o.hope rfl Q D Y Z;exact⟨_,J.raise⟩
   | false=>
    go_region_held3 (λ w'=>w'.cell? ⟨cb,3,none⟩=some vh/\w'.cell? ⟨wr.heap.size,0,none⟩=some (.int .i64 (c:Int))/\w'.cell? ⟨wr.heap.size,1,none⟩=some (.int .i64 (st:Int))/\w'.cell? ⟨wr.heap.size,2,none⟩=some (.int .i64 (i:Int))) (go_keep)
     (first|(go_at_call 124;refine(Ti H vh _ _ _ _ (by omega) ?_).mono ?_;exact⟨HR.o.sh⟩;rintro e w2 ⟨rfl,F⟩;replace F:=G8 F;have j3:=(F.cell (p:=⟨cb,3,none⟩) eT).trans k3;have j0:=(F.cell (p:=⟨wr.heap.size,0,none⟩) cF).trans g0;have j1:=(F.cell (p:=⟨wr.heap.size,1,none⟩) cF).trans g1;have j2:=(F.cell (p:=⟨wr.heap.size,2,none⟩) cF).trans g2))
    have cN:QQ (jG w2 cb aH w.heap.size b aI c H (n+k) T vh vt):=bS.o.below (F.mono (by show w.heap.size<=W.heap.size;omega));have hE:QQ (w2.ownsRow w.heap.size 234 3 sv S.length (hZ S)):=rF eR.o F lR;have hQ:QQ (Below cb w w2):=eN.o.trans (F.mono (by show cb<=W.heap.size;omega));have hW:=cN.o.hz;clear bS eR eN g0 g1 g2 k3 j3 HR F;obtain⟨N,hN⟩:=xE (n+k)
    rw[hN]at cN;have hD:QQ (n+k=N):=hN;have rO:N<=101000:=by omega
    clear hN;have q4:=cN.o.c4;go_wp2_with (first|(at_builtin;refine gB w2 rfl (.tmp 34) (.tmp 36) 222 rfl w.heap.size 234 (.agg #[.int .i64 0,.int .i64 0,.int .i64 0]) 3 24 NJ cI rfl (by decide) (by decide) sv S.length (hZ S) [.int .i64 (c:Int),.int .i64 (st:Int),.int .i64 (i:Int)] _ rfl hE.o _ rfl rfl rfl (by simp[MG]) (by omega) (by omega) ?_;intro g4 cap4 w4 eM bN hT hV;have hI:=lN (NB w.heap.size w2) hW hE.o lR bN;have eO:QQ (jG w4 cb aH w.heap.size b aI c H N T vh vt):=cN.o.below hI;have r4:=eO.o.c4;have f4:=eO.o.fz 4;clear j0 j1 j2 q4));have V:QQ (jG (w4.setCell ⟨cb,4,none⟩ (.int .i64 ((N:Int)+1))) cb aH w.heap.size b aI c H (N+1) T vh vt):=eO.o.step1;have bT:QQ ((w4.setCell ⟨cb,4,none⟩ (.int .i64 ((N:Int)+1))).ownsRow w.heap.size 234 3 (.slice (some ⟨g4,0,none⟩) (S.length+1) cap4) (S.length+1) (hZ (S++[uR c st i]))):=by
     rw[Z1];exact QO eM (by show cb<w.heap.size;omega) _
    have aR:QQ (Below cb w (w4.setCell ⟨cb,4,none⟩ (.int .i64 ((N:Int)+1)))):=(hQ.o.trans (hI.mono (by omega))).setCell (p:=⟨cb,4,none⟩) lR _;generalize w4.setCell ⟨cb,4,none⟩ (.int .i64 ((N:Int)+1))=w5 at*;clear eO cN hE hQ eM bN hT hV hI r4 f4 hW;have bK:=hw.below aR.o hB;have q0:=V.o.c0;have q1:=V.o.c1;have q2:=V.o.c2;have sR:=kL aI i hK;have hJ:=mT aI i;have tL:(0:Int)<=(i:Int)/\(i:Int)<(aI.size:Int):=by omega
    have hF:QQ (aI.size-i=(aI.size-i-1)+1):=by unfold QQ;omega
    by_cases X:iA s c st (bt aI i)=255
    ·have hL:H8 s c st (bt aI i)= -1:=by unfold H8;rw[aB X]
     have HX:QQ (iE s aI c H p=(S++[uR c st i],k+1)):=by
      unfold QQ;rw[HK.o,hF.o];exact xY hkn X
     have bC:QQ (∀q,RC LM 125 #[.pointer (some ⟨b,0,none⟩),.int .i64 c,.int .i64 st,.int .u8 (bt aI i)] (w5.drewN q) λ e w'=>e=.returned (.int .i64 (H8 s c st (bt aI i)))/\∃m,w'=(w5.drewN q).drewN m):=λ q=>Cn s B b g aJ c st (bt aI i) (w5.drewN q) hi hs hc hM hJ (bK.drewN q)
     go_quiet ((go_at_call 125;exact RC.quiet_of (bC.o _)));have C:QQ (jG (w5.drewN nq) cb aH w.heap.size b aI c H (n+(k+1)) T vh vt):=by
      have e:n+(k+1)=N+1:=by have:=hD.o;omega
      rw[e];exact V.o.drewN nq
     have cP:QQ ((w5.drewN nq).ownsRow w.heap.size 234 3 (.slice (some ⟨g4,0,none⟩) (S.length+1) cap4) (S++[uR c st i]).length (hZ (S++[uR c st i]))):=by
      rw[LS];exact bT.o
     have aT:QQ (Below cb w (w5.drewN nq)):=_root_.Go.below_drewN aR.o nq;have U:0<(S++[uR c st i]).length:=by simp
     have rT:(S++[uR c st i]).length<=301:=by simp;omega
     generalize S++[uR c st i]=S5 at*;generalize w5.drewN nq=w6 at*;clear V bT aR bK q0 q1 q2 bC HK;have t3:=C.o.c3;have hX:=C.o.hz;go_wp2_with (first|(at_builtin;refine yB w6 rfl (.tmp 80) (.tmp 81) 222 rfl aH w.heap.size 234 (.agg #[.int .i64 0,.int .i64 0,.int .i64 0]) 3 24 NJ cI rfl (by decide) (by decide) vh H.length (hZ H) _ S5.length (hZ S5) rfl C.o.rh rfl cP.o (yY _) U (by omega) (by omega) ?_;intro g3 eS w3 Q D Y Z;obtain⟨aL,aO⟩:=C.o.kept (λ k hk=>(C.o.rh.lt k hk).1) D;have m3:=aL 3 _ t3;have hY:=aO 3;clear aL aO))
     go_end0
     refine⟨rfl,(aT.o.grown D (by omega) (λ k hk=>by have:=(C.o.rh.lt k hk).1;omega)).setCell (p:=⟨cb,3,none⟩) lR _,?_⟩;rw[HX.o];have J:=C.o.hope rfl Q D Y Z;exact⟨_,J.raise⟩
    ·have hL:H8 s c st (bt aI i)=(iA s c st (bt aI i):Int):=by unfold H8;rw[aA X]
     have bC:QQ (∀q,RC LM 125 #[.pointer (some ⟨b,0,none⟩),.int .i64 c,.int .i64 st,.int .u8 (bt aI i)] (w5.drewN q) λ e w'=>e=.returned (.int .i64 (iA s c st (bt aI i):Int))/\∃m,w'=(w5.drewN q).drewN m):=λ q=>by
      rw[<-hL];exact Cn s B b g aJ c st (bt aI i) (w5.drewN q) hi hs hc hM hJ (bK.drewN q)
     clear hL;have ht:=Iv hi hc hM hJ;have iN:QQ (0<jM s c (iA s c st (bt aI i))->iE s aI c H p=pF s aI c H (aI.size-(i+1)) (iA s c st (bt aI i)) (i+1) [] (k+1)):=by
      intro hm;rw[HK.o,hF.o];exact C1 hkn X hm
     have lH:QQ (jM s c (iA s c st (bt aI i))=0->iE s aI c H p=pF s aI c H (aI.size-(i+1)) (iA s c st (bt aI i)) (i+1) (S++[uR c st i]) (k+1)):=by
      intro hm;rw[HK.o,hF.o];exact K3 hkn X hm
     generalize iA s c st (bt aI i)=t at*;have ht:t<qZ s c:=by omega
     by_cases hm:0<jM s c t
     ·go_quiet ((go_at_call 125;exact RC.quiet_of (bC.o _)));have aW:QQ (jG (w5.drewN nq) cb aH w.heap.size b aI c H (N+1) T vh vt):=V.o.drewN nq;have hR:QQ ((w5.drewN nq).ownsRow w.heap.size 234 3 (.slice (some ⟨g4,0,none⟩) (S.length+1) cap4) (S.length+1) (hZ (S++[uR c st i]))):=bT.o;have gL:QQ (Below cb w (w5.drewN nq)):=_root_.Go.below_drewN aR.o nq;have hG:QQ (rZ (w5.drewN nq) B b g aJ s):=bK.drewN nq;generalize w5.drewN nq=w6 at*;clear V bT aR bK q0 q1 q2 bC HK;have q0:=aW.o.c0;have q2:=aW.o.c2;have hA:QQ (∀q,RC LM 126 #[.pointer (some ⟨b,0,none⟩),.int .i64 c,.int .i64 t] (w6.drewN q) λ e w'=>e=.returned (.int .i64 (jM s c t:Int))/\∃m,w'=(w6.drewN q).drewN m):=λ q=>
       P9 s B b g aJ c t (w6.drewN q) hi hs hc ht (hG.o.drewN q)
      go_wp2_with fail;go_quiet ((go_at_call 126;exact RC.quiet_of (hA.o _)));go_wp2;go_roundw
      case rel=>
       refine⟨t,i+1,k+1,[],.slice none 0 0,rfl,rfl,by go_num,ht,by omega,hK,by omega,by simp,iN.o hm,λ _=>rfl,LU _ _ _ _,?_,?_⟩
       ·have e:n+(k+1)=N+1:=by have:=hD.o;omega
        rw[e];exact aW.o.drewN _
       ·exact _root_.Go.below_drewN gL.o _
      case measure=>simp[QP];omega
     ·have nN:jM s c t=0:=by omega
      go_quiet ((go_at_call 125;exact RC.quiet_of (bC.o _)));have aW:QQ (jG (w5.drewN nq) cb aH w.heap.size b aI c H (N+1) T vh vt):=V.o.drewN nq;have hR:QQ ((w5.drewN nq).ownsRow w.heap.size 234 3 (.slice (some ⟨g4,0,none⟩) (S.length+1) cap4) (S.length+1) (hZ (S++[uR c st i]))):=bT.o;have gL:QQ (Below cb w (w5.drewN nq)):=_root_.Go.below_drewN aR.o nq;have hG:QQ (rZ (w5.drewN nq) B b g aJ s):=bK.drewN nq;generalize w5.drewN nq=w6 at*;clear V bT aR bK q0 q1 q2 bC HK;have q0:=aW.o.c0;have q2:=aW.o.c2;have hA:QQ (∀q,RC LM 126 #[.pointer (some ⟨b,0,none⟩),.int .i64 c,.int .i64 t] (w6.drewN q) λ e w'=>e=.returned (.int .i64 (jM s c t:Int))/\∃m,w'=(w6.drewN q).drewN m):=λ q=>
       P9 s B b g aJ c t (w6.drewN q) hi hs hc ht (hG.o.drewN q)
      go_wp2_with fail;go_quiet ((go_at_call 126;exact RC.quiet_of (hA.o _)));go_wp2;go_roundw
      case rel=>
       refine⟨t,i+1,k+1,S++[uR c st i],_,rfl,rfl,by go_num,ht,by omega,hK,by omega,by simp;omega,lH.o nN,λ h=>by simp at h,?_,?_,?_⟩
       ·rw[LS];exact hR.o
       ·have e:n+(k+1)=N+1:=by have:=hD.o;omega
        rw[e];exact aW.o.drewN _
       ·exact _root_.Go.below_drewN gL.o _
      case measure=>simp[QP];omega
  ·have HX:QQ (iE s aI c H p=(S,k)):=by
    have e:aI.size-i=0:=by omega
    unfold QQ;rw[HK.o,e];rfl
   have C:QQ (jG wr cb aH w.heap.size b aI c H (n+k) T vh vt):=I;have cP:QQ (wr.ownsRow w.heap.size 234 3 sv S.length (hZ S)):=bO;have aT:QQ (Below cb w wr):=bM;have hC:QQ (S=[]->sv=.slice none 0 0):=HN;clear I bO bM HK k2 k3;have nL:=hU;rcases(show S=[]\/0<S.length from by cases S with
    | nil=>exact .inl rfl
    | cons a r=>exact .inr (by simp))with U|U
   ·have hP:=hC.o U;subst hP;rcases iL C.o.rh with rfl|⟨gv,cv,rfl⟩
    all_goals
     have t3:=C.o.c3;have qR:=C.o.fz 3;go_wp2_with (first|(at_builtin;refine An wr rfl (.tmp 80) (.tmp 81) 222 rfl aH 234 (.agg #[.int .i64 0,.int .i64 0,.int .i64 0]) 3 24 NJ cI _ H.length (hZ H) rfl C.o.rh rfl ?_))
     go_end0
     have J:=C.o.again3.raise;refine⟨rfl,aT.o.setCell (p:=⟨cb,3,none⟩) lR _,?_⟩;rw[HX.o,U,OQ];exact⟨_,J⟩
   ·have t3:=C.o.c3;have hX:=C.o.hz;go_wp2_with (first|(at_builtin;refine yB wr rfl (.tmp 80) (.tmp 81) 222 rfl aH w.heap.size 234 (.agg #[.int .i64 0,.int .i64 0,.int .i64 0]) 3 24 NJ cI rfl (by decide) (by decide) vh H.length (hZ H) sv S.length (hZ S) rfl C.o.rh rfl cP.o (yY _) U (by omega) (by omega) ?_;intro g3 eS w3 Q D Y Z;obtain⟨aL,aO⟩:=C.o.kept (λ k hk=>(C.o.rh.lt k hk).1) D;have m3:=aL 3 _ t3;have hY:=aO 3;clear aL aO))
    go_end0
    refine⟨rfl,(aT.o.grown D (by omega) (λ k hk=>by have:=(C.o.rh.lt k hk).1;omega)).setCell (p:=⟨cb,3,none⟩) lR _,?_⟩;rw[HX.o];have J:=C.o.hope rfl Q D Y Z;exact⟨_,J.raise⟩
theorem Ug(s aI:tB)(B b g aJ c cb aH:Nat)(vh vt:tV)(w:tW)(hi:iF s=true)(hs:s.size<=120000)(eS:aI.size<=300)(hc:c<iM s)
  (hw:rZ w B b g aJ s) (hB:B<=cb) (hcut:jG w cb aH w.heap.size b aI c [] 0 [] vh vt):
  RC LM 112 #[.pointer (some ⟨cb,0,none⟩)] w λ e w'=>
   e=.returned (.tuple #[])/\Below cb w w'/\(pX s aI c).2.2<iM s/\∃H hF hG,jG w' cb aH w'.heap.size b aI (pX s aI c).2.2 H (pX s aI c).2.1 (pX s aI c).1 hF hG:=by
 have HL:QQ (pX s aI c=yP s aI (aI.size+1) 0 c [] 0 []):=rfl;have hQ:=hcut.hb;have hP:=hcut.hbt;go_enter func112,ntmps112;go_wp2_with fail
 go_loopw [2] (λ x wr=>∃(p F n:Nat)(H T:List (Int×Int×Int)) (vh vt:tV),x=.int .i64 p/\p<=aI.size/\F<iM s/\H.length<=300*p/\n<=300*p/\T.length<=p/\
   pX s aI c=yP s aI (aI.size-p+1) p F H n T/\jG wr cb aH wr.heap.size b aI F H n T vh vt/\Below cb w wr)
  (λ x _=>aI.size-(QP x).toNat)
 case atStart=>exact⟨0,c,0,[],[],vh,vt,rfl,zL,hc,by simp,by omega,by simp,HL.o,hcut,bR⟩
 case round=>
  obtain⟨p,F,n,H,T,hC,Y,rfl,hp,bC,hH,hn,hT,eL,bK,cP⟩:=hrel;have HR:QQ (pX s aI c=yP s aI (aI.size-p+1) p F H n T):=eL;have HC:QQ (jG wr cb aH wr.heap.size b aI F H n T hC Y):=bK;have cN:QQ (Below cb w wr):=cP;have k1:=bK.c1;clear eL bK cP;by_cases eM:p<aI.size
  ·go_wp2_with fail;refine(z4 s aI B b g aJ F p cb aH n H T hC Y _ hi hs eS hp bC (by omega) (by omega) (hw.below cN.o hB) hB HC.o).mono ?_;rintro e w2 ⟨rfl,eR,aT,bT⟩;have Q:QQ (jG w2 cb aH w2.heap.size b aI F (H++(iE s aI F H p).1) (n+(iE s aI F H p).2) T aT Y):=bT;have aL:QQ (Below cb w w2):=cN.o.trans eR;clear bT eR HC cN k1;have hK:=P7 (s:=s) (aI:=aI) (c:=F) (p:=p) (H:=H);have aO:QQ (rZ w2 B b g aJ s):=hw.below aL.o hB;have q0:=Q.o.c0;have q1:=Q.o.c1;have q2:=Q.o.c2;have Z:QQ (∀q,RC LM 120 #[.pointer (some ⟨b,0,none⟩),.string aI,.int .i64 p,.int .i64 F] (w2.drewN q) λ e w'=>e=.returned (.tuple #[.int .i64 (Fe s aI F p).1,.int .i64 (Fe s aI F p).2])/\∃m,w'=(w2.drewN q).drewN m):=λ q=>
    Mb s aI B b g aJ F p (w2.drewN q) hi hs eS hp bC (aO.o.drewN q)
   rcases yK hi bC hp with eN|⟨r,q,cF,hr,hS,hq⟩
   ·have HX:QQ (pX s aI c=(T++[(-1,(p:Int),(p:Int))],n+(iE s aI F H p).2,F)):=by
     unfold QQ;rw[HR.o];exact wB eM eN
    rw[eN]at Z;clear eN HR;go_wp2_with fail;go_quiet ((go_at_call 120;exact RC.quiet_of (Z.o _)));have C:QQ (jG (w2.drewN nq) cb aH (w2.drewN nq).heap.size b aI F (H++(iE s aI F H p).1) (n+(iE s aI F H p).2) T aT Y):=(Q.o.drewN nq).raise;have aW:QQ (Below cb w (w2.drewN nq)):=_root_.Go.below_drewN aL.o nq;have bM:QQ (rZ (w2.drewN nq) B b g aJ s):=aO.o.drewN nq;generalize w2.drewN nq=w3 at*;clear Q aL aO q0 q1 q2 Z;have bS:=C.o.hbt;have r5:=C.o.c5;go_wp2_with (first|(at_builtin;refine gB w3 rfl (.tmp 39) (.tmp 43) 29 rfl aH 79 (.agg #[.int .i64 0,.int .i64 0,.int .i64 0]) 3 24 MW cJ rfl (by decide) (by decide) Y T.length (hZ T) [.int .i64 (-1),.int .i64 (p:Int),.int .i64 (p:Int)] _ rfl C.o.rt _ rfl rfl rfl (by simp[MG]) (by omega) (by omega) ?_;intro g4 cap4 w4 I D J aR;have U:=C.o.tell (x:=(-1,(p:Int),(p:Int))) I D J aR;have U:=sM U;obtain⟨V,X⟩:=(C.o.below (bR.alloc C.o.hz _)).kept (λ k hk=>(C.o.rt.lt k hk).1) D;have m5:=V 5 _ ((C.o.below (bR.alloc C.o.hz _)).c5);have hA:=X 5;have m2:=V 2 _ ((C.o.below (bR.alloc C.o.hz _)).c2);have gL:=X 2;have bN:=sM ((lN aW.o (by omega) C.o.rt (by omega) D).setCell (p:=⟨cb,5,none⟩) lR (.slice (some ⟨g4,0,none⟩) (T.length+1) cap4));clear V X I D J r5));refine bodyPost_ret (results_none rfl _ _ _) rfl ?_;rw[HX.o];exact⟨rfl,bN.o,bC,_,_,_,U.o.raise⟩
   ·have HX:QQ (pX s aI c=yP s aI (aI.size-q+1) q (if 1<nC s r then nC s r-2 else F) (H++(iE s aI F H p).1) (n+(iE s aI F H p).2) (if nC s r=1 then T else T++[((r:Int),(p:Int),(q:Int))])):=by
     unfold QQ;rw[HR.o,wC eM cF];exact Xz hi _ _ (by have:=vX hi hr;split<;>omega) (by omega) (by omega)
    rw[cF]at Z;have hD:=vX hi hr;have hM:=(kZ hi).1;have hI:=(kZ hi).2.2.2.2;have hR:=(kZ hi).2.2.2.1;have hN:(s[4+r]).toNat=nC s r:=kL s (4+r) (by omega);have hL:((r:Int)== -1)=false:=aC.2 (by omega);clear cF HR;generalize nC s r=t at*;by_cases eT:t=1
    ·subst eT;go_wp2_with fail;go_quiet ((go_at_call 120;exact RC.quiet_of (Z.o _)));have C:QQ (jG (w2.drewN nq) cb aH (w2.drewN nq).heap.size b aI F (H++(iE s aI F H p).1) (n+(iE s aI F H p).2) T aT Y):=(Q.o.drewN nq).raise;have aW:QQ (Below cb w (w2.drewN nq)):=_root_.Go.below_drewN aL.o nq;have bM:QQ (rZ (w2.drewN nq) B b g aJ s):=aO.o.drewN nq;generalize w2.drewN nq=w3 at*;clear Q aL aO q0 q1 q2 Z;have bS:=C.o.hbt;have r5:=C.o.c5;have x0:=C.o.c0;have i0:=bM.o.c0;go_wp2;go_roundw
     case rel=>
      refine⟨q,F,_,_,T,aT,Y,rfl,hq,bC,?_,?_,by omega,HX.o,C.o,aW.o⟩
      ·rw[LS];omega
      ·omega
     case measure=>simp[QP];omega
    ·have hJ:((t:Int) !=1)=true:=by rw[aD];omega
     have eO:(if t=1 then T else T++[((r:Int),(p:Int),(q:Int))])=T++[((r:Int),(p:Int),(q:Int))]:=aA eT;rw[eO]at HX;clear eO;by_cases eX:1<t
     ·obtain⟨u,hu⟩:∃u,t=u+2:=⟨t-2,by omega⟩
      have bO:(if 1<t then t-2 else F)=u:=by rw[aB eX];omega
      rw[bO]at HX;clear bO;have hU:((t:Int)-2)=(u:Int):=by omega
      have hE:u<iM s:=by omega
      clear hu;go_wp2_with fail;go_quiet ((go_at_call 120;exact RC.quiet_of (Z.o _)));have C:QQ (jG (w2.drewN nq) cb aH (w2.drewN nq).heap.size b aI F (H++(iE s aI F H p).1) (n+(iE s aI F H p).2) T aT Y):=(Q.o.drewN nq).raise;have aW:QQ (Below cb w (w2.drewN nq)):=_root_.Go.below_drewN aL.o nq;have bM:QQ (rZ (w2.drewN nq) B b g aJ s):=aO.o.drewN nq;generalize w2.drewN nq=w3 at*;clear Q aL aO q0 q1 q2 Z;have bS:=C.o.hbt;have r5:=C.o.c5;have x0:=C.o.c0;have i0:=bM.o.c0;go_wp2_with (first|(at_builtin;refine gB w3 rfl (.tmp 63) (.tmp 68) 29 rfl aH 79 (.agg #[.int .i64 0,.int .i64 0,.int .i64 0]) 3 24 MW cJ rfl (by decide) (by decide) Y T.length (hZ T) [.int .i64 (r:Int),.int .i64 (p:Int),.int .i64 (q:Int)] _ rfl C.o.rt _ rfl rfl rfl (by simp[MG]) (by omega) (by omega) ?_;intro g4 cap4 w4 I D J aR;have U:=C.o.tell (x:=((r:Int),(p:Int),(q:Int))) I D J aR;have U:=sM U;obtain⟨V,X⟩:=(C.o.below (bR.alloc C.o.hz _)).kept (λ k hk=>(C.o.rt.lt k hk).1) D;have m5:=V 5 _ ((C.o.below (bR.alloc C.o.hz _)).c5);have hA:=X 5;have m2:=V 2 _ ((C.o.below (bR.alloc C.o.hz _)).c2);have gL:=X 2;have bN:=sM ((lN aW.o (by omega) C.o.rt (by omega) D).setCell (p:=⟨cb,5,none⟩) lR (.slice (some ⟨g4,0,none⟩) (T.length+1) cap4));clear V X I D J r5));go_roundw
      case rel=>
       refine⟨q,u,_,_,T++[((r:Int),(p:Int),(q:Int))],aT,_,rfl,hq,hE,?_,?_,?_,HX.o,(U.o.bE u).raise,bN.o.setCell (p:=⟨cb,2,none⟩) lR _⟩
       ·rw[LS];omega
       ·omega
       ·simp;omega
      case measure=>simp[QP];omega
     ·have bO:(if 1<t then t-2 else F)=F:=aA eX;rw[bO]at HX;clear bO;go_wp2_with fail;go_quiet ((go_at_call 120;exact RC.quiet_of (Z.o _)));have C:QQ (jG (w2.drewN nq) cb aH (w2.drewN nq).heap.size b aI F (H++(iE s aI F H p).1) (n+(iE s aI F H p).2) T aT Y):=(Q.o.drewN nq).raise;have aW:QQ (Below cb w (w2.drewN nq)):=_root_.Go.below_drewN aL.o nq;have bM:QQ (rZ (w2.drewN nq) B b g aJ s):=aO.o.drewN nq;generalize w2.drewN nq=w3 at*;clear Q aL aO q0 q1 q2 Z;have bS:=C.o.hbt;have r5:=C.o.c5;have x0:=C.o.c0;have i0:=bM.o.c0;go_wp2_with (first|(at_builtin;refine gB w3 rfl (.tmp 63) (.tmp 68) 29 rfl aH 79 (.agg #[.int .i64 0,.int .i64 0,.int .i64 0]) 3 24 MW cJ rfl (by decide) (by decide) Y T.length (hZ T) [.int .i64 (r:Int),.int .i64 (p:Int),.int .i64 (q:Int)] _ rfl C.o.rt _ rfl rfl rfl (by simp[MG]) (by omega) (by omega) ?_;intro g4 cap4 w4 I D J aR;have U:=C.o.tell (x:=((r:Int),(p:Int),(q:Int))) I D J aR;have U:=sM U;obtain⟨V,X⟩:=(C.o.below (bR.alloc C.o.hz _)).kept (λ k hk=>(C.o.rt.lt k hk).1) D;have m5:=V 5 _ ((C.o.below (bR.alloc C.o.hz _)).c5);have hA:=X 5;have m2:=V 2 _ ((C.o.below (bR.alloc C.o.hz _)).c2);have gL:=X 2;have bN:=sM ((lN aW.o (by omega) C.o.rt (by omega) D).setCell (p:=⟨cb,5,none⟩) lR (.slice (some ⟨g4,0,none⟩) (T.length+1) cap4));clear V X I D J r5));go_roundw
      case rel=>
       refine⟨q,F,_,_,T++[((r:Int),(p:Int),(q:Int))],aT,_,rfl,hq,bC,?_,?_,?_,HX.o,U.o.raise,bN.o⟩
       ·rw[LS];omega
       ·omega
       ·simp;omega
      case measure=>simp[QP];omega
  ·have HX:QQ (pX s aI c=(T,n,F)):=by
    unfold QQ;rw[HR.o];exact yQ eM
   go_wp2
   go_end0
   rw[HX.o];exact⟨rfl,cN.o,bC,_,_,_,HC.o⟩
theorem oZ{w:tW}{base':Nat}{v:tV}{xs:List tV}(h:w.ownsRow aH e size v n xs)(I:base'<=aH):w.ownsRow base' e size v n xs:=by
 refine⟨h.1,?_⟩;rcases h.2 with D|⟨g,aJ,o,F,C,rest⟩
 ·exact .inl D
 ·exact .inr ⟨g,aJ,o,F,by omega,rest⟩
theorem jG.start(w:tW)(ib:Nat)(aI:tB)(c:Nat):
  jG (w.alloc (.cells #[.pointer (some ⟨ib,0,none⟩),.string aI,.int .i64 c,.slice none 0 0,.int .i64 0,.slice none 0 0] 224)) w.heap.size (w.heap.size+1) (w.alloc (.cells #[.pointer (some ⟨ib,0,none⟩),.string aI,.int .i64 c,.slice none 0 0,.int .i64 0,.slice none 0 0] 224)).heap.size ib aI c [] 0 [] (.slice none 0 0) (.slice none 0 0):=by
 have o:∀i v, #[Value.pointer (some ⟨ib,0,none⟩),.string aI,.int .i64 c,.slice none 0 0,.int .i64 0,.slice none 0 0][i]?=some v->
   (w.alloc (.cells #[.pointer (some ⟨ib,0,none⟩),.string aI,.int .i64 c,.slice none 0 0,.int .i64 0,.slice none 0 0] 224)).cell? ⟨w.heap.size,i,none⟩=some v:=λ i v h=>by
  rw[LP];exact h
 refine⟨o 0 _ rfl,o 1 _ rfl,o 2 _ rfl,o 3 _ rfl,o 4 _ rfl,o 5 _ rfl,λ i=>by rw[ML],LU _ _ _ _,LU _ _ _ _,by omega,lR,by simp,λ k C=>by simp[MH]at C,λ k C=>by simp[MH]at C,.inl rfl⟩
theorem BY(s aI:tB)(w:tW)(hs:s.size<=RA)(aR:aI.size<=RA):
  RC LM 88 #[.string s,.string aI] w λ e w'=>
   ∃v,e=.returned (.tuple #[v,.int .i64 (pH s aI).2.1,.int .i64 (pH s aI).2.2])/\w'.ownsRow w.heap.size 79 3 v (pH s aI).1.length (hZ (pH s aI).1)/\Bl w w':=by
 unfold RA at hs aR;by_cases Q:120000<s.size\/300<aI.size
 ·have I:pH s aI=([],0,1):=by unfold pH;rw[aB Q]
  rw[I];clear I;by_cases F:120000<s.size
  ·clear Q;go_enter func88,PK;go_wp2;go_ret3;exact⟨_,rfl,LU _ _ _ _,bR⟩
  ·have V:300<aI.size:=by omega
   clear Q;go_enter func88,PK;go_wp2;go_ret3;exact⟨_,rfl,LU _ _ _ _,bR⟩
 ·have F:s.size<=120000:=by omega
  have V:aI.size<=300:=by omega
  cases hi:iF s with
  | false=>
   have I:pH s aI=([],0,5):=by unfold pH;rw[aA Q,aA (by rw[hi];decide)]
   rw[I];clear I Q;go_enter func88,PK;go_wp2_with (go_at_call 111;refine(yM s _ F).mono ?_;rintro e w1 ⟨v,rfl,Z,_⟩);go_ret3;exact⟨_,rfl,LU _ _ _ _,Z⟩
  | true=>
   have I:pH s aI=((pX s aI 0).1,(pX s aI 0).2.1,0):=by unfold pH;rw[aA Q,aB hi]
   rw[I];clear I Q;have hm:=(kZ hi).2.2.1;go_enter func88,PK;go_wp2_with fail;refine(yM s _ F).mono ?_;rintro e w1 ⟨v,rfl,Z,D⟩;obtain⟨rfl,va,vs,D⟩:=D hi;obtain⟨g,aJ,X⟩:=D.rd hm;have U:=sM Z;clear D Z;rw[hi];go_wp2_with fail;have hcut:=jG.start w1 w.heap.size aI 0;have J:=X.below ((NB w1.heap.size w1).alloc lR (.cells #[.pointer (some ⟨w.heap.size,0,none⟩),.string aI,.int .i64 0,.slice none 0 0,.int .i64 0,.slice none 0 0] 224)) lR;refine(Ug s aI w1.heap.size w.heap.size g aJ 0 w1.heap.size (w1.heap.size+1) (.slice none 0 0) (.slice none 0 0) _ hi F V (by omega) J lR hcut).mono ?_;rintro e w2 ⟨rfl,aO,_,H,vh,vt,C⟩;have k4:=C.c4;have k5:=C.c5;have aL:=sM C;have Y:=U.o.size;clear hcut X J C;go_wp2_with fail;go_quiet (fail);go_wp2;go_ret3;refine⟨vt,rfl,oZ aL.o.rt (by omega),_root_.Go.below_drewN ?_ _⟩;have h1:=(U.o.alloc Y (.cells #[.pointer (some ⟨w.heap.size,0,none⟩),.string aI,.int .i64 0,.slice none 0 0,.int .i64 0,.slice none 0 0] 224))
   exact h1.trans (aO.mono Y)
section
def Ig(X:tW)(v:tV):Array tV:=match v with
 | .pointer (some a)=>((MI 258).map λ i=>(X.cell? ⟨a.block,i,none⟩).getD undef).toArray
 | _=> #[]
def Lz(X:tW)(v:tV):Prop:=∃B cs,v=.pointer (some ⟨B,0,none⟩)/\cs.length=258/\X.rangeAt B 0 cs
theorem Bv{X:tW}{cs:List tV}(C:cs.length=258)(D:X.rangeAt B 0 cs):Ig X (.pointer (some ⟨B,0,none⟩))=cs.toArray:=by
 have e:((MI 258).map λ i=>(X.cell? ⟨B,i,none⟩).getD undef)=cs:=by
  refine List.ext_getElem (by simp[C]) (λ i F o=>?_);have:=D i cs[i] (LR o);rw[LN]at this;simp[this]
 show((MI 258).map λ i=>(X.cell? ⟨B,i,none⟩).getD undef).toArray=cs.toArray;rw[e]
theorem fA{d:Option Tmp}{p:String}{D:Array Edge}{X:tW}{K:Act->tW->Prop}{Q:Exit->Act->tW->Prop}
  (h:Lz X (a.eval x)):
  Oper.wp LM {dst:=d,op:= .load 72 x,type:=ty,pos:=p,after:=D,guard:=gd} a X K Q=K (a.put d (.agg (Ig X (a.eval x)))) X:=by
 obtain⟨B,cs,I,C,o⟩:=h;have F:=QZ (P:=LM) X B 0 72 cs _ o MQ rfl (by rw[C];exact bP);unfold Oper.wp execOp;simp only[I,Instr.loadAt,Instr.sureAddr,Sem.run_bind,Sem.run_pure,Result.andThen_ok,F,Bv C o]
 rfl
theorem Gw{w:tW}{s:tB}{yb:Nat->Nat}{zb:Nat->Nat->Nat}(h:CT w cb lo s c bb vg aU yb zb):
  RC LM 32 #[.pointer (some ⟨cb,0,none⟩)] w λ e w'=>e=.returned (.int .i64 c)/\w'=w:=by
 have o:=h.k1;clear h;go_enter func32,ntmps32;go_wp2;go_ret;exact⟨rfl,rfl⟩
theorem CT.setC{w:tW}{s:tB}{yb:Nat->Nat}{zb:Nat->Nat->Nat}(h:CT w cb lo s c bb vg aU yb zb)(C:Nat)(F:C<iM s):CT (w.setCell ⟨cb,258,none⟩ (.int .i64 (C:Int))) cb lo s C bb vg aU yb zb:=by
 have o:(nS (.slice (some ⟨bb,0,none⟩) (iR s) (iR s)) (gP s) (.slice (some ⟨vg,0,none⟩) (iM s) aU)).length=258:=nY _ _ _ (by unfold gP;rw[lQ];rfl);refine⟨h.ok,h.sz,F,h.mem.blocks h.il (λ k _ I=>MR w ⟨cb,258,none⟩ _ k (by intro e;subst e;exact Nat.lt_irrefl _ I)),h.il,λ j v D=>?_,LI _ _ _ h.k1,λ i=>by rw[LH];exact h.fz i,by have:=h.b0;simp[LO];omega,h.b1⟩;have J:j<258:=by rw[<-o];exact(LJ.1 D).1
 rw[LF (h:=by intro e;injection e;omega)];exact h.im j v D
def DG(w:tW)(cb lo:Nat)(s aI:tB)(c bb vg aU:Nat)(yb:Nat->Nat)(zb:Nat->Nat->Nat)(e:Ending)(w':tW):Prop:=
 ∃vt,e=.returned (.tuple #[vt,.int .i64 0])/\w'.ownsRow w.heap.size 79 3 vt (pX s aI c).1.length (hZ (pX s aI c).1)/\
  CT w' cb lo s (pX s aI c).2.2 bb vg aU yb zb/\w.grownBy w' (some cb)
theorem Qz{w:tW}{aI:tB}(C:300<aI.size):
  RC LM 92 #[.pointer (some ⟨cb,0,none⟩),.string aI] w λ e w'=>e=.returned (.tuple #[.slice none 0 0,.int .i64 1])/\w'=w:=by
 have o:decide ((300:Int)<(aI.size:Int))=true:=by simp;omega
 go_enter func92,ntmps92;go_wp2;go_ret2;exact⟨rfl,rfl⟩
attribute [local go_sem ↓] Go.wp_at_zero Go.wp_at_succ fA
theorem Xi{w:tW}{s aI:tB}{yb:Nat->Nat}{zb:Nat->Nat->Nat}(h:CT w cb lo s c bb vg aU yb zb)(hl:aI.size<=300):
  RC LM 92 #[.pointer (some ⟨cb,0,none⟩),.string aI] w λ e w'=>DG w cb lo s aI c bb vg aU yb zb e w':=by
 have hd:decide ((300:Int)<(aI.size:Int))=false:=by simp;omega
 have Q:=fV h;have k1:=h.k1;have Y:=h.b0;have D:(nS (.slice (some ⟨bb,0,none⟩) (iR s) (iR s)) (gP s) (.slice (some ⟨vg,0,none⟩) (iM s) aU)).length=258:=nY _ _ _ (by unfold gP;rw[lQ];rfl);have aL:Lz w.drew (.pointer (some ⟨cb,0,none⟩)):=⟨cb,_,rfl,D,h.im⟩
 have Z:Ig w.drew (.pointer (some ⟨cb,0,none⟩))=(nS (.slice (some ⟨bb,0,none⟩) (iR s) (iR s)) (gP s) (.slice (some ⟨vg,0,none⟩) (iM s) aU)).toArray:=Bv D h.im;have HA:QQ ((nS (.slice (some ⟨bb,0,none⟩) (iR s) (iR s)) (gP s) (.slice (some ⟨vg,0,none⟩) (iM s) aU)).toArray.toList=nS (.slice (some ⟨bb,0,none⟩) (iR s) (iR s)) (gP s) (.slice (some ⟨vg,0,none⟩) (iM s) aU)):=by unfold QQ;simp
 generalize (nS (.slice (some ⟨bb,0,none⟩) (iR s) (iR s)) (gP s) (.slice (some ⟨vg,0,none⟩) (iM s) aU)).toArray=A at*;clear D h;go_enter func92,ntmps92;go_wp2_with fail;go_region_with (go_at_call 25;refine(Kv s aI c bb vg aU yb zb A w.drew Q.o.ok hl Q.o.hc HA.o ((Q.o.mem.mono (MV Y)).drewN 1)).mono ?_;rintro e w1 ⟨vt,rfl,F,C⟩)
 all_goals
  have I:QQ (Bl w w1):=⟨C.os,C.tape,C.output,C.size,C.block⟩
  have X:=fV F;have J:=fV (Q.o.blocks (w':=w1) (λ k _ hk=>I.o.block k (by omega)) I.o.size);have k2:=J.o.k1;have f2:=J.o.fz 258;have U:=Vo (aI:=aI) Q.o.ok Q.o.hc;have V:=fV U;clear F C U k1 aL Z;go_wp2;go_ret2;refine⟨vt,rfl,?_,J.o.setC _ V.o,lP (iQ I.o lR _) _ _⟩;exact oZ (QO X.o (by show cb<w.heap.size+1+1;omega) _) (by show w.heap.size<=w.heap.size+1+1;omega)
end
section
theorem sH(w:tW){ops:Array Oper}{rest:List Oper}{o:Oper}{a:Act}{Q:Exit->Act->tW->Prop}(X:o.guard=none)(s x:Operand)(t:TypeId)
  (ho:o.op=.call {callee:= .builtin .append,args:= #[s,x],argTypes:= #[t,t]})
  (aH:Nat) (e:TypeId) (z:tV) (size C:Nat) (ht:P.underlying t=some (.slice e)) (D:(P.info? e).map (λ i=>(i.zero,i.size,i.bytes))=some (some z,size,C))
  (Z:z.cells.size=size) (Y:0<size) (V:C<=24)
  (v:tV) (n:Nat) (xs:List tV) (cs:List tV) (J:TypeId) (hs:a.eval s=v) (I:w.ownsRow aH e size v n xs)
  (B:Nat) (hB:w.heap.size=B) (hx:a.eval x=.slice (some ⟨B,0,none⟩) 1 1) (hl:cs.length=size) (h1:∀u∈cs,u.oneCell'=true)
  (hn:n<=5864062014800) (U:aH<=w.heap.size)
  (h:∀g aJ w',w'.ownsRow aH e size (.slice (some ⟨g,0,none⟩) (n+1) aJ) (n+1) (xs++cs)->(w.alloc (.cells cs.toArray J)).grownBy w' v.ownBlock->(v.ownBlock=some g\/g=w.heap.size+1)->g<w'.heap.size->
   wpList P ops Q rest (a.put o.dst (.slice (some ⟨g,0,none⟩) (n+1) aJ)) w'):wpList P ops Q (o::rest) a (w.alloc (.cells cs.toArray J)):=by
 subst hB;obtain⟨i,hi,hz,F,hb⟩:=QU D;refine QY _ X s x t ho aH e i z size C ht hi hz F hb Z Y v n xs hs (I.alloc _) ⟨w.heap.size,0,none⟩ 1 1 cs hx (by omega) ?_ h1 (by omega) (by unfold RA;omega) ?_ (by simp;omega) (w.heap.size+1) (by simp) h
 ·have:=NN (w:=w.alloc (.cells cs.toArray J)) (B:=w.heap.size) (cs:=cs.toArray) (t:=J) (fr:=(0,0)) (QW w _);simpa using this
 ·have:=NI (show n+1<=5864062014801 by omega) V;omega
theorem Yp(w:tW){ops:Array Oper}{o:Oper}{a:Act}{K:Act->tW->Prop}{Q:Exit->Act->tW->Prop}{E:Prop}(X:o.guard=none)(s x:Operand)(t:TypeId)
  (ho:o.op=.call {callee:= .builtin .append,args:= #[s,x],argTypes:= #[t,t]})
  (aH:Nat) (e:TypeId) (z:tV) (size C:Nat) (ht:P.underlying t=some (.slice e)) (D:(P.info? e).map (λ i=>(i.zero,i.size,i.bytes))=some (some z,size,C))
  (Z:z.cells.size=size) (Y:0<size) (V:C<=24)
  (v:tV) (n:Nat) (xs:List tV) (cs:List tV) (J:TypeId) (hs:a.eval s=v) (I:w.ownsRow aH e size v n xs)
  (B:Nat) (hB:w.heap.size=B) (hx:a.eval x=.slice (some ⟨B,0,none⟩) 1 1) (hl:cs.length=size) (h1:∀u∈cs,u.oneCell'=true)
  (hn:n<=5864062014800) (U:aH<=w.heap.size)
  (h:∀g aJ w',w'.ownsRow aH e size (.slice (some ⟨g,0,none⟩) (n+1) aJ) (n+1) (xs++cs)->(w.alloc (.cells cs.toArray J)).grownBy w' v.ownBlock->(v.ownBlock=some g\/g=w.heap.size+1)->g<w'.heap.size->
   K (a.put o.dst (.slice (some ⟨g,0,none⟩) (n+1) aJ)) w'):if Region.wanted o (yielded ops a.tmps)=true then Oper.wp P o a (w.alloc (.cells cs.toArray J)) K Q else E:=by
 subst hB;obtain⟨i,hi,hz,F,hb⟩:=QU D;refine step_append_lies _ X s x t ho aH e i z size C ht hi hz F hb Z Y v n xs hs (I.alloc _) ⟨w.heap.size,0,none⟩ 1 1 cs hx (by omega) ?_ h1 (by omega) (by unfold RA;omega) ?_ (by simp;omega) (w.heap.size+1) (by simp) h
 ·have:=NN (w:=w.alloc (.cells cs.toArray J)) (B:=w.heap.size) (cs:=cs.toArray) (t:=J) (fr:=(0,0)) (QW w _);simpa using this
 ·have:=NI (show n+1<=5864062014801 by omega) V;omega
structure RF(w:tW)(rb lo ib g aJ:Nat)(s:tB)(c:Nat):Prop where
 rd:rZ w rb ib g aJ s
 c0:w.cell? ⟨rb,0,none⟩=some (.pointer (some ⟨ib,0,none⟩))
 c1:w.cell? ⟨rb,1,none⟩=some (.int .i64 (c:Int))
 fz:w.frozen? ⟨rb,1,none⟩=false
 b0:rb<w.heap.size
 b1:lo<=ib/\lo<=g/\lo<=rb
theorem RF.blocks{w w':tW}{s:tB}(h:RF w rb lo ib g aJ s c)(D:∀k,lo<=k->k<=rb->w'.heap[k]?=w.heap[k]?)(J:w.heap.size<=w'.heap.size):RF w' rb lo ib g aJ s c:=by
 obtain⟨Q,U,V⟩:=h.b1;have F:=h.rd.hb;have hg:=h.rd.hg;have o:=D ib Q (by omega);have I:=D g U (by omega);have C:=D rb V lR;exact⟨⟨(LD (w:=w) (a:=⟨ib,0,none⟩) o).trans h.rd.c0,(LD (w:=w) (a:=⟨ib,3,none⟩) o).trans h.rd.c3,(LD (w:=w) (a:=⟨ib,4,none⟩) o).trans h.rd.c4,(LD (w:=w) (a:=⟨ib,5,none⟩) o).trans h.rd.c5,λ i hi=>(LD (w:=w) (a:=⟨g,i,none⟩) I).trans (h.rd.at_ i hi),F,hg⟩,
  (LD (w:=w) (a:=⟨rb,0,none⟩) C).trans h.c0,(LD (w:=w) (a:=⟨rb,1,none⟩) C).trans h.c1,(LQ (w:=w) (a:=⟨rb,1,none⟩) C).trans h.fz,LK h.b0 J,h.b1⟩
structure wX where
 cb:Nat
 lo:Nat
 bb:Nat
 vg:Nat
 aU:Nat
 yb:Nat->Nat
 zb:Nat->Nat->Nat
 rb:Nat
 lo2:Nat
 ib:Nat
 g:Nat
 aJ:Nat
 s:tB
 c:Nat
def wX.cells(t:wX):List tV:= [.pointer (some ⟨t.cb,0,none⟩),.pointer (some ⟨t.rb,0,none⟩)]
def Ny(l:List wX):List tV:=l.flatMap wX.cells
structure TW(w:tW)(O:Nat->Nat)(j:Nat)(t:wX):Prop where
 ct:CT w t.cb t.lo t.s t.c t.bb t.vg t.aU t.yb t.zb
 rf:RF w t.rb t.lo2 t.ib t.g t.aJ t.s t.c
 o1:∀k,t.lo<=k->k<=t.cb->O k=19+4*j
 o2:∀k,t.lo2<=k->k<=t.rb->O k=19+4*j
 ne:t.cb<t.lo2
def MK(w:tW)(O:Nat->Nat)(i:Nat)(v:tV):Prop:=
 ∃a n aJ,v=.slice a n aJ/\n<=2000/\(0<n->∃g,a=some ⟨g,0,none⟩/\g<w.heap.size/\O g=16+4*i/\
  ∀k,k<n->w.cell? ⟨g,k*3,none⟩=some (.int .i64 (-9))/\w.cell? ⟨g,k*3+1,none⟩=some (.int .i64 (i:Int))/\w.cell? ⟨g,k*3+2,none⟩=some (.int .i64 (-9)))
structure OT(w:tW)(O:Nat->Nat)(B t:Nat)(v:tV)(T:List (Int×Int×Int)):Prop where
 ro:w.ownsRow (B+1) 79 3 v T.length (hZ T)
 tg:∀k,v.ownBlock=some k->O k=t
 ln:T.length<=1000
variable {w w':tW}{O O':Nat->Nat}
theorem TW.keep{j:Nat}{t:wX}(h:TW w O j t)(F:w.heap.size<=w'.heap.size)(D:∀k,k<w.heap.size->O k=19+4*j->w'.heap[k]?=w.heap[k]? /\O' k=O k):TW w' O' j t:=by
 have I:=h.ct.b0;have J:=h.rf.b0;exact⟨h.ct.blocks (λ k o C=>(D k (by omega) (h.o1 k o C)).1) F,h.rf.blocks (λ k o C=>(D k (by omega) (h.o2 k o C)).1) F,
  λ k o C=>(D k (by omega) (h.o1 k o C)).2.trans (h.o1 k o C),λ k o C=>(D k (by omega) (h.o2 k o C)).2.trans (h.o2 k o C),h.ne⟩
theorem MK.keep{v:tV}(h:MK w O i v)(Y:w.heap.size<=w'.heap.size)(J:∀k,k<w.heap.size->O k=16+4*i->w'.heap[k]?=w.heap[k]? /\O' k=O k):MK w' O' i v:=by
 obtain⟨a,n,aJ,e,V,I⟩:=h;refine⟨a,n,aJ,e,V,λ X=>?_⟩;obtain⟨g,F,hg,C,Q⟩:=I X;obtain⟨o,D⟩:=J g hg C;refine⟨g,F,LK hg Y,D.trans C,λ k U=>?_⟩;obtain⟨x,y,z⟩:=Q k U;exact⟨(LD (w:=w) (a:=⟨g,k*3,none⟩) o).trans x,(LD (w:=w) (a:=⟨g,k*3+1,none⟩) o).trans y,(LD (w:=w) (a:=⟨g,k*3+2,none⟩) o).trans z⟩
theorem OT.keep{t:Nat}{v:tV}{T:List (Int×Int×Int)}(h:OT w O B t v T)(C:∀k,k<w.heap.size->O k=t->w'.heap[k]?=w.heap[k]? /\O' k=O k):OT w' O' B t v T:=
 ⟨iH h.ro (λ k o=>(C k (h.ro.lt k o).2 (h.tg k o)).1),λ k o=>(C k (h.ro.lt k o).2 (h.tg k o)).2.trans (h.tg k o),h.ln⟩
structure PI(B p:Nat)(w:tW)(O:Nat->Nat)(cs:List wX)(vb:Nat->tV)(bc:Nat->List tV)(q:Nat)(T:Nat->List (Int×Int×Int)):Prop where
 wb:∀f,f<7->w.cell? ⟨B,f,none⟩=some (vb f)
 wz:∀i,w.frozen? ⟨B,i,none⟩=false
 wt:O B=1/\B<w.heap.size
 b0:w.ownsRow (B+1) 96 2 (vb 0) cs.length (Ny cs)
 bk:∀f,1<=f->f<7->w.ownsRow (B+1) 29 1 (vb f) (bc f).length (bc f)
 bt:∀f k,f<7->(vb f).ownBlock=some k->O k=2+f
 mm:∀f i v,1<=f->f<=4->i<p->(bc f)[i]?=some v->MK w O i v
 wa:∀j v,q<=j->(bc 5)[j]?=some v->OT w O B (17+4*j) v (T j)
 we:∀j v,q<=j->(bc 6)[j]?=some v->OT w O B (18+4*j) v (T j)
 cu:∀j t,cs[j]?=some t->TW w O j t
 fr:∀k,w.heap.size<=k->O k=0
 cl:∀(j:Nat)(t:wX),cs[j]?=some t->B<t.lo/\B<t.lo2
variable {B p q:Nat}{cs:List wX}{vb:Nat->tV}{bc:Nat->List tV}{T:Nat->List (Int×Int×Int)}
theorem PI.own(h:PI B p w O cs vb bc q T){f k:Nat}(C:f<7)(o:(vb f).ownBlock=some k):B+1<=k/\k<w.heap.size:=by
 by_cases e:f=0
 ·subst e;exact h.b0.lt k o
 ·exact(h.bk f (by omega) C).lt k o
theorem PI.keep(h:PI B p w O cs vb bc q T)(V:w.heap.size<=w'.heap.size)(C:∀k,k<w.heap.size->O k≠0->w'.heap[k]?=w.heap[k]? /\O' k=O k)(D:∀k,w'.heap.size<=k->O' k=0):PI B p w' O' cs vb bc q T:=by
 obtain⟨o1,X⟩:=h.wt;obtain⟨Y,Z⟩:=C B X (by omega);exact⟨λ f D=>(LD (w:=w) (a:=⟨B,f,none⟩) Y).trans (h.wb f D),λ i=>(LQ (w:=w) (a:=⟨B,i,none⟩) Y).trans (h.wz i),⟨Z.trans o1,LK X V⟩,
  iH h.b0 (λ k o=>(C k (h.own (by omega) o).2 (by have:=h.bt 0 k (by omega) o;omega)).1),
  λ f Q F=>iH (h.bk f Q F) (λ k o=>(C k (h.own F o).2 (by have:=h.bt f k F o;omega)).1),
  λ f k D o=>(C k (h.own D o).2 (by have:=h.bt f k D o;omega)).2.trans (h.bt f k D o),
  λ f i v Q F hi J=>(h.mm f i v Q F hi J).keep V (λ k o U=>C k o (by omega)),
  λ j v I J=>(h.wa j v I J).keep (λ k o U=>C k o (by omega)),
  λ j v I J=>(h.we j v I J).keep (λ k o U=>C k o (by omega)),
  λ j t I=>(h.cu j t I).keep V (λ k o U=>C k o (by omega)),D,h.cl⟩
theorem PI.below(h:PI B p w O cs vb bc q T)(o:Bl w w'):PI B p w' O cs vb bc q T:=
 h.keep o.size (λ k C _=>⟨o.block k C,rfl⟩) (λ k C=>h.fr k (NF o.size C))
theorem PI.draw(h:PI B p w O cs vb bc q T)(n:Nat):PI B p (w.drewN n) O cs vb bc q T:=h.below ⟨rfl,rfl,rfl,lR,λ _ _=>rfl⟩
theorem PI.push(h:PI B p w O cs vb bc q T){f:Nat}(h1:1<=f)(h2:f<7){w4:tW}{o:Obj}{g aJ:Nat}{v:tV}
  (U:w4.ownsRow (B+1) 29 1 (.slice (some ⟨g,0,none⟩) ((bc f).length+1) aJ) ((bc f).length+1) (bc f++[v]))
  (Y:(w.alloc o).grownBy w4 (vb f).ownBlock) (aO:(vb f).ownBlock=some g\/g=w.heap.size+1)
  (hm:f<=4->(bc f).length<p->MK w O (bc f).length v) (h5:f=5->OT w O B (17+4*(bc 5).length) v (T (bc 5).length)) (h6:f=6->OT w O B (18+4*(bc 6).length) v (T (bc 6).length)):
  PI B p (w4.setCell ⟨B,f,none⟩ (.slice (some ⟨g,0,none⟩) ((bc f).length+1) aJ)) (λ k=>if k=g then 2+f else O k) cs (Y1 vb f (.slice (some ⟨g,0,none⟩) ((bc f).length+1) aJ)) (Y1 bc f (bc f++[v])) q T:=by
 obtain⟨o1,b1⟩:=h.wt;have bO:=Y.size;have ez:(w.alloc o).heap.size=w.heap.size+1:=by simp
 have bN:=(U.lt g rfl).2;have bS:(w4.setCell ⟨B,f,none⟩ (.slice (some ⟨g,0,none⟩) ((bc f).length+1) aJ)).heap.size=w4.heap.size:=by simp[LO]
 have bM:g<w.heap.size->O g=2+f:=λ hg=>by
  rcases aO with e|e
  ·exact h.bt f g h2 e
  ·omega
 have F:∀k,k<w.heap.size->O k≠1->O k≠2+f->(w4.setCell ⟨B,f,none⟩ (.slice (some ⟨g,0,none⟩) ((bc f).length+1) aJ)).heap[k]?=w.heap[k]? /\(if k=g then 2+f else O k)=O k:=λ k D bK aL=>by
  have aW:k≠B:=λ e=>bK (by rw[e];exact o1)
  have bC:k≠g:=λ e=>aL (by rw[e];exact bM (by omega))
  refine⟨(iC w4 B f _ aW).trans ((Y.block k (by omega) (λ e=>aL (h.bt f k h2 e.symm))).trans (MB w o k D)),aA bC⟩
 have X:w4.heap[B]?=w.heap[B]? :=(Y.block B (by omega) (λ e=>by have:=h.bt f B h2 e.symm;omega)).trans (MB w o B b1);have aR:g≠B:=by have:=(U.lt g rfl).1;omega
 refine⟨λ f' J=>?_,λ i=>by rw[LH];exact(LQ (w:=w) (a:=⟨B,i,none⟩) X).trans (h.wz i),⟨(aA (Ne.symm aR)).trans o1,by omega⟩,?_,λ f' a1 V=>?_,λ f' k J D=>?_,λ f' i u a1 V Z C=>?_,λ j u hj C=>?_,λ j u hj C=>?_,λ j t hj=>?_,λ k D=>?_,h.cl⟩
 ·by_cases e:f'=f
  ·subst e;rw[iY];exact LI _ _ _ ((LD (w:=w) (a:=⟨B,f',none⟩) X).trans (h.wb f' J))
  ·rw[gZ _ _ e,LF (h:=by intro e';injection e';omega)];exact(LD (w:=w) (a:=⟨B,f',none⟩) X).trans (h.wb f' J)
 ·rw[gZ _ _ (show 0≠f by omega)];exact iH h.b0 (λ k D=>(F k (h.own (by omega) D).2 (by have:=h.bt 0 k (by omega) D;omega) (by have:=h.bt 0 k (by omega) D;omega)).1)
 ·by_cases e:f'=f
  ·subst e;rw[iY,iY,LS,MJ];exact QO U (show B<B+1 by omega) _
  ·rw[gZ _ _ e,gZ _ _ e];exact iH (h.bk f' a1 V) (λ k D=>(F k (h.own V D).2 (by have:=h.bt f' k V D;omega) (by have:=h.bt f' k V D;omega)).1)
 ·by_cases e:f'=f
  ·subst e;rw[iY]at D;have aT:g=k:=by simpa[MH]using D
   rw[aB aT.symm]
  ·rw[gZ _ _ e]at D;have:=h.bt f' k J D;rw[(F k (h.own J D).2 (by omega) (by omega)).2];exact this
 ·have I:∀i u,MK w O i u->MK (w4.setCell ⟨B,f,none⟩ (.slice (some ⟨g,0,none⟩) ((bc f).length+1) aJ)) (λ k=>if k=g then 2+f else O k) i u:=λ i u Q=>Q.keep (by omega) (λ k D ho=>F k D (by omega) (by omega))
  by_cases e:f'=f
  ·subst e;rw[iY]at C;by_cases hi:i<(bc f').length
   ·rw[MT hi]at C;exact I i u (h.mm f' i u a1 V Z C)
   ·have hl:=(LJ.1 C).1;rw[LS,MJ]at hl;have ei:i=(bc f').length:=by omega
    subst ei;rw[MC lR,OI]at C;have eu:=sJ C
    subst eu;exact I _ _ (hm V Z)
  ·rw[gZ _ _ e]at C;exact I i u (h.mm f' i u a1 V Z C)
 ·have I:∀u j,OT w O B (17+4*j) u (T j)->OT (w4.setCell ⟨B,f,none⟩ (.slice (some ⟨g,0,none⟩) ((bc f).length+1) aJ)) (λ k=>if k=g then 2+f else O k) B (17+4*j) u (T j):=λ u j Q=>Q.keep (λ k D ho=>F k D (by omega) (by omega))
  by_cases e:5=f
  ·subst e;rw[iY]at C;by_cases hi:j<(bc 5).length
   ·rw[MT hi]at C;exact I u j (h.wa j u hj C)
   ·have hl:=(LJ.1 C).1;rw[LS,MJ]at hl;have ei:j=(bc 5).length:=by omega
    subst ei;rw[MC lR,OI]at C;have eu:=sJ C
    subst eu;exact I _ _ (h5 rfl)
  ·rw[gZ _ _ e]at C;exact I u j (h.wa j u hj C)
 ·have I:∀u j,OT w O B (18+4*j) u (T j)->OT (w4.setCell ⟨B,f,none⟩ (.slice (some ⟨g,0,none⟩) ((bc f).length+1) aJ)) (λ k=>if k=g then 2+f else O k) B (18+4*j) u (T j):=λ u j Q=>Q.keep (λ k D ho=>F k D (by omega) (by omega))
  by_cases e:6=f
  ·subst e;rw[iY]at C;by_cases hi:j<(bc 6).length
   ·rw[MT hi]at C;exact I u j (h.we j u hj C)
   ·have hl:=(LJ.1 C).1;rw[LS,MJ]at hl;have ei:j=(bc 6).length:=by omega
    subst ei;rw[MC lR,OI]at C;have eu:=sJ C
    subst eu;exact I _ _ (h6 rfl)
  ·rw[gZ _ _ e]at C;exact I u j (h.we j u hj C)
 ·exact(h.cu j t hj).keep (by omega) (λ k D ho=>F k D (by omega) (by omega))
 ·rw[aA (by omega)];exact h.fr k (by omega)
end
section
theorem cM:(Tryz.prog.info? 29).map (λ i=>(i.zero,i.size,i.bytes))=some (some (.slice none 0 0),1,24):=by kernel_rfl
theorem yX{w w4:tW}{o:Obj}{D:Option Nat}(C:(w.alloc o).grownBy w4 D)(F:∀k,D=some k->B<=k)(J:B<=w.heap.size):Below B w w4:=by
 have U:=C.size;have I:(w.alloc o).heap.size=w.heap.size+1:=by simp
 exact⟨C.os,C.tape,C.output,by omega,λ k Q=>(C.block k (by omega) (λ e=>by have:=F k e.symm;omega)).trans (MB w o k (by omega))⟩
variable {B p q:Nat}{w w':tW}{O:Nat->Nat}{cs:List wX}{vb:Nat->tV}{bc:Nat->List tV}{T:Nat->List (Int×Int×Int)}
theorem PI.setT(h:PI B p w O cs vb bc q T){D:Nat->List (Int×Int×Int)}(F:∀j,j<(bc 5).length\/j<(bc 6).length->D j=T j):PI B p w O cs vb bc q D:=
 ⟨h.wb,h.wz,h.wt,h.b0,h.bk,h.bt,h.mm,λ j v C o=>by rw[F j (.inl (LJ.1 o).1)];exact h.wa j v C o,λ j v C o=>by rw[F j (.inr (LJ.1 o).1)];exact h.we j v C o,h.cu,h.fr,h.cl⟩
theorem PI.tag(h:PI B p w O cs vb bc q T){v:tV}(t:Nat)(o:∀k,v.ownBlock=some k->O k=0/\k<w.heap.size):PI B p w (λ k=>if v.ownBlock=some k then t else O k) cs vb bc q T:=
 h.keep lR (λ k _ C=>⟨rfl,aA (λ e=>C (o k e).1)⟩) (λ k D=>by
  have:¬v.ownBlock=some k:=λ e=>by have:=(o k e).2;omega
  simp only[aA this];exact h.fr k D)
theorem Sn(w:tW){ops:Array Oper}{o:Oper}{a:Act}{K:Act->tW->Prop}{Q:Exit->Act->tW->Prop}{E:Prop}(F:o.guard=none)(x:Operand)
  (ho:o.op=.call {callee:= .builtin .append,args:= #[.const (.slice none 0 0),x],argTypes:= #[29,29]})
  (aH:Nat) (v:tV) (n:Nat) (xs:List tV) (hx:a.eval x=v) (C:w.ownsRow aH 79 3 v n xs) (h1:∀u∈xs,u.oneCell'=true) (hn:n<=1000) (hb:aH<=w.heap.size)
  (h:∀u w',w'.ownsRow aH 79 3 u n xs->w.grownBy w' none->(∀k,u.ownBlock=some k->w.heap.size<=k)->K (a.put o.dst u) w'):
  if Region.wanted o (yielded ops a.tmps)=true then Oper.wp LM o a w K Q else E:=by
 obtain⟨i,hi,hz,D,X⟩:=QU cJ;have I:=C.1;by_cases h0:n=0
 ·subst h0;have hw:Region.wanted o (yielded ops a.tmps)=true:=by simp[Region.wanted,F]
  rw[aB hw];obtain⟨va,vc,hv⟩:=gA C;have aL:xs=[]:=List.length_eq_zero_iff.1 (by omega);subst aL;have U:(Builtin.append_ #[29,29] o.type #[.slice none 0 0,v]).run LM w=.ok (.slice none 0 0) w:=by
   subst hv;have hs:Src LM i.size 29 (.slice va 0 vc) 0 [] w:=by
    cases va with
    | none=>exact Src.ofNil w MW vc
    | some ad=>exact Src.ofSlice w MW ad 0 vc [] (by simp) (λ j u hu=>by simp at hu) (λ u hu=>by cases hu)
   have hc:=hs.cells;simp[Builtin.append_,run_underlying MW,sizeOf,typeInfo,hi,hs.len,hc]
  unfold Oper.wp;have he:a.eval (.const (.slice none 0 0))=.slice none 0 0:=rfl;simp[execOp,ho,resolve,invoke,builtin,he,hx,U,Result.andThen];exact h _ _ (LU _ _ _ _) (World.grownBy.refl _ _) (λ k Z=>by simp[MH]at Z)
 ·obtain⟨g,aJ,hv,aO,aR⟩:=C.form (by omega);subst hv;refine step_append_lies w F (.const (.slice none 0 0)) x 29 ho aH 79 i _ 3 24 MW hi hz D X rfl (by decide) (.slice none 0 0) 0 [] rfl (LU _ _ _ _) ⟨g,0,none⟩ n aJ xs hx I (λ j u hj=>C.cells rfl j u hj) h1 (by omega) (by unfold RA;omega) (by omega) hb w.heap.size rfl ?_;intro g4 cap4 w4 J Y V aT;rw[LN,OS]at J;rw[LN];refine h _ w4 J Y (λ k Z=>?_);rcases V with e|e
  ·cases e
  ·have:g4=k:=by simpa[MH]using Z
   omega
end
theorem JU{w:tW}{s aI:tB}{yb:Nat->Nat}{zb:Nat->Nat->Nat}(h:CT w cb lo s c bb vg aU yb zb):
  RC LM 92 #[.pointer (some ⟨cb,0,none⟩),.string aI] w λ e w'=>∃vt,e=.returned (.tuple #[vt,.int .i64 (DA aI)])/\w'.ownsRow w.heap.size 79 3 vt (Je s aI c).length (hZ (Je s aI c))/\
   CT w' cb lo s (IP s aI c) bb vg aU yb zb/\w.grownBy w' (some cb):=by
 unfold Je DA IP;by_cases o:300<aI.size
 ·rw[aB o,aB o,aB o];refine(Qz o).mono ?_;rintro e w' ⟨rfl,rfl⟩;exact⟨_,rfl,LU _ _ _ _,h,World.grownBy.refl _ _⟩
 ·rw[aA o,aA o,aA o];refine(Xi h (by omega)).mono ?_;rintro e w' ⟨vt,rfl,D,C,hg⟩;exact⟨vt,rfl,D,C,hg⟩
theorem JG{s:tB}(C:s.size<=120000)(o:iF s=true):G5 s=0:=by unfold G5;rw[aA (by omega),aB o]
theorem i6{s:tB}(h:¬(s.size<=120000/\iF s=true)):((G5 s:Int) !=0)=true:=by
 rw[aD];unfold G5;by_cases o:120000<s.size
 ·rw[aB o];decide
 ·rw[aA o];rw[aA (λ C=>h ⟨by omega,C⟩)];decide
theorem He(s:tB)(w:tW)(hs:s.size<=RA):
  RC LM 91 #[.string s] w λ e w'=>Bl w w'/\((¬(s.size<=120000/\iF s=true)/\e=.returned (.tuple #[.pointer none,.int .i64 (G5 s)]))\/
   (s.size<=120000/\iF s=true/\∃rb ib g aJ,e=.returned (.tuple #[.pointer (some ⟨rb,0,none⟩),.int .i64 0])/\RF w' rb w.heap.size ib g aJ s 0)):=by
 by_cases J:s.size<=120000/\iF s=true
 ·obtain⟨h1,X⟩:=J;have hc:=JG h1 X;have hm:=(kZ X).2.2.1;have bC:=fV hc;go_enter func91,ntmps91;go_wp2_with fail;refine(T6 s _ hs).mono ?_;rintro e w1 ⟨rfl,F⟩;have D:=fV F;rw[hc];clear F hc;go_wp2_with fail;refine(yM s _ h1).mono ?_;rintro e w2 ⟨v,rfl,Q,C⟩;obtain⟨rfl,va,vs,C⟩:=C X;have V:=fV (D.o.trans (Q.mono D.o.size));have aT:=D.o.size;have aW:=Q.size;obtain⟨g,aJ,aR,bK,bM⟩:=C.ra.form (by omega);subst aR;have U:=C.ra.lt g rfl;have aO:QQ (RF (w2.alloc (.cells #[.pointer (some ⟨w1.heap.size,0,none⟩),.int .i64 0] 100)) w2.heap.size w.heap.size w1.heap.size g aJ s 0):=by
   have Y:Bl w2 (w2.alloc (.cells #[.pointer (some ⟨w1.heap.size,0,none⟩),.int .i64 0] 100)):=bR.alloc lR _;have I:w1.heap.size<w2.heap.size:=by have:=C.hb;have:=C.hz;omega
   refine⟨⟨(Y.cell (p:=⟨w1.heap.size,0,none⟩) I).trans C.c0,(Y.cell (p:=⟨w1.heap.size,3,none⟩) I).trans C.c3,(Y.cell (p:=⟨w1.heap.size,4,none⟩) I).trans C.c4,(Y.cell (p:=⟨w1.heap.size,5,none⟩) I).trans C.c5,λ i hi=>?_,I,U.2⟩,(PW _ _ _ 0 rfl).trans rfl,(PW _ _ _ 1 rfl).trans rfl,?_,by simp,⟨aT,by omega,by omega⟩⟩
   ·refine(Y.cell (p:=⟨g,i,none⟩) U.2).trans ?_;have:=C.ra.cells (g:=g) rfl i (.int .i64 ((pE s i+1:Nat):Int)) (by unfold Y8;rw[MD,MN hi];rfl);have Z:(⟨g,0,none⟩:Addr).add i=⟨g,i,none⟩:=by unfold Addr.add;split<;>simp_all
    rw[Z]at this;exact this
   ·rw[ML]
  have aL:QQ (Bl w (w2.alloc (.cells #[.pointer (some ⟨w1.heap.size,0,none⟩),.int .i64 0] 100))):=V.o.alloc V.o.size _;clear C Q U aW;rw[X];go_wp2;go_ret2;exact⟨aL.o,.inr ⟨h1,X,_,_,_,_,rfl,aO.o⟩⟩
 ·have hc:=i6 J;have HN:=fV J;clear J;go_enter func91,ntmps91;go_wp2_with fail;refine(T6 s _ hs).mono ?_;rintro e w1 ⟨rfl,F⟩;have D:=fV F;clear F;go_wp2;go_ret2;exact⟨D.o,.inl ⟨HN.o,rfl⟩⟩
theorem Xn{w:tW}{s aI:tB}(h:RF w rb lo ib g aJ s c)(hi:iF s=true)(hs:s.size<=120000)(hc:c<iM s):
  RC LM 93 #[.pointer (some ⟨rb,0,none⟩),.string aI] w λ e w'=>∃vt,e=.returned (.tuple #[vt,.int .i64 (DA aI)])/\w'.ownsRow w.heap.size 79 3 vt (Je s aI c).length (hZ (Je s aI c))/\
   RF w' rb lo ib g aJ s (IP s aI c)/\w.grownBy w' (some rb):=by
 by_cases J:300<aI.size
 ·have hd:decide ((300:Int)<(aI.size:Int))=true:=by simp;omega
  have Y:Je s aI c=[]:=by unfold Je;rw[aB J]
  have Z:DA aI=1:=by unfold DA;rw[aB J]
  have e3:IP s aI c=c:=by unfold IP;rw[aB J]
  rw[Y,Z,e3];clear Y Z e3 J;go_enter func93,ntmps93;go_wp2;go_ret2;exact⟨_,rfl,LU _ _ _ _,h,World.grownBy.refl _ _⟩
 ·have hd:decide ((300:Int)<(aI.size:Int))=false:=by simp;omega
  have bM:aI.size<=300:=by omega
  have Y:Je s aI c=(pX s aI c).1:=by unfold Je;rw[aA J]
  have Z:DA aI=0:=by unfold DA;rw[aA J]
  have e3:IP s aI c=(pX s aI c).2.2:=by unfold IP;rw[aA J]
  rw[Y,Z,e3];clear Y Z e3 J;have X:=fV h;have c0:=h.c0;have c1:=h.c1;clear h;go_enter func93,ntmps93;go_upto_region 3 with fail
  go_region
  have aO:=(X.o.rd.below (B':=w.heap.size) ((NB w.heap.size w).alloc lR (.cells #[.pointer (some ⟨ib,0,none⟩),.string aI,.int .i64 (c:Int),.slice none 0 0,.int .i64 0,.slice none 0 0] 224)) (MV X.o.b0)).drewN 1;have hcut:=((jG.start w ib aI c).drewN 1).raise;have U:QQ (Bl w ((w.alloc (.cells #[.pointer (some ⟨ib,0,none⟩),.string aI,.int .i64 (c:Int),.slice none 0 0,.int .i64 0,.slice none 0 0] 224)).drewN 1)):=by
   have h:=(NB w.heap.size w).alloc lR (.cells #[.pointer (some ⟨ib,0,none⟩),.string aI,.int .i64 (c:Int),.slice none 0 0,.int .i64 0,.slice none 0 0] 224);exact⟨h.os,h.tape,h.output,h.size,h.block⟩
  have bC:=X.o.b0;clear c0 c1;go_wp2_with fail;refine(Ug s aI rb ib g aJ c w.heap.size (w.heap.size+1) (.slice none 0 0) (.slice none 0 0) _ hi hs bM hc aO (MV bC) hcut).mono ?_;rintro e w2 ⟨rfl,aL,bO,H,vh,vt,D⟩;obtain⟨Q,EC⟩:=xE ((pX s aI c).2.2)
  obtain⟨T,ET⟩:=xE ((pX s aI c).1)
  rw[EC,ET]at D;replace EC:=fV EC;replace ET:=fV ET;have F:=fV (U.o.trans aL);have k2:=D.c2;have k5:=D.c5;have V:=fV D;have C:=fV (X.o.blocks (w':=w2) (λ k _ I=>F.o.block k (by omega)) F.o.size);have d1:=C.o.c1;have f1:=C.o.fz;have bS:(w2.setCell ⟨rb,1,none⟩ (.int .i64 (Q:Int))).cell? ⟨w.heap.size,5,none⟩=some vt:=by
   rw[LF (h:=by intro e;injection e;omega)];exact k5
  have aW:QQ ((w2.setCell ⟨rb,1,none⟩ (.int .i64 (Q:Int))).ownsRow w.heap.size 79 3 vt T.length (hZ T)):=oZ (QO V.o.rt (show rb<w.heap.size+1 by omega) _) (NK _);have aR:QQ (RF (w2.setCell ⟨rb,1,none⟩ (.int .i64 (Q:Int))) rb lo ib g aJ s Q):=by
   have I:∀k,k≠rb->(w2.setCell ⟨rb,1,none⟩ (.int .i64 (Q:Int))).heap[k]?=w2.heap[k]? :=λ k I=>iC w2 rb 1 _ I
   have bK:=C.o.rd.hb;have hg:=C.o.rd.hg;refine⟨⟨(LD (w:=w2) (a:=⟨ib,0,none⟩) (I ib (by omega))).trans C.o.rd.c0,(LD (w:=w2) (a:=⟨ib,3,none⟩) (I ib (by omega))).trans C.o.rd.c3,(LD (w:=w2) (a:=⟨ib,4,none⟩) (I ib (by omega))).trans C.o.rd.c4,(LD (w:=w2) (a:=⟨ib,5,none⟩) (I ib (by omega))).trans C.o.rd.c5,λ i hi=>(LD (w:=w2) (a:=⟨g,i,none⟩) (I g (by omega))).trans (C.o.rd.at_ i hi),bK,hg⟩,?_,LI _ _ _ d1,by rw[LH];exact f1,by simpa[LO]using C.o.b0,C.o.b1⟩;rw[LF (h:=by intro e;injection e;omega)];exact C.o.c0
  have aT:QQ (w.grownBy (w2.setCell ⟨rb,1,none⟩ (.int .i64 (Q:Int))) (some rb)):=by
   have h:=(NB 0 w2).setCell (p:=⟨rb,1,none⟩) zL (.int .i64 (Q:Int));refine⟨h.os.trans F.o.os,h.tape.trans F.o.tape,h.output.trans F.o.output,by simpa[LO]using F.o.size,λ k I bN=>(iC w2 rb 1 _ (λ e=>bN (by rw[e]))).trans (F.o.block k I)⟩
  clear aO hcut D aL V U F X C;go_wp2;go_ret2;exact⟨vt,rfl,by rw[ET.o];exact aW.o,by rw[EC.o];exact aR.o,aT.o⟩
section
variable {B p q:Nat}{w w':tW}{O:Nat->Nat}{cs:List wX}{vb:Nat->tV}{bc:Nat->List tV}{T:Nat->List (Int×Int×Int)}
theorem ID(l:List wX)(t:wX):Ny (l++[t])=Ny l++t.cells:=by unfold Ny;simp
theorem Ju:∀(l:List wX)(j:Nat)(t:wX),l[j]?=some t->(Ny l)[j*2]?=some (.pointer (some ⟨t.cb,0,none⟩))/\(Ny l)[j*2+1]?=some (.pointer (some ⟨t.rb,0,none⟩))
 | [],j,t,h=>by simp at h
 | x::l,0,t,h=>by
  have e:=sJ h
  subst e;exact⟨rfl,rfl⟩
 | x::l,j+1,t,h=>by
  have:=Ju l j t (by simpa using h);have e:Ny (x::l)=.pointer (some ⟨x.cb,0,none⟩):: .pointer (some ⟨x.rb,0,none⟩)::Ny l:=rfl;rw[e,show(j+1)*2=j*2+1+1 by omega];exact⟨by simpa using this.1,by rw[show j*2+1+1+1=(j*2+1)+1+1 by omega];simpa using this.2⟩
theorem Uo:∀(l:List wX)(j:Nat)(t t':wX),l[j]?=some t->t'.cells=t.cells->Ny (l.set j t')=Ny l
 | [],j,t,t',h,_=>by simp at h
 | x::l,0,t,t',h,e=>by
  have o:=sJ h
  subst o;show t'.cells++Ny l=x.cells++Ny l;rw[e]
 | x::l,j+1,t,t',h,e=>by
  show x.cells++Ny (l.set j t')=x.cells++Ny l;rw[Uo l j t t' (by simpa using h) e]
theorem PI.pushT(h:PI B p w O cs vb bc q T){w4:tW}{o:Obj}{g aJ n:Nat}{t:wX}{v0:tV}(hn:cs.length=n)(bO:vb 0=v0)
  (J:w4.ownsRow (B+1) 96 2 (.slice (some ⟨g,0,none⟩) (n+1) aJ) (n+1) (Ny cs++t.cells))
  (U:(w.alloc o).grownBy w4 v0.ownBlock) (aL:v0.ownBlock=some g\/g=w.heap.size+1) (ht:TW w O n t) (bN:B<t.lo/\B<t.lo2):
  PI B p (w4.setCell ⟨B,0,none⟩ (.slice (some ⟨g,0,none⟩) (n+1) aJ)) (λ k=>if k=g then 2 else O k) (cs++[t]) (Y1 vb 0 (.slice (some ⟨g,0,none⟩) (n+1) aJ)) bc q T:=by
 subst hn bO;obtain⟨o1,b1⟩:=h.wt;have bT:=U.size;have ez:(w.alloc o).heap.size=w.heap.size+1:=by simp
 have bS:=(J.lt g rfl).2;have cF:(w4.setCell ⟨B,0,none⟩ (.slice (some ⟨g,0,none⟩) (cs.length+1) aJ)).heap.size=w4.heap.size:=by simp[LO]
 have bM:g<w.heap.size->O g=2:=λ hg=>by
  rcases aL with e|e
  ·exact h.bt 0 g (by omega) e
  ·omega
 have D:∀k,k<w.heap.size->O k≠1->O k≠2->(w4.setCell ⟨B,0,none⟩ (.slice (some ⟨g,0,none⟩) (cs.length+1) aJ)).heap[k]?=w.heap[k]? /\(if k=g then 2 else O k)=O k:=λ k C bK Y=>by
  have aW:k≠B:=λ e=>bK (by rw[e];exact o1)
  have bC:k≠g:=λ e=>Y (by rw[e];exact bM (by omega))
  refine⟨(iC w4 B 0 _ aW).trans ((U.block k (by omega) (λ e=>Y (h.bt 0 k (by omega) e.symm))).trans (MB w o k C)),aA bC⟩
 have Q:w4.heap[B]?=w.heap[B]? :=(U.block B (by omega) (λ e=>by have:=h.bt 0 B (by omega) e.symm;omega)).trans (MB w o B b1);have aO:g≠B:=by have:=(J.lt g rfl).1;omega
 refine⟨λ f' I=>?_,λ i=>by rw[LH];exact(LQ (w:=w) (a:=⟨B,i,none⟩) Q).trans (h.wz i),⟨(aA (Ne.symm aO)).trans o1,by omega⟩,?_,λ f' a1 X=>?_,λ f' k I C=>?_,λ f' i u a1 X aR V=>?_,λ j u F V=>?_,λ j u F V=>?_,λ j t' F=>?_,λ k C=>?_,λ j t' F=>?_⟩
 ·by_cases e:f'=0
  ·subst e;rw[iY];exact LI _ _ _ ((LD (w:=w) (a:=⟨B,0,none⟩) Q).trans (h.wb 0 I))
  ·rw[gZ _ _ e,LF (h:=by intro e';injection e';omega)];exact(LD (w:=w) (a:=⟨B,f',none⟩) Q).trans (h.wb f' I)
 ·rw[iY,ID,LS,MJ];exact QO J (show B<B+1 by omega) _
 ·rw[gZ _ _ (by omega)];exact iH (h.bk f' a1 X) (λ k C=>(D k (h.own X C).2 (by have:=h.bt f' k X C;omega) (by have:=h.bt f' k X C;omega)).1)
 ·by_cases e:f'=0
  ·subst e;rw[iY]at C;have aT:g=k:=by simpa[MH]using C
   rw[aB aT.symm]
  ·rw[gZ _ _ e]at C;have:=h.bt f' k I C;rw[(D k (h.own I C).2 (by omega) (by omega)).2];exact this
 ·exact(h.mm f' i u a1 X aR V).keep (by omega) (λ k C ho=>D k C (by omega) (by omega))
 ·exact(h.wa j u F V).keep (λ k C ho=>D k C (by omega) (by omega))
 ·exact(h.we j u F V).keep (λ k C ho=>D k C (by omega) (by omega))
 ·have Z:∀j u,TW w O j u->TW (w4.setCell ⟨B,0,none⟩ (.slice (some ⟨g,0,none⟩) (cs.length+1) aJ)) (λ k=>if k=g then 2 else O k) j u:=λ j u V=>V.keep (by omega) (λ k C ho=>D k C (by omega) (by omega))
  by_cases hi:j<cs.length
  ·rw[MT hi]at F;exact Z j t' (h.cu j t' F)
  ·have hl:=(LJ.1 F).1;rw[LS,MJ]at hl;have ei:j=cs.length:=by omega
   subst ei;rw[MC lR,OI]at F;have eu:=sJ F
   subst eu;exact Z _ _ ht
 ·rw[aA (by omega)];exact h.fr k (by omega)
 ·by_cases hi:j<cs.length
  ·rw[MT hi]at F;exact h.cl j t' F
  ·have hl:=(LJ.1 F).1;rw[LS,MJ]at hl;have ei:j=cs.length:=by omega
   subst ei;rw[MC lR,OI]at F;have eu:=sJ F
   subst eu;exact bN
theorem PI.swap(h:PI B p w O cs vb bc q T){j:Nat}{t t':wX}(V:cs[j]?=some t)(hc:t'.cells=t.cells)(X:w.heap.size<=w'.heap.size)(U:∀k,k<w.heap.size->O k≠0->O k≠19+4*j->w'.heap[k]?=w.heap[k]?)(ht:TW w' O j t')(J:t'.lo=t.lo/\t'.lo2=t.lo2):PI B p w' O (cs.set j t') vb bc q T:=by
 have C:∀k,k<w.heap.size->O k≠0->O k≠19+4*j->w'.heap[k]?=w.heap[k]? /\O k=O k:=λ k I D h3=>⟨U k I D h3,rfl⟩
 obtain⟨o1,b1⟩:=h.wt;have e1:=U B b1 (by omega) (by omega);refine⟨λ f hf=>(LD (w:=w) (a:=⟨B,f,none⟩) e1).trans (h.wb f hf),λ i=>(LQ (w:=w) (a:=⟨B,i,none⟩) e1).trans (h.wz i),⟨o1,LK b1 X⟩,?_,
  λ f I D=>iH (h.bk f I D) (λ k o=>U k (h.own D o).2 (by have:=h.bt f k D o;omega) (by have:=h.bt f k D o;omega)),h.bt,
  λ f i v I D hi Q=>(h.mm f i v I D hi Q).keep X (λ k o ho=>C k o (by omega) (by omega)),
  λ j' v F Q=>(h.wa j' v F Q).keep (λ k o ho=>C k o (by omega) (by omega)),
  λ j' v F Q=>(h.we j' v F Q).keep (λ k o ho=>C k o (by omega) (by omega)),λ i u hi=>?_,λ k o=>h.fr k (NF X o),λ i u hi=>?_⟩
 ·rw[QG,Uo cs j t t' V hc];exact iH h.b0 (λ k o=>U k (h.own (by omega) o).2 (by have:=h.bt 0 k (by omega) o;omega) (by have:=h.bt 0 k (by omega) o;omega))
 ·by_cases e:i=j
  ·subst e;rw[OH (LJ.1 V).1]at hi;have Z:=sJ hi
   subst Z;exact ht
  ·rw[OL (λ Y=>e Y.symm)]at hi;exact(h.cu i u hi).keep X (λ k o ho=>C k o (by omega) (by omega))
 ·by_cases e:i=j
  ·subst e;rw[OH (LJ.1 V).1]at hi;have Z:=sJ hi
   subst Z;rw[J.1,J.2];exact h.cl i t V
  ·rw[OL (λ Y=>e Y.symm)]at hi;exact h.cl i u hi
theorem PI.tagI(h:PI B p w O cs vb bc q T){lo:Nat}(t:Nat)(o:∀k,lo<=k->O k=0):PI B p w (λ k=>if lo<=k/\k<w.heap.size then t else O k) cs vb bc q T:=
 h.keep lR (λ k _ C=>⟨rfl,aA (λ e=>C (o k e.1))⟩) (λ k D=>by
  have:¬(lo<=k/\k<w.heap.size):=λ e=>by omega
  simp only[aA this];exact h.fr k D)
end
theorem bV:(Tryz.prog.info? 5).map (λ i=>(i.zero,i.size,i.bytes))=some (some (.int .u8 0),1,1):=by kernel_rfl
theorem JP(n:Nat):(QV (MM .u8 0).cells (n*1)).toList=(ME n (0:UInt8)).map (λ b=>MM .u8 (b.toNat:Int)):=by
 have h:∀i:Nat,(MM .u8 0).cells[i%(MM .u8 0).cells.size]! =MM .u8 0:=by
  intro i;have e:i%(MM .u8 0).cells.size=0:=by simp[PV,QL]
  rw[e];simp[PV]
 unfold QV;rw[Nat.mul_one];simp only[h,Array.toList_map,Array.toList_range];rw[List.map_replicate,List.eq_replicate_iff];exact⟨by simp,by intro b o;simp at o;exact o.2.symm⟩
theorem FA:(QV (MM .u8 0).cells (256*1)).toList=(ME 256 (0:UInt8)).map (λ b=>MM .u8 (b.toNat:Int)):=JP 256
theorem IG(w1:tW)(B aH:Nat)(o:w1.ownsRow aH 5 1 (.slice (some ⟨B,0,none⟩) 256 256) 256 (QV (MM .u8 0).cells (256*1)).toList):
  (convert 116 9 (.slice (some ⟨B,0,none⟩) 256 256)).run LM w1=.ok (.string Zs) w1:=by
 have h:=run_convert_bytes_back (P:=LM) w1 116 9 5 ⟨B,0,none⟩ 256 (ME 256 (0:UInt8)) underlying116 underlying5 underlying9 (λ j C=>by
  refine o.cells (g:=B) rfl j _ ?_;rw[FA,MD,LR C];rfl)
 rw[PT]at h;exact h
theorem Yi(w:tW):RC LM 28 #[] w λ e w'=>e=.returned (.string SM)/\Bl w w':=by
 obtain⟨i0,hi,D,F,I⟩:=QU bV;have J:QQ (Tryz.prog.info? 5=some i0/\i0.zero=some (.int .u8 0)/\i0.size=1/\i0.bytes=1):=⟨hi,D,F,I⟩
 clear hi D F I;go_enter func28,ntmps28;go_wp2_with (at_make;refine wpList_make_full w rfl _ _ 116 rfl w.heap.size 5 i0 (.int .u8 0) 1 underlying116 J.o.1 J.o.2.1 J.o.2.2.1 .i64 .i64 256 256 256 rfl rfl rfl rfl (by rw[J.o.2.2.2];decide) (by unfold RA;omega) lR ?_;intro w1 C hg;have Q:=IG w1 _ _ C;clear C);go_ret;refine⟨?_,bR.grown hg lR (λ k U=>by cases U)⟩;rw[<-Yj];rfl
theorem F3(x:Int)(w:tW):RC LM 9 #[.int .i64 x] w λ e w'=>e=.returned (.int .i64 x)/\w'=w:=by
 go_enter func9,ntmps9;go_wp2;go_ret;exact⟨rfl,rfl⟩
theorem fL:(Tryz.prog.info? 96).map (λ i=>(i.zero,i.size,i.bytes))=some (some (.agg #[.pointer none,.pointer none]),2,16):=by kernel_rfl
def Zq(B p q:Nat)(w:tW)(cs:List wX)(bc:Nat->List tV)(T:Nat->List (Int×Int×Int))(e:Ending)(w':tW):Prop:=
 e=.returned (.bool true)/\∃O' o C,PI B p w' O' o C bc q T/\o.length<=cs.length+1/\Below B w w'
theorem Lt{p q:Nat}{w:tW}{O:Nat->Nat}{cs:List wX}{vb:Nat->tV}{bc:Nat->List tV}{T:Nat->List (Int×Int×Int)}(h:PI B p w O cs vb bc q T)(s:tB)(hs:s.size<=RA)(eR:cs.length<=5864062014800):
  RC LM 60 #[.pointer (some ⟨B,0,none⟩),.string s] w (Zq B p q w cs bc T):=by
 have bC:=h.wt.2;have HH:=fV h;clear h;by_cases Y:s.size<=120000/\iF s=true
 ·go_enter func60,ntmps60;go_wp2_with fail;refine(Gz s _).mono ?_;rintro e w1 ⟨V,⟨bM,_⟩|⟨_,_,cb,bb,vg,aU,yb,zb,rfl,bT⟩⟩
  ·exact absurd Y bM
  have I:=fV V;have aO:=fV bT;clear V bT;go_wp2_with fail;refine(He s _ hs).mono ?_;rintro e w2 ⟨D,⟨bM,_⟩|⟨_,_,rb,ib,g,aJ,rfl,bN⟩⟩
  ·exact absurd Y bM
  have eS:=I.o.size;have eT:=D.size;have Q:=fV (I.o.trans (D.mono eS));have J:=(HH.o.below Q.o).tagI (lo:=w.heap.size) (19+4*cs.length) (λ k hk=>HH.o.fr k hk);have X:=aO.o.blocks (w':=w2) (λ k h1 J=>D.block k (by have:=aO.o.b0;omega)) eT;have eN:QQ (TW w2 (λ k=>if w.heap.size<=k/\k<w2.heap.size then 19+4*cs.length else O k) cs.length ⟨cb,w.heap.size,bb,vg,aU,yb,zb,rb,w1.heap.size,ib,g,aJ,s,0⟩):=
   ⟨X,bN,λ k h1 J=>aB ⟨h1,by have J:k<=cb:=J;have:=X.b0;omega⟩,λ k h1 J=>aB ⟨by have h1:w1.heap.size<=k:=h1;omega,by have J:k<=rb:=J;have:=bN.b0;omega⟩,aO.o.b0⟩
  have aW:=fV J;have U:=J.b0;have c0:=J.wb 0 (by omega);have f0:=J.wz 0;obtain⟨a0,k0,e0⟩:=gA U;obtain⟨n,en⟩:=xE (cs.length)
  rw[en]at e0 U eR;rw[e0]at c0 U;have cP:=fV e0;have bO:=fV U;have aT:QQ (∀k,(MZ a0 n k0).ownBlock=some k->B+1<=k):=λ k hk=>(bO.o.lt k hk).1
  have HN:=fV en;have bK:B<w2.heap.size:=by omega
  clear J X bN D U e0 HH aO en;go_wp2_with (first
   | (go_at_call 9;refine(F3 0 _).mono ?_;rintro e w3 ⟨rfl,aL⟩;rw[aL];clear aL)
   | (at_builtin;refine sH w2 rfl (.tmp 36) (.tmp 40) 88 rfl (B+1) 96 (.agg #[.pointer none,.pointer none]) 2 16 underlying88 fL rfl (by decide) (by decide) (.slice a0 n k0) n (Ny cs) [.pointer (some ⟨cb,0,none⟩),.pointer (some ⟨rb,0,none⟩)] _ rfl bO.o _ rfl rfl rfl (by simp[MG]) (by omega) (by omega) ?_;intro g4 cap4 w4 Z C aR eX;have m4:=((gH C (k:=B) bK (λ e=>by have:=aT.o B e.symm;omega)).1 0).trans c0;have n4:=((gH C (k:=B) bK (λ e=>by have:=aT.o B e.symm;omega)).2 0).trans f0;have eL:=fV Z;have bS:=fV C;have cF:=fV aR;clear Z C aR))
  have eM:=fV (aW.o.pushT (t:=⟨cb,w.heap.size,bb,vg,aU,yb,zb,rb,w1.heap.size,ib,g,aJ,s,0⟩) HN.o cP.o eL.o bS.o cF.o (by have:=eN.o;rw[HN.o]at this ⊢;exact this) ⟨bC,by show B<w1.heap.size;omega⟩);have cN:QQ (Below B w (w4.setCell ⟨B,0,none⟩ (.slice (some ⟨g4,0,none⟩) (n+1) cap4))):=((Q.o.mono (MV bC)).trans (yX bS.o (λ k hk=>NF (NK _) (aT.o k hk)) (MV bK))).setCell (p:=⟨B,0,none⟩) lR _;clear c0 f0 m4 n4;go_ret;exact⟨rfl,_,_,_,eM.o,by rw[LS,MJ];exact lR,cN.o⟩
 ·have eO:=i6 Y;have gL:=fV eO;go_enter func60,ntmps60;go_wp2_with fail;refine(Gz s _).mono ?_;rintro e w1 ⟨V,F⟩;obtain⟨_,rfl⟩:=F.resolve_right (λ h=>Y ⟨h.1,h.2.1⟩);have I:=fV V;clear V;go_wp2_with fail;refine(He s _ hs).mono ?_;rintro e w2 ⟨D,F⟩;obtain⟨_,rfl⟩:=F.resolve_right (λ h=>Y ⟨h.1,h.2.1⟩);have Q:=fV (I.o.trans (D.mono I.o.size));have aW:=fV (HH.o.below Q.o);clear D I;generalize (G5 s:Int)=ck at*;go_wp2_with (first|(go_at_call 9;refine(F3 ck _).mono ?_;rintro e w3 ⟨rfl,aL⟩;rw[aL];clear aL));go_ret;exact⟨rfl,_,_,_,aW.o,NK _,Q.o.mono (MV bC)⟩
