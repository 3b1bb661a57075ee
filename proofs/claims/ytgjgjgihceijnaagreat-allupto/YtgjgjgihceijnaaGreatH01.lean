import Derived.WalkKit
import Derived.WalkSpells
import Derived.WalkLawsBesides
import Derived.Deep.MidRow
import Derived.Deep.WholeRow
import Derived.Laws.ResultCell
import Derived.Deep.AppendLies
import Derived.Deep.AppendSrc
import Derived.Test.YtgjgjgihceijnaaGreatChecked
import Derived.Deep.QuietTactic
import Derived.Deep.LoopGhost
import Derived.BigQuiet
import Derived.Laws.StructEq
import Derived.Deep.CutBlock
import Derived.Deep.RegionLaw
import Derived.Laws.Tables
import Derived.Great.BuildSlice
import Derived.Great.Ranges
import Derived.Deep.OwnRows
import Derived.Deep.DrawnRows
import Derived.Deep.RegionHeld3
import Derived.Deep.RegionWith
open Go.RowKit renaming ownsRow_setCell_below->QN,intOf->QO,Hid->QP
open Go renaming wpList_load_mid->QQ,wpList_store_mid->QR,all_oneCell_toArray->QS,info_parts->QT,madeCells->QU,heap_alloc_new->QV,wpList_make_own->QW,wpList_append_lies->QX,run_loadVar_mid->QY,maxLen->QZ,Calls->RA
open Go.World renaming cell?_of_block->LC,cell?_setCell_other->LD,frozen?_setCell->LG,cell?_setCell_same->LH,setCell->LN,cell?_alloc_new->LO,frozen?_of_block->LP,ownsRow_nil->LS,rangeAt_setCells_same->LY,frozen?_alloc_new->MJ,cell?_alloc_past->MV,grownBy_alloc->OB,frozen?_alloc_past->OC,there_setCells->OL,news_of_block->OR,cell?_alloc_at->PV,there_alloc->QA
open Go.Proofs.Tryz renaming zeroCells72->LF,prog->LK,zeroCells141->LZ,underlying72->MO,underlying29->MW,ntmps111->NB,underlying59->ND,func111->NF,underlying222->NH,zeroCells154->NT,results24->OU,ntmps118->OY,ntmps80->PF,func118->PG,ntmps88->PH
open List renaming getElem?_eq_some_iff->LI,getElem?_eq_getElem->LQ,length_append->LR,getElem?_append_right->MB,getElem?_map->MC,replicate->MD,range->MH,length_singleton->MI,getElem?_range->MM,map_congr_left->MN,mem_singleton->MR,getElem?_append_left->MS,mem_append->MT,getElem?_cons_succ->NC,getElem?_cons_zero->NK,range_succ_eq_map->NN,map_cons->NO,singleton_append->NQ,contains_iff_mem->NR,append_assoc->NS,length_cons->NY,map_append->OD,getElem?_set_self->OG,not_mem_nil->OH,getElem_mem->OI,getElem?_set_ne->OK,nil_append->OM,length_nil->OO,append_nil->OP,mem_range->OS,map_toArray->OZ,mem_map->PA,map_map->PB,range_succ->PM,set_append_right->PO,length_replicate->PQ,getElem?_toArray->PT,set_cons_succ->PW,map_singleton->PX,map_nil->PY,take_add_one->PZ,length->QC,length_set->QE
open Nat renaming lt_of_lt_of_le->LJ,zero_add->LM,le_of_lt->MU,le_trans->NE,le_succ->NJ,add_mul->NM,mul_le_mul->NU,lt_succ_self->NZ,not_lt_zero->OE,sub_self->OF,mul_le_mul_right->OJ,mul_comm->PC,div_eq_of_lt->QB,mul_add_div->QD,add_comm->QI,mod_one->QK
open Array renaming length_toList->LU,getElem?_eq_some_iff->NW,getElem?_eq_getElem->OV,all_eq_true->OX,getElem?_eq_none->PE
open Go.RowKit.Below renaming heap_alloc->MA,heap_setCell->MQ,refl->MZ,alloc->QJ
open Bool renaming and_eq_true->ME,eq_iff_iff->ON,or_self->QH
open Go.Value renaming ownBlock->MF,oneCell'->MG,int->ML,slice->MY,string->NI,cells->PU,bool->QL,agg->QM
open Option renaming getD_some->NG,map_some->PN
open Int renaming natCast_add->OQ,natCast_one->QF
open UInt8 renaming toNat_inj->PK
open ByteArray renaming empty->QG
open Go.Proofs.Tryz
set_option maxRecDepth 100000
set_option maxHeartbeats 8000000
namespace Go.Stn
theorem aA.{u}{c:Prop}{h:Decidable c}(n:¬c){α:Sort u}{t e:α}:ite c t e=e:=if_neg n
theorem aB.{u}{c:Prop}{h:Decidable c}(n:c){α:Sort u}{t e:α}:ite c t e=t:=if_pos n
theorem aC{α:Type _}[BEq α][LawfulBEq α]{a b:α}:(a==b)=false↔a≠b:=beq_eq_false_iff_ne
theorem aD{α:Type _}[BEq α][LawfulBEq α]{a b:α}:(a != b)=true↔a≠b:=bne_iff_ne
theorem aE{p:Prop}[Decidable p]:(decide p=true)=p:=decide_eq_true_eq
theorem aF{p:Prop}[Decidable p]:decide p=false↔¬p:=decide_eq_false_iff_not
open Go.RowKit
abbrev Bl(w v:World):Prop:=Below w.heap.size w v
theorem _root_.Go.RowKit.Hid.o{p:Prop}(h:QP p):p:=h
theorem dT(a b:Nat)(h:a<b):decide ((a:Int)<(b:Int))=true:=by simp;omega
theorem dF(a b:Nat)(h:b<=a):decide ((a:Int)<(b:Int))=false:=by simp;omega
theorem iI(a b:Nat)(h:a<b):(0:Int)<=(a:Int)/\(a:Int)<(b:Int):=by omega
theorem sE{a:Nat}(h:0<a):∃d,a=d+1:=⟨a-1,by omega⟩
theorem xE{α:Sort _}(a:α):∃x,a=x:=⟨_,rfl⟩
theorem sJ{α:Type _}{a b:α}(h:some a=some b):a=b:=Option.some.inj h
theorem lR{a:Nat}:a<=a:=Nat.le_refl a
theorem zL{a:Nat}:0<=a:=Nat.zero_le a
theorem bR{B:Nat}{w:World}:Below B w w:=MZ _ _
abbrev tB:=ByteArray
abbrev tW:=World
abbrev tV:=Value
variable {b n B aH size i j aX aM c lo hi ru cl g p d st f bb vg top st' i' L:Nat}{ty e:TypeId}{P:Program}{a:Act}{r:Option Nat}{ops:Array Oper}{rest:List Oper}{op:Oper}{most m:Int}{zs:List ((Nat×List Int)×Nat)}{H S T:List (Int×Int×Int)}{l:List Nat}
def gQ(f:Nat->Bool):List tV:=(MH 256).map λ i=>QL (f i)
theorem gP(f:Nat->Bool):(gQ f).length=256:=by simp[gQ]
theorem iJ(f:Nat->Bool):(gQ f).toArray.size=256:=by simp[gQ]
theorem wH(f:Nat->Bool)(k:Nat)(h:k<256):(gQ f)[k]?=some (.bool (f k)):=by
 unfold gQ;rw[MC,MM h];rfl
theorem mD(f:Nat->Bool):∀v∈gQ f,v.oneCell'=true:=by
 intro v o;unfold gQ at o;rw[PA]at o;obtain⟨i,_,rfl⟩:=o
 rfl
theorem tS{f g:Nat->Bool}(h:∀i,i<256->f i=g i):gQ f=gQ g:=by
 unfold gQ;exact MN (λ i hi=>by rw[h i (OS.1 hi)])
theorem Z6{w:tW}{f:Nat->Bool}(h:w.rangeAt b 0 (gQ f)){k:Nat}(F:k<256)(v:Bool):(w.setCell ⟨b,k,none⟩ (.bool v)).rangeAt b 0 (gQ λ i=>if i=k then v else f i):=by
 intro j u o;have C:j<256:=by have:=(LI.1 o).1;rw[gP]at this;exact this
 rw[wH _ _ C]at o;injection o with o;by_cases e:j=k
 ·subst e;rw[<-o,aB rfl,LM];have:=h j _ (wH f j C);rw[LM]at this;exact LH _ _ _ this
 ·rw[<-o,aA e,LM,LD (h:=by intro D;injection D;omega)];have:=h j _ (wH f j C);rw[LM]at this;exact this
theorem pJ{w:tW}{o:Nat}(h:w.there b o n)(a:Addr)(v:tV):(w.setCell a v).there b o n:=by
 intro j J;obtain⟨D,I⟩:=h j J;refine⟨?_,by rw[LG];exact I⟩;obtain⟨u,F⟩:=Option.isSome_iff_exists.1 D;obtain⟨Q,C⟩:=cell?_setCell_some (p:=a) (x:=v) F;rw[C];rfl
theorem sB{w w':tW}{o:Nat}(h:w.there b o n)(C:Below B w w')(D:b<B):w'.there b o n:=by
 intro j J;obtain⟨F,I⟩:=h j J;exact⟨by rw[C.cell (p:=⟨b,o+j,none⟩) D];exact F,by rw[C.frozen (p:=⟨b,o+j,none⟩) D];exact I⟩
theorem nB{w w':tW}{o:Nat}{cs:List tV}(h:w.rangeAt b o cs)(C:Below B w w')(F:b<B):w'.rangeAt b o cs:=by
 intro j v D;rw[C.cell (p:=⟨b,o+j,none⟩) F];exact h j v D
theorem Ve(w:tW)(c:Array tV)(t:TypeId):(w.alloc (.cells c t)).there w.heap.size 0 c.size:=by
 intro j o;rw[LM,LO,MJ];exact⟨by simp[o],rfl⟩
theorem oY(w:tW)(cs:List tV)(t:TypeId)(n:Nat)(h:cs.length=n):(w.alloc (.cells cs.toArray t)).there w.heap.size 0 n:=by
 intro j o;rw[LM,LO,MJ];exact⟨by simp;omega,rfl⟩
theorem zF(w:tW)(cs:List tV)(t:TypeId):(w.alloc (.cells cs.toArray t)).rangeAt w.heap.size 0 cs:=by
 intro j v o;rw[LM,LO];simpa using o
theorem iD(w:tW)(c:Array tV)(t:TypeId)(B n:Nat)(h:c.size=n)(o:w.heap.size=B):(w.alloc (.cells c t)).there B 0 n:=by
 subst o;subst h;exact Ve w c t
theorem mA(w:tW)(c:Array tV)(t:TypeId):(w.alloc (.cells c t)).rangeAt w.heap.size 0 c.toList:=by
 intro j v o;rw[LM,LO];simpa using o
theorem Fh{C:Func}{p:Tmp}(h:C.results= #[.cell p ty])(o:Array tV)(P:Program)(w:tW):
  (results C o).run P w=((asAddr (o.getD p undef)).run P w).andThen λ a D=>(loadVar ty a).run P D:=by
 simp only[results,h];simp[Sem.run_bind,Result.andThen]
theorem lE{D:Func}{R:Ending->tW->Prop}{w:tW}{p:Tmp}(h:D.results= #[.cell p ty])(b o:Nat)(cs:List tV)(d:TypeDesc)
  (I:a.tmps.getD p undef=.pointer (some ⟨b,o,none⟩)) (U:w.rangeAt b o cs) (J:P.underlying ty=some d) (F:d.isRow=true) (hi:(P.info? ty).map (·.size)=some cs.length)
  (C:a.defers=[]) (Q:R (.returned (.agg cs.toArray)) w):bodyPost P D R .ret a w:=by
 refine bodyPost_ret (v:= .agg cs.toArray) ?_ C Q;rw[Fh h,I];simp[Result.andThen,asAddr,QY w b o ty cs d U J F hi]
theorem jH{D:Func}{R:Ending->tW->Prop}{w:tW}{p u:Tmp}(h:D.results= #[.cell p ty,.tmp u])(b o:Nat)(cs:List tV)(d:TypeDesc)(v:tV)
  (F:a.tmps.getD p undef=.pointer (some ⟨b,o,none⟩)) (U:a.tmps.getD u undef=v) (V:w.rangeAt b o cs) (Q:P.underlying ty=some d) (I:d.isRow=true) (hi:(P.info? ty).map (·.size)=some cs.length)
  (C:a.defers=[]) (J:R (.returned (.tuple #[.agg cs.toArray,v])) w):bodyPost P D R .ret a w:=by
 refine bodyPost_ret (v:= .tuple #[.agg cs.toArray,v]) ?_ C J;rw[results_cell_tmp h,F,U];simp[Result.andThen,asAddr,QY w b o ty cs d V Q I hi]
theorem gD{a b c:tW}(h:a.grownBy b r)(k:b.grownBy c r):a.grownBy c r:=
 ⟨k.os.trans h.os,k.tape.trans h.tape,k.output.trans h.output,NE h.size k.size,λ i hi o=>(k.block i (LJ hi h.size) o).trans (h.block i hi o)⟩
theorem jZ{a w:tW}(h:a.grownBy w r)(n:Nat):a.grownBy (w.drewN n) r:=⟨h.os,h.tape,h.output,h.size,h.block⟩
theorem lO{a w:tW}(h:a.grownBy w (some b))(i:Nat)(v:tV):a.grownBy (w.setCell ⟨b,i,none⟩ v) (some b):=
 ⟨h.os,h.tape,h.output,by have:=h.size;simp[LN];omega,λ k C o=>(MQ w ⟨b,i,none⟩ v k (by intro e;exact o (by rw[e]))).trans (h.block k C o)⟩
theorem Lr{a w:tW}(h:a.grownBy w (some b))(C:b<=a.heap.size):Below b a w:=
 ⟨h.os,h.tape,h.output,h.size,λ k o=>h.block k (by omega) (by intro e;injection e;omega)⟩
theorem fY{w w':tW}{o:Nat}{cs:List tV}(h:w.rangeAt b o cs)(D:w'.heap[b]?=w.heap[b]?):w'.rangeAt b o cs:=λ j v C=>by
 rw[LC (w:=w) D];exact h j v C
theorem gK{w w':tW}{o:Nat}(h:w.there b o n)(C:w'.heap[b]?=w.heap[b]?):w'.there b o n:=λ j D=>by
 rw[LC (w:=w) C,LP (w:=w) C];exact h j D
theorem xM{w:tW}{Q:Exit->Act->tW->Prop}(C:op.guard=none)(ty:TypeId)(x y:Operand)(I:op.op=.store ty x y)
  (b o:Nat) (f:Nat->Bool) (D:a.eval x=.pointer (some ⟨b,o,none⟩)) (J:a.eval y=.agg (gQ f).toArray) (F:w.there b o 256) (hi:(P.info? ty).map (·.size)=some 256)
  (h:wpList P ops Q rest (a.put op.dst undef) (w.setCells b o (gQ f))):wpList P ops Q (op::rest) a w:=
 QR C ty x y I b o (gQ f).toArray D J (by rw[iJ];exact F) (by rw[iJ];exact hi) (QS (mD f)) h
theorem Y2{w:tW}{Q:Exit->Act->tW->Prop}(C:op.guard=none)(ty:TypeId)(x:Operand)(U:op.op=.load ty x)
  (b o:Nat) (f:Nat->Bool) (d:TypeDesc) (I:a.eval x=.pointer (some ⟨b,o,none⟩)) (J:w.rangeAt b o (gQ f)) (F:P.underlying ty=some d) (D:d.isRow=true) (hi:(P.info? ty).map (·.size)=some 256)
  (h:wpList P ops Q rest (a.put op.dst (.agg (gQ f).toArray)) w):wpList P ops Q (op::rest) a w:=
 QQ C ty x U b o I (gQ f) d J F D (by rw[gP];exact hi) h
def X6(X:tW)(B:Nat):Nat->Bool:=λ i=>match X.cell? ⟨B,i,none⟩with
 | some (.bool b)=>b
 | _=>false
def Rk(X:tW)(B:Nat):Prop:=X.rangeAt B 0 (gQ (X6 X B))
theorem Xi{X:tW}{f:Nat->Bool}(h:X.rangeAt B 0 (gQ f)):gQ (X6 X B)=gQ f/\Rk X B:=by
 have e:gQ (X6 X B)=gQ f:=tS (λ i hi=>by
  have:=h i _ (wH f i hi);rw[LM]at this;unfold X6;rw[this])
 exact⟨e,by unfold Rk;rw[e];exact h⟩
theorem gA{w:tW}{v:tV}{xs:List tV}(h:w.ownsRow aH e size v n xs):∃a aJ,v=.slice a n aJ:=by
 rcases h.2 with⟨rfl,rfl⟩|⟨g,aJ,_,rfl,_⟩
 ·exact⟨none,0,rfl⟩
 ·exact⟨_,aJ,rfl⟩
theorem gH{W w4:tW}{o:Obj}(hg:(W.alloc o).grownBy w4 r){k:Nat}(D:k<W.heap.size)(F:some k≠r):(∀i,w4.cell? ⟨k,i,none⟩=W.cell? ⟨k,i,none⟩)/\∀i,w4.frozen? ⟨k,i,none⟩=W.frozen? ⟨k,i,none⟩:=by
 have C:w4.heap[k]?=W.heap[k]? :=(hg.block k (by simp;omega) F).trans (MA W o k D);exact⟨λ i=>LC (w:=W) (a:=⟨k,i,none⟩) C,λ i=>LP (w:=W) (a:=⟨k,i,none⟩) C⟩
theorem kA{a w:tW}(h:a.grownBy w r)(o:Obj):a.grownBy (w.alloc o) r:=gD h (OB w o r)
theorem iQ{a w:tW}(h:Below B a w)(C:a.heap.size<=B)(r:Option Nat):a.grownBy w r:=⟨h.os,h.tape,h.output,h.size,λ k o _=>h.block k (by omega)⟩
theorem fX{a:tW}:∀(vs:List tV)(o:Nat)(w:tW)(b:Nat),Below B a w->B<=b->Below B a (w.setCells b o vs):=by
 intro vs
 induction vs with
 | nil=>intro o w b h _;exact h
 | cons v r ih=>intro o w b h C;exact ih (o+1) _ b (h.setCell (p:=⟨b,o,none⟩) C v) C
theorem oI{a w:tW}(h:a.grownBy w r)(b o:Nat)(vs:List tV)(I:a.heap.size<=b):a.grownBy (w.setCells b o vs) r:=by
 have C:Below a.heap.size w (w.setCells b o vs):=fX vs o w b bR I;exact⟨C.os.trans h.os,C.tape.trans h.tape,C.output.trans h.output,NE h.size C.size,λ k D F=>(C.block k D).trans (h.block k D F)⟩
theorem gB(w:tW){ops:Array Oper}{rest:List Oper}{o:Oper}{a:Act}{Q:Exit->Act->tW->Prop}(Z:o.guard=none)(s x:Operand)(t:TypeId)
  (ho:o.op=.call {callee:= .builtin .append,args:= #[s,x],argTypes:= #[t,t]})
  (aH:Nat) (e:TypeId) (z:tV) (size C:Nat) (ht:P.underlying t=some (.slice e)) (F:(P.info? e).map (λ i=>(i.zero,i.size,i.bytes))=some (some z,size,C))
  (U:z.cells.size=size) (V:0<size) (X:C<=1000)
  (v:tV) (n:Nat) (xs:List tV) (cs:List tV) (J:TypeId) (hs:a.eval s=v) (I:w.ownsRow aH e size v n xs)
  (B:Nat) (hB:w.heap.size=B) (hx:a.eval x=.slice (some ⟨B,0,none⟩) 1 1) (hl:cs.length=size) (h1:∀u∈cs,u.oneCell'=true)
  (hn:n<=1000000000) (Y:aH<=w.heap.size)
  (h:∀g aJ w',w'.ownsRow aH e size (.slice (some ⟨g,0,none⟩) (n+1) aJ) (n+1) (xs++cs)->(w.alloc (.cells cs.toArray J)).grownBy w' v.ownBlock->(v.ownBlock=some g\/g=w.heap.size+1)->g<w'.heap.size->
   wpList P ops Q rest (a.put o.dst (.slice (some ⟨g,0,none⟩) (n+1) aJ)) w'):wpList P ops Q (o::rest) a (w.alloc (.cells cs.toArray J)):=by
 subst hB;obtain⟨i,hi,hz,D,hb⟩:=QT F;refine QX _ Z s x t ho aH e i z size C ht hi hz D hb U V v n xs hs (I.alloc _) ⟨w.heap.size,0,none⟩ 1 1 cs hx (by omega) ?_ h1 (by omega) (by unfold QZ;omega) ?_ (by simp;omega) (w.heap.size+1) (by simp) h
 ·have:=OR (w:=w.alloc (.cells cs.toArray J)) (B:=w.heap.size) (cs:=cs.toArray) (t:=J) (fr:=(0,0)) (QV w _);simpa using this
 ·have:=NU (show n+1<=1000000001 by omega) X;omega
theorem qJ(w:tW){ops:Array Oper}{o:Oper}{a:Act}{K:Act->tW->Prop}{Q:Exit->Act->tW->Prop}{E:Prop}(Z:o.guard=none)(s x:Operand)(t:TypeId)
  (ho:o.op=.call {callee:= .builtin .append,args:= #[s,x],argTypes:= #[t,t]})
  (aH:Nat) (e:TypeId) (z:tV) (size C:Nat) (ht:P.underlying t=some (.slice e)) (F:(P.info? e).map (λ i=>(i.zero,i.size,i.bytes))=some (some z,size,C))
  (U:z.cells.size=size) (V:0<size) (X:C<=1000)
  (v:tV) (n:Nat) (xs:List tV) (cs:List tV) (J:TypeId) (hs:a.eval s=v) (I:w.ownsRow aH e size v n xs)
  (B:Nat) (hB:w.heap.size=B) (hx:a.eval x=.slice (some ⟨B,0,none⟩) 1 1) (hl:cs.length=size) (h1:∀u∈cs,u.oneCell'=true)
  (hn:n<=1000000000) (Y:aH<=w.heap.size)
  (h:∀g aJ w',w'.ownsRow aH e size (.slice (some ⟨g,0,none⟩) (n+1) aJ) (n+1) (xs++cs)->(w.alloc (.cells cs.toArray J)).grownBy w' v.ownBlock->(v.ownBlock=some g\/g=w.heap.size+1)->g<w'.heap.size->
   K (a.put o.dst (.slice (some ⟨g,0,none⟩) (n+1) aJ)) w'):if Region.wanted o (yielded ops a.tmps)=true then Oper.wp P o a (w.alloc (.cells cs.toArray J)) K Q else E:=by
 subst hB;obtain⟨i,hi,hz,D,hb⟩:=QT F;refine step_append_lies _ Z s x t ho aH e i z size C ht hi hz D hb U V v n xs hs (I.alloc _) ⟨w.heap.size,0,none⟩ 1 1 cs hx (by omega) ?_ h1 (by omega) (by unfold QZ;omega) ?_ (by simp;omega) (w.heap.size+1) (by simp) h
 ·have:=OR (w:=w.alloc (.cells cs.toArray J)) (B:=w.heap.size) (cs:=cs.toArray) (t:=J) (fr:=(0,0)) (QV w _);simpa using this
 ·have:=NU (show n+1<=1000000001 by omega) X;omega
theorem Lu(w:tW)(t ty:TypeId)(aH:Nat)(e:TypeId)(z:tV)(size o:Nat)(F:P.underlying t=some (.slice e))(C:(P.info? e).map (λ i=>(i.zero,i.size,i.bytes))=some (some z,size,o))
  (v:tV) (n:Nat) (xs:List tV) (D:w.ownsRow aH e size v n xs):(Builtin.append_ #[t,t] ty #[v,.slice none 0 0]).run P w=.ok v w:=by
 obtain⟨i,hi,hz,J,hb⟩:=QT C;rcases D.2 with⟨rfl,rfl⟩|⟨g,aJ,Z,rfl,Y,hg,X,U,V,Q⟩
 ·simp[Builtin.append_,run_underlying F,sizeOf,typeInfo,hi,Builtin.lenOf,Builtin.firstCells]
 ·have h:=run_append_room_src (P:=P) w t t ty e i F hi g 0 n aJ (.slice none 0 0) 0 [] (Src.ofNil (size:=i.size) w F 0) (by omega) (λ j I=>by simp at I) (λ j I=>by simp at I);rw[h]
  rfl
theorem Ai(w:tW){ops:Array Oper}{rest:List Oper}{o:Oper}{a:Act}{Q:Exit->Act->tW->Prop}(I:o.guard=none)(s x:Operand)(t:TypeId)
  (V:o.op=.call {callee:= .builtin .append,args:= #[s,x],argTypes:= #[t,t]})
  (aH:Nat) (e:TypeId) (z:tV) (size C:Nat) (J:P.underlying t=some (.slice e)) (D:(P.info? e).map (λ i=>(i.zero,i.size,i.bytes))=some (some z,size,C))
  (v:tV) (n:Nat) (xs:List tV) (Y:a.eval s=v) (F:w.ownsRow aH e size v n xs) (X:a.eval x=.slice none 0 0)
  (h:wpList P ops Q rest (a.put o.dst v) w):wpList P ops Q (o::rest) a w:=by
 refine wpList_plain I λ K U=>?_
 have Z:=Lu (P:=P) w t o.type aH e z size C J D v n xs F;unfold Oper.wp execOp;simp only[V,resolve,invoke,builtin,Sem.run_bind,Sem.run_pure,Result.andThen_ok,OZ,NO,PY,Y,X,Z];exact U _ _ h
theorem xS(w:tW){ops:Array Oper}{rest:List Oper}{o:Oper}{a:Act}{Q:Exit->Act->tW->Prop}(aL:o.guard=none)(s x:Operand)(t:TypeId)
  (ho:o.op=.call {callee:= .builtin .append,args:= #[s,x],argTypes:= #[t,t]})
  (aH F:Nat) (e:TypeId) (z:tV) (size C:Nat) (ht:P.underlying t=some (.slice e)) (J:(P.info? e).map (λ i=>(i.zero,i.size,i.bytes))=some (some z,size,C))
  (X:z.cells.size=size) (Y:0<size) (Z:C<=1000)
  (v:tV) (n:Nat) (xs:List tV) (sv:tV) (m:Nat) (ys:List tV) (hs:a.eval s=v) (V:w.ownsRow aH e size v n xs)
  (hx:a.eval x=sv) (D:w.ownsRow F e size sv m ys) (h1:∀u∈ys,u.oneCell'=true) (hm:0<m)
  (hn:n+m<=1000000000) (U:aH<=w.heap.size)
  (h:∀g aJ w',w'.ownsRow aH e size (.slice (some ⟨g,0,none⟩) (n+m) aJ) (n+m) (xs++ys)->w.grownBy w' v.ownBlock->(v.ownBlock=some g\/g=w.heap.size)->g<w'.heap.size->
   wpList P ops Q rest (a.put o.dst (.slice (some ⟨g,0,none⟩) (n+m) aJ)) w'):wpList P ops Q (o::rest) a w:=by
 obtain⟨i,hi,hz,I,hb⟩:=QT J;obtain⟨g,aJ,rfl,aR,aO⟩:=D.form hm;refine QX _ aL s x t ho aH e i z size C ht hi hz I hb X Y v n xs hs V ⟨g,0,none⟩ m aJ ys hx D.1 (D.cells rfl) h1 hm (by unfold QZ;omega) ?_ U _ rfl h;have:=NU hn Z;omega
theorem lU{a w w1:tW}{o:Obj}{v:tV}{xs:List tV}(h:Below B a w)(F:B<=w.heap.size)(D:w.ownsRow aH e size v n xs)(I:B<=aH)
  (hg:(w.alloc o).grownBy w1 v.ownBlock):Below B a w1:=
 (h.alloc F o).grown hg (by simp;omega) (λ k C=>by have:=D.lt k C;omega)
def bt(s:tB)(i:Nat):Nat:=(s.data.toList.getD i 0).toNat
theorem mT(s:tB)(i:Nat):bt s i<256:=by
 unfold bt;exact UInt8.toNat_lt _
theorem kM(s:tB)(i:Nat)(h:i<s.size):(s[i]).toNat=bt s i:=by
 unfold bt;have:i<s.data.toList.length:=by simpa using h
 rw[List.getD_eq_getElem?_getD,LQ this]
 rfl
def kT(s:tB)(i n:Nat)(most:Int):Bool:=
 decide (i+n<=s.size)&&decide (∀j,j<n->(bt s (i+j):Int)<=most)
theorem Hx{s:tB}(h:s.size<i+n):kT s i n most=false:=by
 unfold kT;simp;omega
theorem oD{s:tB}(h:i+n<=s.size)(o:∀j,j<n->(bt s (i+j):Int)<=most):kT s i n most=true:=by
 unfold kT;simp[h];exact o
theorem Yg{s:tB}(o:j<n)(C:most<(bt s (i+j):Int)):kT s i n most=false:=by
 unfold kT;simp only[Bool.and_eq_false_iff,aF];right;intro h;have:=h j o;omega
def G9(s:tB)(aX aM n at_:Nat):Bool:=
 decide (bt s at_<=aX)&&decide (∀k,k<aM->bt s (at_+(k+1))<n\/bt s (at_+(k+1))=255)
def rU(s:tB)(aX aM i:Nat):Bool:=
 decide (i+1<=s.size)&&(decide (bt s i<=100)&&(decide (bt s i≠0)&&(decide (i+1+bt s i*(1+aM)<=s.size) &&
  decide (∀st,st<bt s i->G9 s aX aM (bt s i) (i+1+st*(1+aM))=true))))
theorem qF{s:tB}{at_:Nat}:G9 s aX aM n at_=true↔
  bt s at_<=aX/\∀k,k<aM->bt s (at_+(k+1))<n\/bt s (at_+(k+1))=255:=by
 unfold G9;simp only[ME,aE]
theorem nG{s:tB}:rU s aX aM i=true↔
  i+1<=s.size/\bt s i<=100/\bt s i≠0/\i+1+bt s i*(1+aM)<=s.size/\
   ∀st,st<bt s i->G9 s aX aM (bt s i) (i+1+st*(1+aM))=true:=by
 unfold rU;simp only[ME,aE]
def IQ(s:tB)(aX aM i:Nat):Nat:=if rU s aX aM i=true then bt s i else 0
def tY(s:tB)(aX aM i:Nat):Nat:=if rU s aX aM i=true then i+1+bt s i*(1+aM)else i
theorem Ft{s:tB}(h:¬(rU s aX aM i=true)):
  IQ s aX aM i=0/\tY s aX aM i=i/\rU s aX aM i=false:=by
 refine⟨?_,?_,?_⟩
 ·simp[IQ,h]
 ·simp[tY,h]
 ·simpa using h
theorem Cl{s:tB}(h:rU s aX aM i=true):
  IQ s aX aM i=bt s i/\tY s aX aM i=i+1+bt s i*(1+aM):=by
 refine⟨?_,?_⟩
 ·simp[IQ,h]
 ·simp[tY,h]
def iR(s:tB):Nat:=bt s 3
def iM(s:tB):Nat:=bt s (4+iR s)
def iK(s:tB):Nat:=bt s (5+iR s)+1
def pC(s:tB):Nat->Nat
 | 0=>262+iR s
 | c+1=>tY s (iR s) (iK s) (pC s c)
def D7(s:tB):Bool:=
 decide (4<=s.size)&&(decide (bt s 0=83/\bt s 1=84/\bt s 2=1)&&(decide (1<=iR s)&&decide (iR s<=8)))
def wZ(s:tB):Bool:=kT s (4+iR s) 1 4&&decide (iM s≠0)
def zN(s:tB):Bool:=kT s 4 (iR s) (1+(iM s:Int))&&kT s (5+iR s) 1 255
def yE(s:tB):Bool:=kT s (6+iR s) 256 ((iK s:Int)-1)
def iF(s:tB):Bool:=
 D7 s&&(wZ s&&(zN s&&(yE s&&(decide (∀c,c<iM s->rU s (iR s) (iK s) (pC s c)=true)&&decide (pC s (iM s)=s.size)))))
theorem IV(s:tB):1<=iK s:=by unfold iK;omega
theorem Su(s:tB):iK s<=256:=by unfold iK;have:=mT s (5+iR s);omega
theorem mK{s:tB}:iF s=true↔
  D7 s=true/\wZ s=true/\zN s=true/\yE s=true/\(∀c,c<iM s->rU s (iR s) (iK s) (pC s c)=true)/\pC s (iM s)=s.size:=by
 unfold iF;simp only[ME,aE]
theorem pK{s:tB}:D7 s=true↔4<=s.size/\(bt s 0=83/\bt s 1=84/\bt s 2=1)/\1<=iR s/\iR s<=8:=by
 unfold D7;simp only[ME,aE]
theorem D1{s:tB}(h:rU s (iR s) (iK s) (pC s c)=true):
  pC s (c+1)=pC s c+1+bt s (pC s c)*(1+iK s)/\pC s (c+1)<=s.size:=by
 have o:pC s (c+1)=tY s (iR s) (iK s) (pC s c):=rfl;rw[o,(Cl h).2];exact⟨rfl,(nG.1 h).2.2.2.1⟩
theorem sD{s:tB}(h:kT s i n m=true):i+n<=s.size:=by
 unfold kT at h;simp only[ME,aE]at h;exact h.1
theorem yO{s:tB}(h:kT s i n m=true):∀j,j<n->(bt s (i+j):Int)<=m:=by
 unfold kT at h;simp only[ME,aE]at h;exact h.2
theorem Vr{s:tB}(h:D7 s=false):iF s=false:=by
 unfold iF;rw[h];rfl
theorem Wv{s:tB}(h:wZ s=false):iF s=false:=by
 unfold iF;rw[h];simp
theorem Yv{s:tB}(h:zN s=false):iF s=false:=by
 unfold iF;rw[h];simp
theorem Wb{s:tB}(h:yE s=false):iF s=false:=by
 unfold iF;rw[h];simp
theorem Rl{s:tB}(o:c<iM s)(h:rU s (iR s) (iK s) (pC s c)=false):iF s=false:=by
 cases hi:iF s with
 | false=>rfl
 | true=>rw[mK]at hi;rw[hi.2.2.2.2.1 c o]at h;cases h
def qW(s:tB)(c:Nat):Nat:=bt s (pC s c)
def qD(s:tB)(c st:Nat):Nat:=pC s c+1+st*(1+iK s)
def tJ(s:tB)(v:Nat):Nat:=bt s (6+iR s+v)
def iA(s:tB)(c st v:Nat):Nat:=bt s (qD s c st+1+tJ s v)
def jO(s:tB)(c st:Nat):Nat:=bt s (qD s c st)
theorem lC{s:tB}(h:iF s=true):iR s<=8/\1<=iR s/\1<=iM s/\iM s<=4/\6+iR s+256<=s.size:=by
 rw[mK]at h;have C:=pK.1 h.1;have o:=h.2.1;unfold wZ at o;simp only[ME,aE]at o;have F:=yO o.1 0 (by omega);have D:=h.2.2.2.1;unfold yE at D;have:=sD D;have e:(bt s (4+iR s+0):Int)=(iM s:Int):=rfl;rw[e]at F;exact⟨C.2.2.2,C.2.2.1,by omega,by omega,by omega⟩
theorem wJ{s:tB}(h:iF s=true)(v:Nat)(C:v<256):tJ s v<iK s:=by
 rw[mK]at h;have o:=h.2.2.2.1;unfold yE at o;have:=yO o v C;unfold tJ;omega
theorem zZ{s:tB}(h:iF s=true){c:Nat}(o:c<iM s):rU s (iR s) (iK s) (pC s c)=true:=(mK.1 h).2.2.2.2.1 c o
theorem Qw{s:tB}(h:iF s=true){c st:Nat}(C:c<iM s)(o:st<qW s c):qD s c st+iK s<s.size:=by
 have D:=nG.1 (zZ h C);have F:=D.2.2.2.1;unfold qD qW at*;have:st*(1+iK s)+(1+iK s)<=bt s (pC s c)*(1+iK s):=by
  have:=OJ (1+iK s) (show st+1<=bt s (pC s c) from o);rw[NM]at this;omega
 omega
theorem IE{s:tB}(h:iF s=true){c st v:Nat}(D:c<iM s)(o:st<qW s c)(C:v<256):qD s c st+1+tJ s v<s.size:=by
 have:=Qw h D o;have:=wJ h v C;omega
theorem Jf{s:tB}(h:iF s=true){c st v:Nat}(F:c<iM s)(o:st<qW s c)(D:v<256):iA s c st v<qW s c\/iA s c st v=255:=by
 have I:=nG.1 (zZ h F);have C:=I.2.2.2.2 st o;rw[qF]at C;have:=C.2 (tJ s v) (wJ h v D);unfold iA qD qW;have e:pC s c+1+st*(1+iK s)+(tJ s v+1)=pC s c+1+st*(1+iK s)+1+tJ s v:=by omega
 rw[e]at this;exact this
theorem Uk{s:tB}(h:iF s=true){c st:Nat}(D:c<iM s)(o:st<qW s c):jO s c st<=iR s:=by
 have F:=nG.1 (zZ h D);have C:=F.2.2.2.2 st o;rw[qF]at C;exact C.1
theorem L7{s:tB}(h:iF s=true){c:Nat}(C:c<iM s):qW s c<=100/\1<=qW s c:=by
 have o:=nG.1 (zZ h C);unfold qW;have:=o.2.1;have:=o.2.2.1;omega
theorem Kv(s:tB)(c st:Nat):((pC s c+1:Nat):Int)+(st:Int)*(1+(iK s:Int))=(qD s c st:Int):=by
 unfold qD;simp
abbrev wA:=Nat×Bool
def iW(s:tB)(lo hi:Nat)(r:wA):Nat×wA:=
 if r.1<s.size then
  if bt s r.1<lo\/hi<bt s r.1 then(lo,(r.1+1,true))else(bt s r.1,(r.1+1,r.2))
 else(lo,(r.1,true))
def oJ(s:tB)(hi:Nat):Nat->List Nat->wA->List Nat×wA
 | 0,l,r=>(l,r)
 | n+1,l,r=>oJ s hi n (l++[(iW s 0 hi r).1]) (iW s 0 hi r).2
def rG(s:tB)(o:Nat)(r:wA):Int×wA:=
 if(iW s 0 255 r).1=255 then(-1,(iW s 0 255 r).2)
 else if o<=(iW s 0 255 r).1 then(((iW s 0 255 r).1:Int),((iW s 0 255 r).2.1,true))
 else(((iW s 0 255 r).1:Int),(iW s 0 255 r).2)
def oZ(s:tB)(o:Nat):Nat->List Int->wA->List Int×wA
 | 0,l,r=>(l,r)
 | n+1,l,r=>oZ s o n (l++[(rG s o r).1]) (rG s o r).2
def Aq(s:tB)(aX o C:Nat):Nat->List (Nat×List Int)->wA->List (Nat×List Int)×wA
 | 0,l,r=>(l,r)
 | n+1,l,r=>Aq s aX o C n (l++[((iW s 0 aX r).1,(oZ s C o [] (iW s 0 aX r).2).1)]) (oZ s C o [] (iW s 0 aX r).2).2
def rE(s:tB)(aX o:Nat)(r:wA):List (Nat×List Int)×wA:=
 Aq s aX o (iW s 1 100 r).1 (iW s 1 100 r).1 [] (iW s 1 100 r).2
def qC(s:tB)(aX o:Nat):Nat->List (List (Nat×List Int))->wA->List (List (Nat×List Int))×wA
 | 0,l,r=>(l,r)
 | n+1,l,r=>qC s aX o n (l++[(rE s aX o r).1]) (rE s aX o r).2
def vD(l:List Nat)(m:Nat):Bool:=decide (∃x∈l,m<x)
def CJ(s:tB):wA:=(iW s 1 1 (iW s 84 84 (iW s 83 83 (0,false)).2).2).2
def jU(s:tB):Nat:=(iW s 1 8 (CJ s)).1
def Xr(s:tB):wA:=(iW s 1 8 (CJ s)).2
def oG(s:tB):List Nat:=(oJ s 5 (jU s) [] (Xr s)).1
def Nv(s:tB):wA:=(oJ s 5 (jU s) [] (Xr s)).2
def xG(s:tB):Nat:=(iW s 1 4 (Nv s)).1
def Ny(s:tB):wA:=((iW s 1 4 (Nv s)).2.1,(iW s 1 4 (Nv s)).2.2||vD (oG s) (1+xG s))
def mS(s:tB):Nat:=1+(iW s 0 255 (Ny s)).1
def Sr(s:tB):wA:=(iW s 0 255 (Ny s)).2
def gM(s:tB):List Nat:=(oJ s (mS s-1) 256 [] (Sr s)).1
def q8(s:tB):wA:=(oJ s (mS s-1) 256 [] (Sr s)).2
def J3(s:tB):List (List (Nat×List Int)):=(qC s (jU s) (mS s) (xG s) [] (q8 s)).1
def Nw(s:tB):wA:=(qC s (jU s) (mS s) (xG s) [] (q8 s)).2
theorem R6{s:tB}{r:wA}(h:lo<=hi):lo<=(iW s lo hi r).1/\(iW s lo hi r).1<=hi:=by
 unfold iW;split
 ·split
  ·exact⟨lR,h⟩
  ·rename_i o;simp only;omega
 ·exact⟨lR,h⟩
theorem lW{s:tB}{r:wA}(h:r.1<=s.size):(iW s lo hi r).2.1<=s.size:=by
 unfold iW;split
 ·split<;>simp only<;>omega
 ·exact h
theorem N6{s:tB}{r:wA}(h:r.2=true):(iW s lo hi r).2.2=true:=by
 unfold iW;split
 ·split
  ·rfl
  ·exact h
 ·rfl
theorem kQ{s:tB}{a:Nat}(h:a<s.size)(o:lo<=bt s a)(C:bt s a<=hi):iW s lo hi (a,false)=(bt s a,(a+1,false)):=by
 unfold iW;rw[aB h,aA (by simp only;omega)]
theorem pM{s:tB}{r:wA}(h:(iW s lo hi r).2.2=false):r.2=false/\r.1<s.size/\lo<=bt s r.1/\bt s r.1<=hi:=by
 unfold iW at h;split at h
 ·split at h
  ·cases h
  ·rename_i o C;exact⟨h,o,by omega,by omega⟩
 ·cases h
theorem Dg{s:tB}:∀n l r,r.1<=s.size->(oJ s hi n l r).2.1<=s.size:=by
 intro n;induction n with
 | zero=>intro l r h;exact h
 | succ k ih=>intro l r h;exact ih _ _ (lW h)
theorem lN{s:tB}:∀n l r,(oJ s hi n l r).1.length=l.length+n:=by
 intro n;induction n with
 | zero=>intro l r;rfl
 | succ k ih=>intro l r;rw[oJ,ih];simp;omega
theorem i7{s:tB}:∀n l r,(∀x∈l,x<=hi)->∀x∈(oJ s hi n l r).1,x<=hi:=by
 intro n;induction n with
 | zero=>intro l r h;exact h
 | succ k ih=>
  intro l r h;refine ih _ _ (λ x C=>?_);rcases MT.1 C with o|o
  ·exact h x o
  ·rw[MR]at o;rw[o];exact(R6 zL).2
theorem Bu{s:tB}:∀n l r,(oJ s hi n l r).2.2=false->r.2=false/\(r.1<=s.size->r.1+n<=s.size)/\∀j,j<n->bt s (r.1+j)<=hi:=by
 intro n;induction n with
 | zero=>intro l r h;exact⟨h,λ h=>h,λ j J=>by omega⟩
 | succ k ih=>
  intro l r h;rw[oJ]at h;obtain⟨F,o,C⟩:=ih _ _ h;obtain⟨D,I,Q,g4⟩:=pM F;have e:iW s 0 hi r=(bt s r.1,(r.1+1,false)):=by
   have:r=(r.1,false):=by rw[<-D]
   rw[this];exact kQ I (by omega) g4
  rw[e]at o C;simp only at o C;refine⟨D,λ _=>by have:=o (by omega);omega,λ j J=>?_⟩
  cases j with
  | zero=>exact g4
  | succ m=>have:=C m (by omega);rw[show r.1+(m+1)=r.1+1+m by omega];exact this
theorem V9{s:tB}:∀n l a,a+n<=s.size->(∀j,j<n->bt s (a+j)<=hi)->oJ s hi n l (a,false)=(l++(MH n).map (λ j=>bt s (a+j)),(a+n,false)):=by
 intro n;induction n with
 | zero=>intro l a _ _;simp[oJ]
 | succ k ih=>
  intro l a C o;have e:=kQ (s:=s) (lo:=0) (hi:=hi) (a:=a) (by omega) zL (o 0 (by omega));rw[oJ,e];rw[ih _ _ (by omega) (λ j D=>by have:=o (j+1) (by omega);rw[show a+1+j=a+(j+1) by omega];exact this)];refine Prod.ext ?_ (by simp only;congr 1;omega);simp only[NS];congr 1;rw[NN];simp only[NO,PB];rw[NQ];congr 1;refine MN (λ j _=>?_);simp only[Function.comp];rw[show a+1+j=a+(j+1) by omega]
def oN(x:Nat):Int:=if x=255 then -1 else(x:Int)
theorem Lb{s:tB}{r:wA}(h:r.1<=s.size):(rG s n r).2.1<=s.size:=by
 unfold rG;split
 ·exact lW h
 ·split<;>exact lW h
theorem Wx{s:tB}{r:wA}(h:r.2=true):(rG s n r).2.2=true:=by
 unfold rG;split
 ·exact N6 h
 ·split
  ·rfl
  ·exact N6 h
theorem Oz{s:tB}{r:wA}(h:(rG s n r).2.2=false):r.2=false/\r.1<s.size/\(bt s r.1<n\/bt s r.1=255):=by
 have hg:(iW s 0 255 r).2.2=false:=by
  unfold rG at h;split at h
  ·exact h
  ·split at h
   ·cases h
   ·exact h
 obtain⟨o,C,D,g4⟩:=pM hg;have e:iW s 0 255 r=(bt s r.1,(r.1+1,false)):=by
  have:r=(r.1,false):=by rw[<-o]
  rw[this];exact kQ C (by omega) g4
 refine⟨o,C,?_⟩;unfold rG at h;rw[e]at h;simp only at h;split at h
 ·right;assumption
 ·split at h
  ·cases h
  ·left;omega
theorem Fu{s:tB}{a:Nat}(h:a<s.size)(C:bt s a<n\/bt s a=255):rG s n (a,false)=(oN (bt s a),(a+1,false)):=by
 have e:=kQ (s:=s) (lo:=0) (hi:=255) (a:=a) h zL (by have:=mT s a;omega);unfold rG oN;rw[e];simp only;by_cases o:bt s a=255
 ·rw[aB o,aB o]
 ·rw[aA o,aA o,aA (by omega)]
theorem Uq{s:tB}:∀n l r,r.1<=s.size->(oZ s c n l r).2.1<=s.size:=by
 intro n;induction n with
 | zero=>intro l r h;exact h
 | succ k ih=>intro l r h;exact ih _ _ (Lb h)
theorem Pr{s:tB}:∀n l r,r.2=true->(oZ s c n l r).2.2=true:=by
 intro n;induction n with
 | zero=>intro l r h;exact h
 | succ k ih=>intro l r h;exact ih _ _ (Wx h)
theorem Le{s:tB}:∀n l r,(oZ s c n l r).2.2=false->r.2=false/\(r.1<=s.size->r.1+n<=s.size)/\∀j,j<n->bt s (r.1+j)<c\/bt s (r.1+j)=255:=by
 intro n;induction n with
 | zero=>intro l r h;exact⟨h,λ h=>h,λ j J=>by omega⟩
 | succ k ih=>
  intro l r h;rw[oZ]at h;obtain⟨F,o,C⟩:=ih _ _ h;obtain⟨D,I,g4⟩:=Oz F;have e:rG s c r=(oN (bt s r.1),(r.1+1,false)):=by
   have:r=(r.1,false):=by rw[<-D]
   rw[this];exact Fu I g4
  rw[e]at o C;simp only at o C;refine⟨D,λ _=>by have:=o (by omega);omega,λ j J=>?_⟩
  cases j with
  | zero=>exact g4
  | succ m=>have:=C m (by omega);rw[show r.1+(m+1)=r.1+1+m by omega];exact this
theorem Pp{s:tB}:∀n l a,a+n<=s.size->(∀j,j<n->bt s (a+j)<c\/bt s (a+j)=255)->oZ s c n l (a,false)=(l++(MH n).map (λ j=>oN (bt s (a+j))),(a+n,false)):=by
 intro n;induction n with
 | zero=>intro l a _ _;simp[oZ]
 | succ k ih=>
  intro l a C o;have e:=Fu (s:=s) (n:=c) (a:=a) (by omega) (o 0 (by omega));rw[oZ,e];rw[ih _ _ (by omega) (λ j D=>by have:=o (j+1) (by omega);rw[show a+1+j=a+(j+1) by omega];exact this)];refine Prod.ext ?_ (by simp only;congr 1;omega);simp only[NS];congr 1;rw[NN];simp only[NO,PB];rw[NQ];congr 1;refine MN (λ j _=>?_);simp only[Function.comp];rw[show a+1+j=a+(j+1) by omega]
def Hz(s:tB)(o a:Nat):Nat×List Int:=(bt s a,(MH o).map λ k=>oN (bt s (a+(k+1))))
theorem DJ{s:tB}:∀n l r,r.1<=s.size->(Aq s ru cl c n l r).2.1<=s.size:=by
 intro n;induction n with
 | zero=>intro l r h;exact h
 | succ k ih=>intro l r h;exact ih _ _ (Uq _ _ _ (lW h))
theorem BH{s:tB}:∀n l r,r.2=true->(Aq s ru cl c n l r).2.2=true:=by
 intro n;induction n with
 | zero=>intro l r h;exact h
 | succ k ih=>intro l r h;exact ih _ _ (Pr _ _ _ (N6 h))
theorem t7{s:tB}{r:wA}(h:(oZ s c cl [] (iW s 0 ru r).2).2.2=false):r.2=false/\r.1+1+cl<=s.size/\G9 s ru cl c r.1=true:=by
 obtain⟨I,o,C⟩:=Le _ _ _ h;obtain⟨D,J,Q,g4⟩:=pM I;have e:iW s 0 ru r=(bt s r.1,(r.1+1,false)):=by
  have:r=(r.1,false):=by rw[<-D]
  rw[this];exact kQ J (by omega) g4
 rw[e]at o C;simp only at o C;refine⟨D,o (by omega),qF.2 ⟨g4,λ k F=>?_⟩⟩;have:=C k F;rw[show r.1+(k+1)=r.1+1+k by omega];exact this
theorem Td{s:tB}{a:Nat}(h:a+1+cl<=s.size)(o:G9 s ru cl c a=true):
  iW s 0 ru (a,false)=(bt s a,(a+1,false))/\oZ s c cl [] (a+1,false)=((Hz s cl a).2,(a+(1+cl),false)):=by
 obtain⟨C,D⟩:=qF.1 o;refine⟨kQ (by omega) (by omega) C,?_⟩;rw[Pp _ _ _ (by omega) (λ j F=>by have:=D j F;rw[show a+1+j=a+(j+1) by omega];exact this)];refine Prod.ext ?_ (by simp only;congr 1;omega);simp only[OM,Hz];refine MN (λ j _=>?_);rw[show a+1+j=a+(j+1) by omega]
theorem Vh{s:tB}:∀n l r,(Aq s ru cl c n l r).2.2=false->r.2=false/\(r.1<=s.size->r.1+n*(1+cl)<=s.size)/\∀j,j<n->G9 s ru cl c (r.1+j*(1+cl))=true:=by
 intro n;induction n with
 | zero=>intro l r h;exact⟨h,λ h=>by omega,λ j V=>by omega⟩
 | succ k ih=>
  intro l r h;rw[Aq]at h;obtain⟨J,o,C⟩:=ih _ _ h;obtain⟨F,U,g4⟩:=t7 J;have I:r=(r.1,false):=by rw[<-F]
  obtain⟨D,Q⟩:=Td U g4;rw[<-I]at D;rw[D]at o C;simp only at o C;rw[Q]at o C;simp only at o C;refine⟨F,λ _=>by have:=o (by omega);rw[NM];omega,λ j V=>?_⟩
  cases j with
  | zero=>simpa using g4
  | succ m=>have:=C m (by omega);rw[show r.1+(m+1)*(1+cl)=r.1+(1+cl)+m*(1+cl) by rw[NM];omega];exact this
theorem z9{s:tB}:∀n l a,a+n*(1+cl)<=s.size->(∀j,j<n->G9 s ru cl c (a+j*(1+cl))=true)->
  Aq s ru cl c n l (a,false)=(l++(MH n).map (λ j=>Hz s cl (a+j*(1+cl))),(a+n*(1+cl),false)):=by
 intro n;induction n with
 | zero=>intro l a _ _;simp[Aq]
 | succ k ih=>
  intro l a D o;rw[NM]at D;obtain⟨C,F⟩:=Td (s:=s) (ru:=ru) (cl:=cl) (c:=c) (a:=a) (by omega) (by simpa using o 0 (by omega));rw[Aq,C];simp only;rw[F];simp only;rw[ih _ _ (by omega) (λ j I=>by have:=o (j+1) (by omega);rw[show a+(1+cl)+j*(1+cl)=a+(j+1)*(1+cl) by rw[NM];omega];exact this)];refine Prod.ext ?_ (by simp only;congr 1;rw[NM];omega);simp only[NS];congr 1;rw[NN];simp only[NO,PB];rw[NQ];congr 1
  ·simp[Hz]
  refine MN (λ j _=>?_);simp only[Function.comp];rw[show a+(1+cl)+j*(1+cl)=a+(j+1)*(1+cl) by rw[NM];omega]
theorem Md{s:tB}{r:wA}(h:r.1<=s.size):(rE s ru cl r).2.1<=s.size:=DJ _ _ _ (lW h)
theorem Fo{s:tB}{r:wA}(h:r.2=true):(rE s ru cl r).2.2=true:=BH _ _ _ (N6 h)
theorem Pj{s:tB}{r:wA}(h:(rE s ru cl r).2.2=false):r.2=false/\rU s ru cl r.1=true:=by
 unfold rE at h;obtain⟨I,o,C⟩:=Vh _ _ _ h;obtain⟨D,J,F,g4⟩:=pM I;have e:iW s 1 100 r=(bt s r.1,(r.1+1,false)):=by
  have:r=(r.1,false):=by rw[<-D]
  rw[this];exact kQ J F g4
 rw[e]at o C;simp only at o C;exact⟨D,nG.2 ⟨by omega,g4,by omega,o (by omega),C⟩⟩
theorem Fx{s:tB}{a:Nat}(h:rU s ru cl a=true):rE s ru cl (a,false)=((MH (bt s a)).map (λ j=>Hz s cl (a+1+j*(1+cl))),(tY s ru cl a,false)):=by
 obtain⟨F,C,I,o,D⟩:=nG.1 h;have e:=kQ (s:=s) (lo:=1) (hi:=100) (a:=a) (by omega) (by omega) C;unfold rE;rw[e];simp only;rw[z9 _ _ _ o D,(Cl h).2];simp
theorem Vt{s:tB}:∀n l r,r.1<=s.size->(qC s ru cl n l r).2.1<=s.size:=by
 intro n;induction n with
 | zero=>intro l r h;exact h
 | succ k ih=>intro l r h;exact ih _ _ (Md h)
theorem Mf{s:tB}:∀n l c r,r.1=pC s c->(qC s (iR s) (iK s) n l r).2.2=false->r.2=false/\(∀j,j<n->rU s (iR s) (iK s) (pC s (c+j))=true)/\(qC s (iR s) (iK s) n l r).2.1=pC s (c+n):=by
 intro n;induction n with
 | zero=>intro l c r C h;exact⟨h,λ j U=>by omega,C⟩
 | succ k ih=>
  intro l c r C h;rw[qC]at h ⊢;have o:(rE s (iR s) (iK s) r).2.2=false:=by
   cases hb:(rE s (iR s) (iK s) r).2.2 with
   | false=>rfl
   | true=>
    have:∀n l (r:wA),r.2=true->(qC s (iR s) (iK s) n l r).2.2=true:=by
     intro n;induction n with
     | zero=>intro l r h;exact h
     | succ k ih=>intro l r h;exact ih _ _ (Fo h)
    rw[this _ _ _ hb]at h;cases h
  obtain⟨F,D⟩:=Pj o;have I:r=(r.1,false):=by rw[<-F]
  have e:=Fx D;rw[<-I,C]at e;obtain⟨V,J,Q⟩:=ih (l++[(rE s (iR s) (iK s) r).1]) (c+1) (rE s (iR s) (iK s) r).2 (by rw[e];rfl) h;refine⟨F,λ j U=>?_,by rw[Q];congr 1;omega⟩
  cases j with
  | zero=>rw[C]at D;exact D
  | succ m=>have:=J m (by omega);rw[show c+(m+1)=c+1+m by omega];exact this
theorem Ri{s:tB}:∀n l c,(∀j,j<n->rU s (iR s) (iK s) (pC s (c+j))=true)->
  qC s (iR s) (iK s) n l (pC s c,false)=(l++(MH n).map (λ j=>(MH (qW s (c+j))).map λ st=>Hz s (iK s) (qD s (c+j) st)),(pC s (c+n),false)):=by
 intro n;induction n with
 | zero=>intro l c _;simp[qC]
 | succ k ih=>
  intro l c h;have e:=Fx (h 0 (by omega));rw[Nat.add_zero]at e;rw[qC,e];simp only;have o:tY s (iR s) (iK s) (pC s c)=pC s (c+1):=rfl;rw[o,ih _ _ (λ j C=>by have:=h (j+1) (by omega);rw[show c+1+j=c+(j+1) by omega];exact this)];refine Prod.ext ?_ (by simp only;congr 2;omega);simp only[NS];congr 1;rw[NN];simp only[NO,PB];rw[NQ];refine congr (congrArg List.cons rfl) ?_;refine MN (λ j _=>?_);simp only[Function.comp];rw[show c+1+j=c+(j+1) by omega]
theorem kY(w:tW){ops:Array Oper}{rest:List Oper}{o:Oper}{a:Act}{Q:Exit->Act->tW->Prop}(U:o.guard=none)(s x:Operand)(t:TypeId)
  (X:o.op=.call {callee:= .builtin .append,args:= #[s,x],argTypes:= #[t,t]})
  (aH:Nat) (e:TypeId) (z:tV) (size C:Nat) (V:P.underlying t=some (.slice e)) (F:(P.info? e).map (λ i=>(i.zero,i.size,i.bytes))=some (some z,size,C))
  (g k aJ:Nat) (xs cs:List tV) (J:TypeId) (hs:a.eval s=.slice (some ⟨g,0,none⟩) k aJ) (I:w.ownsRow aH e size (.slice (some ⟨g,0,none⟩) k aJ) k xs)
  (B:Nat) (hB:w.heap.size=B) (hx:a.eval x=.slice (some ⟨B,0,none⟩) 1 1) (hl:cs.length=size) (Y:∀u∈cs,u.oneCell'=true) (Z:k+1<=aJ)
  (h:∀w',w'.ownsRow aH e size (.slice (some ⟨g,0,none⟩) (k+1) aJ) (k+1) (xs++cs)->(w.alloc (.cells cs.toArray J)).grownBy w' (some g)->
   wpList P ops Q rest (a.put o.dst (.slice (some ⟨g,0,none⟩) (k+1) aJ)) w'):wpList P ops Q (o::rest) a (w.alloc (.cells cs.toArray J)):=by
 subst hB;obtain⟨i,hi,hz,D,hb⟩:=QT F;refine wpList_append_fits _ U s x t X aH e i size V hi D g k aJ xs hs (I.alloc _) ⟨w.heap.size,0,none⟩ 1 1 cs hx (by omega) ?_ Y Z h;have:=OR (w:=w.alloc (.cells cs.toArray J)) (B:=w.heap.size) (cs:=cs.toArray) (t:=J) (fr:=(0,0)) (QV w _);simpa using this
theorem X9{a w w':tW}(h:a.grownBy w r)(k:w.grownBy w' (some B))(C:a.heap.size<=B):a.grownBy w' r:=
 ⟨k.os.trans h.os,k.tape.trans h.tape,k.output.trans h.output,NE h.size k.size,λ i hi o=>(k.block i (LJ hi h.size) (by intro e;injection e;omega)).trans (h.block i hi o)⟩
theorem T9{a w:tW}(h:a.grownBy w none)(r:Option Nat):a.grownBy w r:=⟨h.os,h.tape,h.output,h.size,λ i hi _=>h.block i hi (by simp)⟩
def pA(l:List Nat):List tV:=l.map λ(x:Nat)=>ML .i64 (x:Int)
def pN(l:List Int):List tV:=l.map λ(x:Int)=>ML .i64 x
theorem sA(l:List Nat)(x:Nat):pA (l++[x])=pA l++[.int .i64 (x:Int)]:=by simp[pA]
theorem tX(l:List Int)(x:Int):pN (l++[x])=pN l++[.int .i64 x]:=by simp[pN]
def Ju(cl:Nat)(zs:List ((Nat×List Int)×Nat)):List tV:=zs.flatMap λ z=>[ML .i64 (z.1.1:Int),MY (some ⟨z.2,0,none⟩) cl cl]
theorem Ka(cl:Nat)(zs:List ((Nat×List Int)×Nat))(z:(Nat×List Int)×Nat):Ju cl (zs++[z])=Ju cl zs++[ML .i64 (z.1.1:Int),MY (some ⟨z.2,0,none⟩) cl cl]:=by simp[Ju]
def pQ(w:tW)(lo:Nat)(zs:List ((Nat×List Int)×Nat)):Prop:=∀z∈zs,lo<=z.2/\z.2<w.heap.size/\w.rangeAt z.2 0 (pN z.1.2)
theorem pQ.grown{w w':tW}(h:pQ w lo zs)(hg:w.grownBy w' (some g))(I:g<lo):pQ w' lo zs:=λ z F=>by
 obtain⟨C,o,D⟩:=h z F;exact⟨C,LJ o hg.size,fY D (hg.block z.2 o (by intro e;injection e;omega))⟩
theorem pQ.nil(w:tW)(lo:Nat):pQ w lo []:=λ _ o=>absurd o (OH)
theorem pQ.snoc{w:tW}{z:(Nat×List Int)×Nat}(h:pQ w lo zs)(C:lo<=z.2/\z.2<w.heap.size/\w.rangeAt z.2 0 (pN z.1.2)):pQ w lo (zs++[z]):=λ y D=>by
 rcases MT.1 D with o|o
 ·exact h y o
 ·rw[MR]at o;rw[o];exact C
theorem pQ.below{w w':tW}(h:pQ w lo zs)(hg:RowKit.Below B w w')(I:w.heap.size<=B):pQ w' lo zs:=λ z F=>by
 obtain⟨o,C,D⟩:=h z F;exact⟨o,LJ C hg.size,fY D (hg.block z.2 (by omega))⟩
theorem nV{w:tW}{e k aJ:Nat}{xs:List tV}(h:w.ownsRow aH e 1 (.slice (some ⟨g,0,none⟩) k aJ) k xs):w.rangeAt g 0 xs:=λ j v C=>by
 have:=h.cells rfl j v C;by_cases o:j=0
 ·subst o;simpa[Addr.add]using this
 ·simpa[Addr.add,o]using this
def oP(s aI:tB)(c p:Nat):Nat->Option Nat
 | 0=>some 0
 | d+1=>match oP s aI c p d with
  | none=>none
  | some st=>if iA s c st (bt aI (p+d))=255 then none else some (iA s c st (bt aI (p+d)))
def zO(s aI:tB)(c p d:Nat):Option Nat:=
 match oP s aI c p d with
 | none=>none
 | some st=>if 0<jO s c st then some (jO s c st-1)else none
def sN(s aI:tB)(c p:Nat):Nat->Int×Nat
 | 0=>(-1,p)
 | d+1=>match zO s aI c p (d+1)with
  | some r=>((r:Int),p+(d+1))
  | none=>sN s aI c p d
theorem Ad{s aI:tB}(h:oP s aI c p d=some st):
  oP s aI c p (d+1)=if iA s c st (bt aI (p+d))=255 then none else some (iA s c st (bt aI (p+d))):=by
 rw[oP,h]
theorem Mt{s aI:tB}(h:oP s aI c p j=none):∀d,j<=d->oP s aI c p d=none:=by
 intro d o
 induction d with
 | zero=>
  have:j=0:=by omega
  subst this;exact h
 | succ n ih=>
  by_cases e:j=n+1
  ·rw[<-e];exact h
  ·rw[oP,ih (by omega)]
theorem yL{s aI:tB}(hi:iF s=true){c p:Nat}(o:c<iM s):∀d st,oP s aI c p d=some st->st<qW s c:=by
 intro d
 induction d with
 | zero=>intro st h;rw[oP]at h;have:=(L7 hi o).2;simp at h;omega
 | succ n ih=>
  intro st h
  cases h2:oP s aI c p n with
  | none=>rw[oP,h2]at h;cases h
  | some t=>
   rw[Ad h2]at h;split at h
   ·cases h
   ·rcases Jf hi o (ih t h2) (mT aI (p+n))with C|C
    ·simp at h;omega
    ·contradiction
theorem J1{s aI:tB}(h:zO s aI c p (d+1)=none):sN s aI c p (d+1)=sN s aI c p d:=by
 rw[sN,h]
theorem Dq{s aI:tB}{r:Nat}(h:zO s aI c p (d+1)=some r):sN s aI c p (d+1)=((r:Int),p+(d+1)):=by
 rw[sN,h]
theorem Qv{s aI:tB}(h:oP s aI c p d=none):zO s aI c p d=none:=by
 unfold zO;rw[h]
theorem t8{s aI:tB}(h:oP s aI c p d=some st)(o:jO s c st=0):zO s aI c p d=none:=by
 unfold zO;rw[h];simp[o]
theorem Ww{s aI:tB}(h:oP s aI c p d=some st)(o:0<jO s c st):zO s aI c p d=some (jO s c st-1):=by
 unfold zO;rw[h];simp[o]
def sS(l:List (Int×Int×Int))(x:Int×Int×Int):Bool:=l.contains x
def Fk(s aI:tB)(c p:Nat):Int×Nat:=sN s aI c p (aI.size-p)
def uG(c st i:Nat):Int×Int×Int:=((c:Int),(st:Int),(i:Int))
def pB(s aI:tB)(c:Nat)(H:List (Int×Int×Int)):Nat->Nat->Nat->List (Int×Int×Int)->Nat->List (Int×Int×Int)×Nat
 | 0,_,_,S,n=>(S,n)
 | d+1,st,i,S,n=>
  if sS H (uG c st i)=true then(S,n)
  else if iA s c st (bt aI i)=255 then(S++[uG c st i],n+1)
  else pB s aI c H d (iA s c st (bt aI i)) (i+1) (if 0<jO s c (iA s c st (bt aI i))then []else S++[uG c st i]) (n+1)
theorem zV{s aI:tB}(h:sS H (uG c st i)=true):pB s aI c H (d+1) st i S n=(S,n):=by
 rw[pB,aB h]
theorem xU{s aI:tB}{c d st i n:Nat}{H S:List (Int×Int×Int)}(h:sS H (uG c st i)=false)(o:iA s c st (bt aI i)=255):
  pB s aI c H (d+1) st i S n=(S++[uG c st i],n+1):=by
 rw[pB,aA (by rw[h];decide),aB o]
theorem C0{s aI:tB}{c d st i n:Nat}{H S:List (Int×Int×Int)}(h:sS H (uG c st i)=false)(C:iA s c st (bt aI i)≠255)(o:0<jO s c (iA s c st (bt aI i))):
  pB s aI c H (d+1) st i S n=pB s aI c H d (iA s c st (bt aI i)) (i+1) [] (n+1):=by
 rw[pB,aA (by rw[h];decide),aA C,aB o]
theorem K6{s aI:tB}{c d st i n:Nat}{H S:List (Int×Int×Int)}(h:sS H (uG c st i)=false)(o:iA s c st (bt aI i)≠255)(C:jO s c (iA s c st (bt aI i))=0):
  pB s aI c H (d+1) st i S n=pB s aI c H d (iA s c st (bt aI i)) (i+1) (S++[uG c st i]) (n+1):=by
 rw[pB,aA (by rw[h];decide),aA o,aA (by omega)]
def iE(s aI:tB)(c:Nat)(H:List (Int×Int×Int))(p:Nat):List (Int×Int×Int)×Nat:=pB s aI c H (aI.size-p) 0 p [] 0
theorem Up{s aI:tB}:∀d st i S n,(pB s aI c H d st i S n).1.length<=S.length+d/\(pB s aI c H d st i S n).2<=n+d:=by
 intro d
 induction d with
 | zero=>intro st i S n;simp[pB]
 | succ e ih=>
  intro st i S n;rw[pB];split
  ·exact⟨by simp only;omega,by simp only;omega⟩
  ·split
   ·simp
   ·have:=ih (iA s c st (bt aI i)) (i+1) (if 0<jO s c (iA s c st (bt aI i))then []else S++[uG c st i]) (n+1);split at this
    ·rename_i o;rw[aB o];simp at this⊢;omega
    ·rename_i o;rw[aA o];simp at this⊢;omega
def nA(s:tB)(r:Nat):Nat:=bt s (4+r)
def yP(s aI:tB):Nat->Nat->Nat->List (Int×Int×Int)->Nat->List (Int×Int×Int)->List (Int×Int×Int)×Nat×Nat
 | 0,_,c,_,n,T=>(T,n,c)
 | f+1,p,c,H,n,T=>
  if p<aI.size then
   if(Fk s aI c p).1= -1 then(T++[(-1,(p:Int),(p:Int))],n+(iE s aI c H p).2,c)
   else yP s aI f (Fk s aI c p).2 (if 1<nA s (Fk s aI c p).1.toNat then nA s (Fk s aI c p).1.toNat-2 else c) (H++(iE s aI c H p).1) (n+(iE s aI c H p).2)
    (if nA s (Fk s aI c p).1.toNat=1 then T else T++[((Fk s aI c p).1,(p:Int),((Fk s aI c p).2:Int))])
  else(T,n,c)
def pU(s aI:tB)(c:Nat):List (Int×Int×Int)×Nat×Nat:=yP s aI (aI.size+1) 0 c [] 0 []
theorem Ks{s aI:tB}(hi:iF s=true){c p:Nat}(C:c<iM s):∀d,sN s aI c p d=(-1,p)\/∃r q:Nat,sN s aI c p d=((r:Int),q)/\r<iR s/\p<q/\q<=p+d:=by
 intro d
 induction d with
 | zero=>exact .inl rfl
 | succ e ih=>
  cases ht:zO s aI c p (e+1)with
  | none=>
   rw[J1 ht];rcases ih with h|⟨r,q,D,F,I,J⟩
   ·exact .inl h
   ·exact .inr ⟨r,q,D,F,I,by omega⟩
  | some r=>
   right;refine⟨r,p+(e+1),Dq ht,?_,by omega,by omega⟩;unfold zO at ht;split at ht
   ·cases ht
   ·rename_i st o;split at ht
    ·rename_i Q;have:=Uk hi C (yL hi C _ _ o);simp at ht;omega
    ·cases ht
theorem yC{s aI:tB}(hi:iF s=true){c p:Nat}(D:c<iM s)(I:p<=aI.size):Fk s aI c p=(-1,p)\/∃r q:Nat,Fk s aI c p=((r:Int),q)/\r<iR s/\p<q/\q<=aI.size:=by
 unfold Fk;rcases Ks hi D (aI:=aI) (p:=p) (aI.size-p)with h|⟨r,q,o,C,F,J⟩
 ·exact .inl h
 ·exact .inr ⟨r,q,o,C,F,by omega⟩
theorem vV{s:tB}(hi:iF s=true){r:Nat}(C:r<iR s):nA s r<=1+iM s:=by
 have o:=(mK.1 hi).2.2.1;unfold zN at o;simp only[ME]at o;have:=yO o.1 r C;unfold nA;omega
theorem yS{s aI:tB}(h:¬p<aI.size):yP s aI (f+1) p c H n T=(T,n,c):=by
 rw[yP,aA h]
theorem vX{s aI:tB}{f p c n:Nat}{H T:List (Int×Int×Int)}(h:p<aI.size)(o:Fk s aI c p=(-1,p)):
  yP s aI (f+1) p c H n T=(T++[(-1,(p:Int),(p:Int))],n+(iE s aI c H p).2,c):=by
 rw[yP,aB h,o,aB rfl]
theorem wB{s aI:tB}{f p c n r q:Nat}{H T:List (Int×Int×Int)}(h:p<aI.size)(o:Fk s aI c p=((r:Int),q)):
  yP s aI (f+1) p c H n T=yP s aI f q (if 1<nA s r then nA s r-2 else c) (H++(iE s aI c H p).1) (n+(iE s aI c H p).2)
   (if nA s r=1 then T else T++[((r:Int),(p:Int),(q:Int))]):=by
 rw[yP,aB h,o,aA (by simp)];simp
theorem Ym{s aI:tB}(hi:iF s=true):∀(f f':Nat) {p c n:Nat}{H T:List (Int×Int×Int)},c<iM s->aI.size-p<f->aI.size-p<f'->yP s aI f p c H n T=yP s aI f' p c H n T:=by
 intro f
 induction f with
 | zero=>intro f' p c n H T _ h;omega
 | succ e ih=>
  intro f' p c n H T J h V;obtain⟨F,rfl⟩:∃F,f'=F+1:=⟨f'-1,by omega⟩
  by_cases o:p<aI.size
  ·rcases yC hi J (MU o)with D|⟨r,q,C,I,Q,U⟩
   ·rw[vX o D,vX o D]
   ·rw[wB o C,wB o C];have:=vV hi I;exact ih F (by split<;>omega) (by omega) (by omega)
  ·rw[yS o,yS o]
theorem Q7{s aI:tB}{c p:Nat}{H:List (Int×Int×Int)}:(iE s aI c H p).1.length<=aI.size-p/\(iE s aI c H p).2<=aI.size-p:=by
 have:=Up (s:=s) (aI:=aI) (c:=c) (H:=H) (aI.size-p) 0 p [] 0;unfold iE;simp at this;exact this
theorem Rv{s:tB}:∀n l (r:wA),r.2=true->(qC s ru cl n l r).2.2=true:=by
 intro n;induction n with
 | zero=>intro l r h;exact h
 | succ k ih=>intro l r h;exact ih _ _ (Fo h)
theorem CQ{m:Nat}(h:vD l m=false):∀x∈l,x<=m:=by
 intro x o;unfold vD at h;rw[aF]at h;exact Nat.le_of_not_lt (λ C=>h ⟨x,o,C⟩)
theorem i6{m:Nat}(h:∀x∈l,x<=m):vD l m=false:=by
 unfold vD;rw[aF];rintro⟨x,o,C⟩;have:=h x o;omega
structure BU(s:tB):Prop where
 r3:CJ s=(3,false)
 ru:jU s=iR s
 r4:Xr s=(4,false)
 be:oG s=(MH (iR s)).map (nA s)
 r5:Nv s=(4+iR s,false)
 mn:xG s=iM s
 r6:Ny s=(5+iR s,false)
 cl:mS s=iK s
 r7:Sr s=(6+iR s,false)
 co:gM s=(MH 256).map (tJ s)
 r8:q8 s=(pC s 0,false)
theorem Gb{s:tB}(h0:4<=s.size)(I:bt s 0=83/\bt s 1=84/\bt s 2=1)(hr:1<=iR s/\iR s<=8)
  (o:4+iR s<=s.size/\∀j,j<iR s->nA s j<=5) (F:4+iR s<s.size/\1<=iM s/\iM s<=4) (ho:∀j,j<iR s->nA s j<=1+iM s)
  (hk:5+iR s<s.size) (hc:6+iR s+256<=s.size/\∀j,j<256->tJ s j<=iK s-1):BU s:=by
 have e0:iW s 83 83 (0,false)=(83,(1,false)):=by rw[kQ (by omega) (by omega) (by omega),I.1]
 have e1:iW s 84 84 (1,false)=(84,(2,false)):=by rw[kQ (by omega) (by omega) (by omega),I.2.1]
 have e2:iW s 1 1 (2,false)=(1,(3,false)):=by rw[kQ (by omega) (by omega) (by omega),I.2.2]
 have U:CJ s=(3,false):=by unfold CJ;rw[e0];simp only;rw[e1];simp only;rw[e2]
 have e3:iW s 1 8 (3,false)=(iR s,(4,false)):=kQ (by omega) hr.1 hr.2;have ru:jU s=iR s:=by unfold jU;rw[U,e3]
 have J:Xr s=(4,false):=by unfold Xr;rw[U,e3]
 have e4:=V9 (s:=s) (hi:=5) (iR s) [] 4 o.1 o.2;have Z:oG s=(MH (iR s)).map (nA s):=by unfold oG;rw[ru,J,e4];rfl
 have Q:Nv s=(4+iR s,false):=by unfold Nv;rw[ru,J,e4]
 have e5:iW s 1 4 (4+iR s,false)=(iM s,(4+iR s+1,false)):=kQ F.1 F.2.1 F.2.2;have Y:xG s=iM s:=by unfold xG;rw[Q,e5]
 have ov:vD (oG s) (1+xG s)=false:=i6 (λ x hx=>by
  rw[Z,PA]at hx;obtain⟨j,hj,rfl⟩:=hx;rw[Y];exact ho j (OS.1 hj))
 have D:Ny s=(5+iR s,false):=by unfold Ny;rw[Q,e5,ov];simp only[QH];congr 1;omega
 have X:iW s 0 255 (5+iR s,false)=(bt s (5+iR s),(5+iR s+1,false)):=kQ hk (by omega) (by have:=mT s (5+iR s);omega);have cl:mS s=iK s:=by unfold mS;rw[D,X];unfold iK;simp only;omega
 have C:Sr s=(6+iR s,false):=by unfold Sr;rw[D,X];simp only;congr 1;omega
 have V:=V9 (s:=s) (hi:=iK s-1) 256 [] (6+iR s) hc.1 hc.2;have co:gM s=(MH 256).map (tJ s):=by unfold gM;rw[cl,C,V];simp only[OM];exact MN (λ j _=>rfl)
 have ea:6+iR s+256=pC s 0:=by show _=262+iR s;omega
 have r8:q8 s=(pC s 0,false):=by unfold q8;rw[cl,C,V,ea]
 exact⟨U,ru,J,Z,Q,Y,D,cl,C,co,r8⟩
theorem D5{s:tB}(h:iF s=true):BU s:=by
 obtain⟨F,I,J,D,Q⟩:=lC h;have C:=pK.1 (mK.1 h).1;refine Gb C.1 C.2.1 ⟨I,F⟩ ⟨by omega,λ j o=>by have:=vV h o;omega⟩ ⟨by omega,J,D⟩ (λ j o=>vV h o) (by omega) ⟨Q,λ j o=>by have:=wJ h j o;omega⟩
def Dy(s:tB)(c:Nat):List (Nat×List Int):=(MH (qW s c)).map λ st=>Hz s (iK s) (qD s c st)
theorem Gw{s:tB}(h:iF s=true):J3 s=(MH (iM s)).map (Dy s)/\Nw s=(s.size,false):=by
 have o:=D5 h;have e:=Ri (s:=s) (iM s) [] 0 (λ j C=>by rw[LM];exact zZ h C);refine⟨?_,?_⟩
 ·unfold J3;rw[o.ru,o.cl,o.mn,o.r8,e];simp only[OM];refine MN (λ j _=>?_);rw[LM];rfl
 ·unfold Nw;rw[o.ru,o.cl,o.mn,o.r8,e,LM,(mK.1 h).2.2.2.2.2]
theorem k8{s:tB}(h:(Nw s).2=false)(hs:(Nw s).1=s.size):iF s=true:=by
 have h8:(q8 s).2=false:=by
  cases hb:(q8 s).2 with
  | false=>rfl
  | true=>unfold Nw at h;rw[Rv _ _ _ hb]at h;cases h
 obtain⟨h7,F,c7⟩:=Bu _ _ _ h8;obtain⟨h6,V,a6,b6⟩:=pM h7;have o:=h6;unfold Ny at o;simp only[Bool.or_eq_false_iff]at o;obtain⟨h5,p5,X,Z⟩:=pM o.1;obtain⟨h4,D,Y⟩:=Bu _ _ _ h5;obtain⟨h3,p3,a3,b3⟩:=pM h4;obtain⟨h2,J,I,b2⟩:=pM h3;obtain⟨h1,p1,a1,b1⟩:=pM h2;obtain⟨h0,p0,a0,b0⟩:=pM h1;simp only at p0 a0 b0;have e0:iW s 83 83 (0,false)=(bt s 0,(1,false)):=kQ (by omega) (by omega) (by omega);rw[e0]at p1 a1 b1;simp only at p1 a1 b1;have e1:iW s 84 84 (1,false)=(bt s 1,(2,false)):=kQ p1 a1 b1;rw[e0]at J I b2;simp only at J I b2;rw[e1]at J I b2;simp only at J I b2;have e2:iW s 1 1 (2,false)=(bt s 2,(3,false)):=kQ J I b2;have r3:CJ s=(3,false):=by unfold CJ;rw[e0];simp only;rw[e1];simp only;rw[e2]
 rw[r3]at p3 a3 b3;simp only at p3 a3 b3;have e3:iW s 1 8 (3,false)=(iR s,(4,false)):=kQ p3 a3 b3;have ru:jU s=iR s:=by unfold jU;rw[r3,e3]
 have r4:Xr s=(4,false):=by unfold Xr;rw[r3,e3]
 rw[r4,ru]at D;rw[r4,ru]at Y;simp only at D Y;have D:=D (by omega);have e4:=V9 (s:=s) (hi:=5) (iR s) [] 4 D Y;have r5:Nv s=(4+iR s,false):=by unfold Nv;rw[ru,r4,e4]
 have be:oG s=(MH (iR s)).map (nA s):=by unfold oG;rw[ru,r4,e4];rfl
 rw[r5]at p5 X Z;simp only at p5 X Z;have e5:iW s 1 4 (4+iR s,false)=(iM s,(4+iR s+1,false)):=kQ p5 X Z;have mn:xG s=iM s:=by unfold xG;rw[r5,e5]
 have r6:Ny s=(5+iR s,false):=by unfold Ny;rw[r5,e5,o.2];simp only[QH];congr 1;omega
 have ho:∀j,j<iR s->nA s j<=1+iM s:=λ j C=>by
  have:=CQ o.2 (nA s j) (by rw[be,PA];exact⟨j,OS.2 C,rfl⟩);rw[mn]at this;exact this
 rw[r6]at V;simp only at V;have e6:iW s 0 255 (5+iR s,false)=(bt s (5+iR s),(5+iR s+1,false)):=kQ V (by omega) (by have:=mT s (5+iR s);omega);have cl:mS s=iK s:=by unfold mS;rw[r6,e6];unfold iK;simp only;omega
 have r7:Sr s=(6+iR s,false):=by unfold Sr;rw[r6,e6];simp only;congr 1;omega
 rw[r7]at F;rw[r7,cl]at c7;simp only at F c7;have F:=F (by omega);have Q:1<=iR s:=a3;have U:iR s<=8:=b3;have aL:1<=iM s:=X;have aO:iM s<=4:=Z;have hd:=Gb (s:=s) (by omega) ⟨by omega,by omega,by omega⟩ ⟨Q,U⟩ ⟨D,Y⟩ ⟨p5,aL,aO⟩ ho V ⟨F,c7⟩;have h9:=h;unfold Nw at h9 hs;rw[hd.ru,hd.cl,hd.mn]at h9 hs;obtain⟨q1,q2,q3⟩:=Mf (s:=s) (iM s) [] 0 (q8 s) (by rw[hd.r8]) h9;rw[q3,LM]at hs;refine mK.2 ⟨pK.2 ⟨by omega,⟨by omega,by omega,by omega⟩,Q,U⟩,?_,?_,?_,λ c hc=>by have:=q2 c hc;rw[LM]at this;exact this,hs⟩
 ·unfold wZ;rw[ME];refine⟨oD (by omega) (λ j C=>?_),decide_eq_true (by omega)⟩;have e:j=0:=by omega
  subst e;have:bt s (4+iR s+0)=iM s:=rfl;omega
 ·unfold zN;rw[ME];refine⟨oD D (λ j C=>?_),oD (by omega) (λ j C=>?_)⟩
  ·have:=ho j C;unfold nA at this;omega
  ·have:=mT s (5+iR s+j);omega
 ·unfold yE;refine oD F (λ j C=>?_);have:=c7 j C;have:=IV s;omega
theorem AS(s:tB):(Nw s).1<=s.size:=by
 unfold Nw q8 Sr Ny Nv Xr CJ;refine Vt _ _ _ (Dg _ _ _ (lW ?_));exact lW (Dg _ _ _ (lW (lW (lW (lW (by simp))))))
theorem BX(s:tB):((Nw s).2||decide ((Nw s).1<s.size))= !(iF s):=by
 have C:=AS s
 cases hi:iF s with
 | true=>rw[(Gw hi).2];simp
 | false=>
  cases h2:(Nw s).2 with
  | true=>rfl
  | false=>
   by_cases o:(Nw s).1<s.size
   ·simp[o]
   ·rw[k8 h2 (by omega)]at hi;cases hi
def nT(vb:tV)(cs:List Nat)(vc:tV):List tV:=vb::(pA cs++[vc])
theorem nJ(l:List Nat):(pA l).length=l.length:=by simp[pA]
theorem P8(l:List Nat)(k:Nat)(h:k<l.length):(pA l)[k]?=some (.int .i64 (l[k]:Int)):=by simp[pA,h]
theorem nY(vb:tV)(cs:List Nat)(vc:tV)(h:cs.length=256):(nT vb cs vc).length=258:=by simp[nT,nJ,h]
theorem So(vb:tV)(cs:List Nat)(vc:tV):(nT vb cs vc)[0]?=some vb:=rfl
theorem b8(vb:tV)(cs:List Nat)(vc:tV)(k:Nat)(h:k<cs.length):(nT vb cs vc)[1+k]?=some (.int .i64 (cs[k]:Int)):=by
 unfold nT;rw[QI,NC,MS (by rw[nJ];exact h),P8 _ _ h]
theorem yI(vb:tV)(cs:List Nat)(vc:tV)(h:cs.length=256):(nT vb cs vc)[257]?=some vc:=by
 unfold nT;rw[NC,MB (by rw[nJ,h];omega),nJ,h];rfl
theorem Xl(vb:tV)(cs:List Nat)(vc u:tV):(nT vb cs vc).set 0 u=nT u cs vc:=rfl
theorem Wk(vb:tV)(cs:List Nat)(vc:tV)(k x:Nat)(h:k<cs.length):(nT vb cs vc).set (1+k) (.int .i64 (x:Int))=nT vb (cs.set k x) vc:=by
 unfold nT;rw[QI,PW,List.set_append_left _ _ (by rw[nJ];exact h)];simp[pA,List.map_set]
theorem Ke(vb:tV)(cs:List Nat)(vc u:tV)(h:cs.length=256):(nT vb cs vc).set 257 u=nT vb cs u:=by
 unfold nT;rw[PW,PO _ _ (by rw[nJ,h];omega),nJ,h];rfl
theorem Kc(xs:List Nat)(m x:Nat):(xs++MD (m+1) 0).set xs.length x=(xs++[x])++MD m 0:=by
 rw[PO _ _ lR,OF,List.replicate_succ,List.set_cons_zero];simp
theorem yW{w:tW}{l:List tV}(h:w.rangeAt b 0 l)(k:Nat)(C:k<l.length)(v:tV):(w.setCell ⟨b,k,none⟩ v).rangeAt b 0 (l.set k v):=by
 intro j u o;rw[LM];by_cases e:j=k
 ·subst e;rw[OG C]at o;injection o with o;rw[<-o];have:=h j (l[j]) (LQ C);rw[LM]at this;exact LH _ _ _ this
 ·rw[OK (λ h=>e h.symm)]at o;rw[LD (h:=by intro D;injection D;omega)];have:=h j u o;rw[LM]at this;exact this
theorem H9{w:tW}{C o:Nat}{l:List tV}(h:w.rangeAt b 0 l)(I:b≠C)(v:tV):(w.setCell ⟨C,o,none⟩ v).rangeAt b 0 l:=by
 intro j u D;rw[LD (h:=by intro F;injection F;omega)];exact h j u D
theorem Ry(l:List Nat)(m k:Nat)(h:k<l.length):vD (l.take (k+1)) m=(vD (l.take k) m||decide (m<l[k])):=by
 have e:l.take (k+1)=l.take k++[l[k]]:=by rw[PZ,LQ h];rfl
 unfold vD;rw[e,ON];simp only[MT,MR,Bool.or_eq_true,aE];constructor
 ·rintro⟨x,C|C,o⟩
  ·exact .inl ⟨x,C,o⟩
  ·subst C;exact .inr o
 ·rintro(⟨x,C,o⟩|o)
  ·exact⟨x,.inl C,o⟩
  ·exact⟨_,.inr rfl,o⟩
abbrev pF:=Nat×List ((Nat×List Int)×Nat)
structure oH(w:tW)(cl:Nat)(y:pF):Prop where
 lt:y.1<w.heap.size
 rg:w.rangeAt y.1 0 (Ju cl y.2)
 bF:∀z∈y.2,z.2<w.heap.size/\w.rangeAt z.2 0 (pN z.1.2)
def U1(y:pF)(k:Nat):Prop:=k=y.1\/∃z∈y.2,k=z.2
theorem oH.block{w w':tW}{y:pF}(h:oH w cl y)(D:w.heap.size<=w'.heap.size)(C:∀k,k<w.heap.size->U1 y k->w'.heap[k]?=w.heap[k]?):oH w' cl y:=
 ⟨LJ h.lt D,fY h.rg (C _ h.lt (.inl rfl)),λ z o=>⟨LJ (h.bF z o).1 D,fY (h.bF z o).2 (C _ (h.bF z o).1 (.inr ⟨z,o,rfl⟩))⟩⟩
theorem oH.own{w:tW}{y:pF}(h:oH w cl y){k:Nat}(o:U1 y k):k<w.heap.size:=by
 rcases o with rfl|⟨z,C,rfl⟩
 ·exact h.lt
 ·exact(h.bF z C).1
theorem oH.below{w w':tW}{y:pF}(h:oH w cl y)(o:Below B w w')(D:w.heap.size<=B):oH w' cl y:=h.block o.size (λ k C _=>o.block k (by omega))
def xO(ys:List pF):List tV:=ys.map λ(y:pF)=>MY (some ⟨y.1,0,none⟩) y.2.length y.2.length
theorem Ce(ys:List pF)(y:pF):xO (ys++[y])=xO ys++[MY (some ⟨y.1,0,none⟩) y.2.length y.2.length]:=by simp[xO]
theorem DI(s:tB)(h:3<=s.size):((s.extract 0 3).toList=[83,84,1])↔(bt s 0=83/\bt s 1=84/\bt s 2=1):=by
 rw[ByteArray.toList_eq];have e:(s.extract 0 3).data.toList=s.data.toList.take 3:=by
  simp[ByteArray.data_extract]
 rw[e];unfold bt;have o:3<=s.data.toList.length:=by simpa using h
 generalize s.data.toList=l at o⊢
 match l,o with
 | a::b::c::r,_=>
  simp;refine⟨?_,?_⟩
  ·rintro⟨rfl,rfl,rfl⟩;decide
  ·rintro⟨C,D,F⟩;exact⟨PK.1 C,PK.1 D,PK.1 F⟩
theorem Bc(cl:Nat)(zs:List ((Nat×List Int)×Nat)):∀(k:Nat)(z:(Nat×List Int)×Nat),zs[k]?=some z->(Ju cl zs)[2*k]?=some (.int .i64 (z.1.1:Int))/\(Ju cl zs)[2*k+1]?=some (.slice (some ⟨z.2,0,none⟩) cl cl):=by
 induction zs with
 | nil=>intro k z h;simp at h
 | cons y r ih=>
  intro k z h;have e:Ju cl (y::r)=ML .i64 (y.1.1:Int)::MY (some ⟨y.2,0,none⟩) cl cl::Ju cl r:=by simp[Ju]
  rw[e]
  cases k with
  | zero=>simp at h;subst h;exact⟨rfl,rfl⟩
  | succ j=>
   have:=ih j z (by simpa using h);rw[show 2*(j+1)=2*j+1+1 by omega];exact⟨by simpa using this.1,by simpa using this.2⟩
theorem Gp(ys:List pF)(k:Nat)(y:pF)(h:ys[k]?=some y):(xO ys)[k]?=some (.slice (some ⟨y.1,0,none⟩) y.2.length y.2.length):=by
 unfold xO;rw[MC,h];rfl
theorem zY(l:List Int)(k:Nat)(x:Int)(h:l[k]?=some x):(pN l)[k]?=some (.int .i64 x):=by
 unfold pN;rw[MC,h];rfl
def Tv(s:tB)(c st v:Nat):Int:=oN (iA s c st v)
structure IM(w:tW)(s:tB)(bb vg:Nat)(yb:Nat->Nat)(zb:Nat->Nat->Nat)(top:Nat):Prop where
 be:∀r,r<iR s->w.cell? ⟨bb,r,none⟩=some (.int .i64 (nA s r))
 co:∀c,c<iM s->w.cell? ⟨vg,c,none⟩=some (.slice (some ⟨yb c,0,none⟩) (qW s c) (qW s c))
 tk:∀c st,c<iM s->st<qW s c->w.cell? ⟨yb c,2*st,none⟩=some (.int .i64 (jO s c st))
 nx:∀c st,c<iM s->st<qW s c->w.cell? ⟨yb c,2*st+1,none⟩=some (.slice (some ⟨zb c st,0,none⟩) (iK s) (iK s))
 ld:∀c st v,c<iM s->st<qW s c->v<256->w.cell? ⟨zb c st,tJ s v,none⟩=some (.int .i64 (Tv s c st v))
 b0:bb<top
 b1:vg<top
 b2:∀c,c<iM s->yb c<top
 b3:∀c st,c<iM s->st<qW s c->zb c st<top
structure KZ(s:tB)(bb vg:Nat)(yb:Nat->Nat)(zb:Nat->Nat->Nat)(lo:Nat):Prop where
 b0:lo<=bb
 b1:lo<=vg
 b2:∀c,c<iM s->lo<=yb c
 b3:∀c st,c<iM s->st<qW s c->lo<=zb c st
theorem IM.blocks{w w':tW}{s:tB}{yb:Nat->Nat}{zb:Nat->Nat->Nat}(h:IM w s bb vg yb zb top)(F:KZ s bb vg yb zb lo)(D:∀k,lo<=k->k<top->w'.heap[k]?=w.heap[k]?):IM w' s bb vg yb zb top:=
 ⟨λ r I=>(LC (w:=w) (a:=⟨bb,r,none⟩) (D _ F.b0 h.b0)).trans (h.be r I),λ c o=>(LC (w:=w) (a:=⟨vg,c,none⟩) (D _ F.b1 h.b1)).trans (h.co c o),
  λ c st o C=>(LC (w:=w) (a:=⟨yb c,2*st,none⟩) (D _ (F.b2 c o) (h.b2 c o))).trans (h.tk c st o C),λ c st o C=>(LC (w:=w) (a:=⟨yb c,2*st+1,none⟩) (D _ (F.b2 c o) (h.b2 c o))).trans (h.nx c st o C),
  λ c st v o C J=>(LC (w:=w) (a:=⟨zb c st,tJ s v,none⟩) (D _ (F.b3 c st o C) (h.b3 c st o C))).trans (h.ld c st v o C J),h.b0,h.b1,h.b2,h.b3⟩
theorem IM.below{w w':tW}{s:tB}{yb:Nat->Nat}{zb:Nat->Nat->Nat}(h:IM w s bb vg yb zb top)(D:Below B w w')(F:top<=B):IM w' s bb vg yb zb top:=
 ⟨λ r I=>(D.cell (p:=⟨bb,r,none⟩) (LJ h.b0 F)).trans (h.be r I),λ c o=>(D.cell (p:=⟨vg,c,none⟩) (LJ h.b1 F)).trans (h.co c o),
  λ c st o C=>(D.cell (p:=⟨yb c,2*st,none⟩) (LJ (h.b2 c o) F)).trans (h.tk c st o C),λ c st o C=>(D.cell (p:=⟨yb c,2*st+1,none⟩) (LJ (h.b2 c o) F)).trans (h.nx c st o C),
  λ c st v o C J=>(D.cell (p:=⟨zb c st,tJ s v,none⟩) (LJ (h.b3 c st o C) F)).trans (h.ld c st v o C J),h.b0,h.b1,h.b2,h.b3⟩
theorem IM.drewN{w:tW}{s:tB}{yb:Nat->Nat}{zb:Nat->Nat->Nat}(h:IM w s bb vg yb zb top)(q:Nat):IM (w.drewN q) s bb vg yb zb top:=⟨h.be,h.co,h.tk,h.nx,h.ld,h.b0,h.b1,h.b2,h.b3⟩
def jN(s aI:tB)(c:Nat):Nat->Nat->Nat->Option Nat
 | st,_,0=>some st
 | st,i,d+1=>if iA s c st (bt aI i)=255 then none else jN s aI c (iA s c st (bt aI i)) (i+1) d
theorem Fb(s aI:tB)(c:Nat):∀d st i,jN s aI c st i (d+1)=
  match jN s aI c st i d with
  | none=>none
  | some t=>if iA s c t (bt aI (i+d))=255 then none else some (iA s c t (bt aI (i+d))):=by
 intro d
 induction d with
 | zero=>intro st i;simp[jN]
 | succ e ih=>
  intro st i;rw[jN];split
  ·rename_i h;rw[jN,aB h]
  ·rename_i h;rw[ih,jN,aA h];have:i+1+e=i+(e+1):=by omega
   rw[this]
theorem Mn(s aI:tB)(c p:Nat):∀d,oP s aI c p d=jN s aI c 0 p d:=by
 intro d
 induction d with
 | zero=>rfl
 | succ e ih=>rw[oP,ih,Fb];all_goals (cases jN s aI c 0 p e<;>rfl)
def dead(s aI:tB)(c st i:Nat):Prop:=∀d t,1<=d->i+d<=aI.size->jN s aI c st i d=some t->jO s c t=0
def zB(s aI:tB)(H:List (Int×Int×Int)):Prop:=∀c st i,uG c st i∈H->dead s aI c st i
theorem Zo{s aI:tB}(h:¬i<aI.size):dead s aI c st i:=by
 intro d t o hi;omega
theorem R1{s aI:tB}(h:iA s c st (bt aI i)=255):dead s aI c st i:=by
 intro d t C hi o;obtain⟨e,rfl⟩:∃e,d=e+1:=⟨d-1,by omega⟩
 rw[jN,aB h]at o;cases o
theorem Yb{s aI:tB}(h:iA s c st (bt aI i)≠255)(D:jO s c (iA s c st (bt aI i))=0)(C:dead s aI c (iA s c st (bt aI i)) (i+1)):dead s aI c st i:=by
 intro d t F hi o;obtain⟨e,rfl⟩:∃e,d=e+1:=⟨d-1,by omega⟩
 rw[jN,aA h]at o
 cases e with
 | zero=>rw[jN]at o;injection o with o;rw[<-o];exact D
 | succ f=>exact C (f+1) t (by omega) (by omega) o
def nX(s aI:tB)(c:Nat)(H:List (Int×Int×Int)):Nat->Nat->Nat->Option (Nat×Nat)->Option (Nat×Nat)
 | 0,_,_,best=>best
 | d+1,st,i,best=>
  if sS H (uG c st i)=true then best
  else if iA s c st (bt aI i)=255 then best
  else nX s aI c H d (iA s c st (bt aI i)) (i+1) (if 0<jO s c (iA s c st (bt aI i))then some (jO s c (iA s c st (bt aI i))-1,i+1)else best)
theorem Si{s aI:tB}:∀d st i o,i+d<=aI.size->dead s aI c st i->nX s aI c [] d st i o=o:=by
 intro d
 induction d with
 | zero=>intro st i o _ _;rfl
 | succ e ih=>
  intro st i o hi C;rw[nX,aA (by simp[sS])];split
  ·rfl
  ·rename_i h;have F:jO s c (iA s c st (bt aI i))=0:=C 1 _ (by omega) (by omega) (by rw[jN,aA h,jN]);rw[aA (by omega)];refine ih _ _ _ (by omega) ?_;intro d t I J D;exact C (d+1) t (by omega) (by omega) (by rw[jN,aA h];exact D)
theorem Ou{s aI:tB}(F:zB s aI H):∀d st i o,i+d<=aI.size->nX s aI c H d st i o=nX s aI c [] d st i o:=by
 intro d
 induction d with
 | zero=>intro st i o _;rfl
 | succ e ih=>
  intro st i o hi;by_cases C:sS H (uG c st i)=true
  ·rw[nX,aB C];have D:uG c st i∈H:=by unfold sS at C;exact NR.1 C
   exact(Si (e+1) st i o hi (F c st i D)).symm
  ·rw[nX,aA C]
   conv=>rhs;rw[nX,aA (by simp[sS])]
   split
   ·rfl
   ·exact ih _ _ _ (by omega)
def uI(s aI:tB)(c st i:Nat):Nat->Option (Nat×Nat)
 | 0=>none
 | d+1=>match jN s aI c st i (d+1)with
  | none=>uI s aI c st i d
  | some t=>if 0<jO s c t then some (jO s c t-1,i+(d+1))else uI s aI c st i d
theorem Em{s aI:tB}(h:iA s c st (bt aI i)=255):∀d,uI s aI c st i d=none:=by
 intro d
 induction d with
 | zero=>rfl
 | succ e ih=>
  have o:jN s aI c st i (e+1)=none:=by rw[jN,aB h]
  rw[uI,o];exact ih
theorem Pb{s aI:tB}(h:iA s c st (bt aI i)≠255):∀d,uI s aI c st i (d+1)=
  (uI s aI c (iA s c st (bt aI i)) (i+1) d).or (if 0<jO s c (iA s c st (bt aI i))then some (jO s c (iA s c st (bt aI i))-1,i+1)else none):=by
 intro d
 induction d with
 | zero=>
  have C:jN s aI c st i (0+1)=some (iA s c st (bt aI i)):=by
   conv=>lhs;rw[jN,aA h]
   rfl
  conv=>lhs;rw[uI,C]
  simp[uI]
 | succ e ih=>
  have C:jN s aI c st i (e+1+1)=jN s aI c (iA s c st (bt aI i)) (i+1) (e+1):=by
   conv=>lhs;rw[jN,aA h]
  rw[uI,C]
  conv=>rhs;rw[uI]
  cases jN s aI c (iA s c st (bt aI i)) (i+1) (e+1)with
  | none=>exact ih
  | some t=>
   simp only;by_cases o:0<jO s c t
   ·rw[aB o,aB o];simp;omega
   ·rw[aA o,aA o];exact ih
theorem Qu{s aI:tB}:∀d st i o,nX s aI c [] d st i o=(uI s aI c st i d).or o:=by
 intro d
 induction d with
 | zero=>intro st i o;simp[nX,uI]
 | succ e ih=>
  intro st i o;rw[nX,aA (by simp[sS])];by_cases h:iA s c st (bt aI i)=255
  ·rw[aB h,Em h];simp
  ·rw[aA h,ih,Pb h];by_cases C:0<jO s c (iA s c st (bt aI i))
   ·rw[aB C,aB C];cases uI s aI c (iA s c st (bt aI i)) (i+1) e<;>simp
   ·rw[aA C,aA C];cases uI s aI c (iA s c st (bt aI i)) (i+1) e<;>simp
theorem FV(s aI:tB)(c p:Nat):∀d,sN s aI c p d=match uI s aI c 0 p d with
  | none=>(-1,p)
  | some x=>((x.1:Int),x.2):=by
 intro d
 induction d with
 | zero=>rfl
 | succ e ih=>
  rw[sN,uI];unfold zO;rw[Mn]
  cases h:jN s aI c 0 p (e+1)with
  | none=>simp only;exact ih
  | some t=>
   simp only;by_cases o:0<jO s c t
   ·rw[aB o,aB o]
   ·rw[aA o,aA o];exact ih
theorem Sh{s aI:tB}(o:zB s aI H)(C:p<=aI.size):
  Fk s aI c p=match nX s aI c H (aI.size-p) 0 p none with
   | none=>(-1,p)
   | some x=>((x.1:Int),x.2):=by
 unfold Fk;rw[Ou o _ _ _ _ (by omega),Qu,FV]
 cases uI s aI c 0 p (aI.size-p)<;>simp
theorem Iw{C:Nat}(h:uG c st i=uG C st' i'):c=C/\st=st'/\i=i':=by
 unfold uG at h;injection h with D o;injection o with o F;omega
theorem Ox{s aI:tB}(Q:zB s aI H):∀d st i S n,i+d=aI.size->
  (∀C st' i',uG C st' i'∈S->dead s aI c st i->dead s aI C st' i')->zB s aI (pB s aI c H d st i S n).1:=by
 intro d
 induction d with
 | zero=>
  intro st i S n hi I C st' i' o;exact I C st' i' o (Zo (by omega))
 | succ e ih=>
  intro st i S n hi I;by_cases D:sS H (uG c st i)=true
  ·rw[zV D];intro C st' i' o;exact I C st' i' o (Q c st i (by unfold sS at D;exact NR.1 D))
  ·have D:sS H (uG c st i)=false:=by simpa using D
   by_cases F:iA s c st (bt aI i)=255
   ·rw[xU D F];intro C st' i' o;rcases MT.1 o with h|h
    ·exact I C st' i' h (R1 F)
    ·rw[MR]at h;obtain⟨rfl,rfl,rfl⟩:=Iw h;exact R1 F
   ·by_cases V:0<jO s c (iA s c st (bt aI i))
    ·rw[C0 D F V];exact ih _ _ _ _ (by omega) (λ C st' i' h=>by cases h)
    ·rw[K6 D F (by omega)];refine ih _ _ _ _ (by omega) (λ C st' i' h U=>?_);have J:=Yb F (by omega) U;rcases MT.1 h with h|h
     ·exact I C st' i' h J
     ·rw[MR]at h;obtain⟨rfl,rfl,rfl⟩:=Iw h;exact J
theorem Wo{s aI:tB}(C:zB s aI H)(F:p<=aI.size):zB s aI (H++(iE s aI c H p).1):=by
 intro D st' i' o;rcases MT.1 o with h|h
 ·exact C D st' i' h
 ·exact Ox C _ 0 p [] 0 (by omega) (λ _ _ _ h=>by cases h) D st' i' h
def hZ(l:List (Int×Int×Int)):List tV:=l.flatMap λ x=>[.int .i64 x.1,.int .i64 x.2.1,.int .i64 x.2.2]
theorem Ev(l:List (Int×Int×Int)):(hZ l).length=l.length*3:=by
 induction l with
 | nil=>rfl
 | cons a r ih=>simp only[hZ,List.flatMap_cons,LR,NY,OO]at*;omega
theorem Rs(l:List (Int×Int×Int))(k:Nat)(x:Int×Int×Int)(h:l[k]?=some x):
  (hZ l)[k*3]?=some (.int .i64 x.1)/\(hZ l)[k*3+1]?=some (.int .i64 x.2.1)/\(hZ l)[k*3+2]?=some (.int .i64 x.2.2):=by
 induction l generalizing k with
 | nil=>simp at h
 | cons a r ih=>
  cases k with
  | zero=>simp at h;subst h;simp[hZ]
  | succ n=>
   have:=ih n (by simpa using h);have e:hZ (a::r)=[.int .i64 a.1,.int .i64 a.2.1,.int .i64 a.2.2]++hZ r:=rfl;rw[e];have C:(n+1)*3=n*3+3:=by omega
   rw[C,MB (by simp),MB (by simp only[NY,OO];omega),MB (by simp only[NY,OO];omega)];simp only[NY,OO];have a1:n*3+3-(0+1+1+1)=n*3:=by omega
   have o:n*3+3+1-(0+1+1+1)=n*3+1:=by omega
   have D:n*3+3+2-(0+1+1+1)=n*3+2:=by omega
   rw[a1,o,D];exact this
theorem Y8(l:List (Int×Int×Int))(x:Int×Int×Int):hZ (l++[x])=hZ l++[.int .i64 x.1,.int .i64 x.2.1,.int .i64 x.2.2]:=by
 simp[hZ]
theorem Ep(l m:List (Int×Int×Int)):hZ (l++m)=hZ l++hZ m:=by
 simp[hZ]
def Dd(L:Nat)(S:List (Int×Int×Int)):List tV:=S.map λ(x:Int×Int×Int)=>ML .i64 (x.2.1*(L:Int)+x.2.2)
theorem Yi(L:Nat)(S:List (Int×Int×Int))(c st i:Nat):Dd L (S++[uG c st i])=Dd L S++[ML .i64 ((st:Int)*(L:Int)+(i:Int))]:=by simp[Dd,uG]
def J2(s aI:tB)(H:List (Int×Int×Int))(HT:Nat->Nat->Bool):Prop:=∀c st i,c<iM s->st<qW s c->i<aI.size->HT c (st*aI.size+i)=sS H (uG c st i)
def KF(s aI:tB)(c:Nat)(S:List (Int×Int×Int)):Prop:=∀x∈S,∃st i,x=uG c st i/\st<qW s c/\i<aI.size
theorem q9{s aI:tB}(h:KF s aI c S)(C:st<qW s c)(F:i<aI.size):KF s aI c (S++[uG c st i]):=λ x D=>by
 rcases MT.1 D with o|o
 ·exact h x o
 ·rw[MR]at o;exact⟨st,i,o,C,F⟩
theorem Tp(s aI:tB)(c:Nat):KF s aI c []:=λ _ o=>absurd o (OH)
theorem CG(H:List (Int×Int×Int))(x y:Int×Int×Int):sS (H++[x]) y=(sS H y||decide (y=x)):=by
 unfold sS;rw[ON];simp
theorem C3(o:st<n)(C:i<L):st*L+i<n*L:=by
 have:=OJ L (show st+1<=n from o);rw[NM]at this;omega
theorem Xn(D:i<L)(F:i'<L)(h:st*L+i=st'*L+i'):st=st'/\i=i':=by
 have o:0<L:=by omega
 have C:(st*L+i)/L=st:=by rw[PC,QD o,QB D];omega
 have I:(st'*L+i')/L=st':=by rw[PC,QD o,QB F];omega
 have e:st=st':=by rw[<-C,<-I,h]
 subst e;exact⟨rfl,by omega⟩
theorem Vl{s aI:tB}{HT:Nat->Nat->Bool}(h:J2 s aI H HT){c st i:Nat}(I:i<aI.size):
  J2 s aI (H++[uG c st i]) (λ j m=>if j=c/\m=st*aI.size+i then true else HT j m):=by
 intro o st' i' U J hi;rw[CG];by_cases e:o=c/\st'*aI.size+i'=st*aI.size+i
 ·simp only;rw[aB e];obtain⟨C,D⟩:=Xn hi I e.2;rw[e.1,C,D];simp
 ·simp only;rw[aA e,h o st' i' U J hi];have:decide (uG o st' i'=uG c st i)=false:=by
   rw[aF];intro q;obtain⟨F,V,Q⟩:=Iw q;exact e ⟨F,by rw[V,Q]⟩
  rw[this,Bool.or_false]
def Ni:Option (Nat×Nat)->Nat
 | none=>0
 | some x=>x.1+1
def KO(p:Nat):Option (Nat×Nat)->Nat
 | none=>p
 | some x=>x.2
theorem My{s aI:tB}{b:Option (Nat×Nat)}(h:sS H (uG c st i)=true):nX s aI c H (d+1) st i b=b:=by rw[nX,aB h]
theorem En{s aI:tB}{c d st i:Nat}{H:List (Int×Int×Int)}{b:Option (Nat×Nat)}(h:sS H (uG c st i)=false)(o:iA s c st (bt aI i)=255):nX s aI c H (d+1) st i b=b:=by
 rw[nX,aA (by rw[h];decide),aB o]
theorem Lo{s aI:tB}{c d st i:Nat}{H:List (Int×Int×Int)}{b:Option (Nat×Nat)}(h:sS H (uG c st i)=false)(C:iA s c st (bt aI i)≠255)(o:0<jO s c (iA s c st (bt aI i))):
  nX s aI c H (d+1) st i b=nX s aI c H d (iA s c st (bt aI i)) (i+1) (some (jO s c (iA s c st (bt aI i))-1,i+1)):=by
 rw[nX,aA (by rw[h];decide),aA C,aB o]
theorem Og{s aI:tB}{c d st i:Nat}{H:List (Int×Int×Int)}{b:Option (Nat×Nat)}(h:sS H (uG c st i)=false)(o:iA s c st (bt aI i)≠255)(C:jO s c (iA s c st (bt aI i))=0):
  nX s aI c H (d+1) st i b=nX s aI c H d (iA s c st (bt aI i)) (i+1) b:=by
 rw[nX,aA (by rw[h];decide),aA o,aA (by omega)]
theorem BL(o:Nat):∀(l:List tV)(n:Nat)(Z:Array tV),((l.zipIdx n).foldl (λ cs x=>cs.setIfInBounds (o+x.2) x.1) Z).size=Z.size/\
  ∀k,((l.zipIdx n).foldl (λ cs x=>cs.setIfInBounds (o+x.2) x.1) Z)[k]?=if o+n<=k/\k<o+n+l.length/\k<Z.size then l[k-(o+n)]? else Z[k]? :=by
 intro l
 induction l with
 | nil=>intro n Z;refine⟨rfl,λ k=>?_⟩;rw[aA (by simp;omega)];rfl
 | cons v r ih=>
  intro n Z;rw[List.zipIdx_cons,List.foldl_cons];obtain⟨D,F⟩:=ih (n+1) (Z.setIfInBounds (o+n) v);refine⟨by rw[D];simp,λ k=>?_⟩;rw[F k];simp only[Array.size_setIfInBounds,NY];by_cases e:k=o+n
  ·subst e;rw[aA (by omega)];by_cases I:o+n<Z.size
   ·rw[aB (by omega),Array.getElem?_setIfInBounds_self_of_lt I];simp
   ·rw[aA (by omega),PE (by simp;omega),PE (by omega)]
  ·by_cases C:o+(n+1)<=k/\k<o+(n+1)+r.length/\k<Z.size
   ·rw[aB C,aB (by omega),show k-(o+n)=(k-(o+(n+1)))+1 by omega,NC]
   ·rw[aA C,aA (by omega),Array.getElem?_setIfInBounds_ne (by omega)]
theorem D9{A:Array tV}{q:tV->Bool}(h:A.all q=true){i:Nat}{v:tV}(o:A[i]?=some v):q v=true:=by
 rw[OX]at h;obtain⟨hi,rfl⟩:=NW.1 o;exact h i hi
theorem R9(o:Nat)(A Z:Array tV):(A.zipIdx.foldl (λ cs x=>cs.setIfInBounds (o+x.2) x.1) Z).size=Z.size/\
  ∀k,(A.zipIdx.foldl (λ cs x=>cs.setIfInBounds (o+x.2) x.1) Z)[k]?=if o<=k/\k<o+A.size/\k<Z.size then A[k-o]? else Z[k]? :=by
 have h:=BL o A.toList 0 Z;have e:A.zipIdx.foldl (λ cs x=>cs.setIfInBounds (o+x.2) x.1) Z=(A.toList.zipIdx 0).foldl (λ cs x=>cs.setIfInBounds (o+x.2) x.1) Z:=by
  rw[<-Array.foldl_toList,Array.toList_zipIdx]
 rw[e];refine⟨h.1,λ k=>?_⟩;rw[h.2 k];simp
theorem IM.mono{w:tW}{s:tB}{yb:Nat->Nat}{zb:Nat->Nat->Nat}{o:Nat}(h:IM w s bb vg yb zb top)(C:top<=o):IM w s bb vg yb zb o:=
 ⟨h.be,h.co,h.tk,h.nx,h.ld,LJ h.b0 C,LJ h.b1 C,λ c D=>LJ (h.b2 c D) C,λ c st D F=>LJ (h.b3 c st D F) C⟩
def pE(s aI:tB):List (Int×Int×Int)×Nat×Int:=
 if 120000<s.size\/300<aI.size then([],0,1)else if iF s=true then((pU s aI 0).1,(pU s aI 0).2.1,0)else([],0,5)
def mB(a b:List (Int×Int×Int)):Bool:=decide (a=b)
theorem Xs{s aI:tB}(hi:iF s=true):∀(f p c:Nat)(H:List (Int×Int×Int)) (n:Nat) (T:List (Int×Int×Int)),c<iM s->(yP s aI f p c H n T).2.2<iM s:=by
 intro f
 induction f with
 | zero=>intro p c H n T h;rw[yP];exact h
 | succ e ih=>
  intro p c H n T F;by_cases o:p<aI.size
  ·rcases yC hi F (MU o)with D|⟨r,q,C,I,J,Q⟩
   ·rw[vX o D];exact F
   ·rw[wB o C];have:=vV hi I;exact ih q _ _ _ _ (by split<;>omega)
  ·rw[yS o];exact F
theorem Xo{s aI:tB}(hi:iF s=true){c:Nat}(o:c<iM s):(pU s aI c).2.2<iM s:=Xs hi _ _ _ _ _ _ o
theorem iC(w:tW)(b i:Nat)(v:tV){k:Nat}(h:k≠b):(w.setCell ⟨b,i,none⟩ v).heap[k]?=w.heap[k]? :=MQ w ⟨b,i,none⟩ v k (by intro e;exact h e)
def U7{α:Type}(f:Nat->α)(k:Nat)(v:α):Nat->α:=λ i=>if i=k then v else f i
theorem iX{α:Type}(f:Nat->α)(k:Nat)(v:α):U7 f k v k=v:=by unfold U7;rw[aB rfl]
theorem gZ{α:Type}(f:Nat->α){k i:Nat}(v:α)(h:i≠k):U7 f k v i=f i:=by unfold U7;rw[aA h]
def Io(s aI:tB)(c:Nat):List (Int×Int×Int):=if 300<aI.size then []else(pU s aI c).1
def CX(aI:tB):Int:=if 300<aI.size then 1 else 0
def IJ(s aI:tB)(c:Nat):Nat:=if 300<aI.size then c else(pU s aI c).2.2
def JB:List UInt8:= [83,84,1,1,0,1,0]++MD 256 0++[1,0,0]
def SM:tB:=⟨JB.toArray⟩
def Zs:tB:=⟨(MD 256 (0:UInt8)).toArray⟩
theorem Wa:(⟨#[83,84,1,1,0,1,0]⟩:tB)++Zs++(⟨#[1,0,0]⟩:tB)=SM:=by decide+kernel
theorem Qm:SM.size=266:=by decide+kernel
end Go.Stn
namespace Go.Proofs.YtgjgjgihceijnaaGreat
open Go.RowKit Go.Stn
variable {p:Prop}{v:Option Nat}{B lo bb g k cl aH size n b ca cs c m aJ i cb vg aU rb ib:Nat}{l:List Nat}{e ty:TypeId}{x:Operand}{gd:Option (Nat×Bool)}{a:Act}
section
theorem fV(h:p):QP p:=h
structure C7(w:tW)(rb:Nat)(s:tB)(r:wA):Prop where
 c0:w.cell? ⟨rb,0,none⟩=some (.string s)
 c1:w.cell? ⟨rb,1,none⟩=some (.int .i64 r.1)
 c2:w.cell? ⟨rb,2,none⟩=some (.bool r.2)
 fz:∀i,w.frozen? ⟨rb,i,none⟩=false
 hb:rb<w.heap.size
variable {w w':tW}{rb:Nat}{s:tB}{r:wA}
theorem C7.block(h:C7 w rb s r)(o:w'.heap[rb]?=w.heap[rb]?)(C:w.heap.size<=w'.heap.size):C7 w' rb s r:=
 ⟨(LC (w:=w) (a:=⟨rb,0,none⟩) o).trans h.c0,(LC (w:=w) (a:=⟨rb,1,none⟩) o).trans h.c1,(LC (w:=w) (a:=⟨rb,2,none⟩) o).trans h.c2,
   λ i=>(LP (w:=w) (a:=⟨rb,i,none⟩) o).trans (h.fz i),by have:=h.hb;omega⟩
theorem C7.drewN(h:C7 w rb s r)(q:Nat):C7 (w.drewN q) rb s r:=⟨h.c0,h.c1,h.c2,h.fz,h.hb⟩
theorem C7.grown(h:C7 w rb s r)(hg:w.grownBy w' v)(o:some rb≠v):C7 w' rb s r:=h.block (hg.block rb h.hb o) hg.size
theorem C7.below(h:C7 w rb s r)(hg:Below B w w')(o:rb<B):C7 w' rb s r:=h.block (hg.block rb o) hg.size
theorem C7.setBad(h:C7 w rb s r):C7 (w.setCell ⟨rb,2,none⟩ (.bool true)) rb s (r.1,true):=by
 have o:∀j u,j≠2->w.cell? ⟨rb,j,none⟩=some u->(w.setCell ⟨rb,2,none⟩ (.bool true)).cell? ⟨rb,j,none⟩=some u:=λ j u D C=>by
  rw[LD (h:=by intro e;injection e;omega)];exact C
 exact⟨o 0 _ (by omega) h.c0,o 1 _ (by omega) h.c1,LH _ _ _ h.c2,λ i=>by rw[LG];exact h.fz i,by have:=h.hb;simp[LN];omega⟩
theorem C7.adv(h:C7 w rb s r):C7 (w.setCell ⟨rb,1,none⟩ (.int .i64 ((r.1:Int)+1))) rb s (r.1+1,r.2):=by
 have o:∀j u,j≠1->w.cell? ⟨rb,j,none⟩=some u->(w.setCell ⟨rb,1,none⟩ (.int .i64 ((r.1:Int)+1))).cell? ⟨rb,j,none⟩=some u:=λ j u D C=>by
  rw[LD (h:=by intro e;injection e;omega)];exact C
 exact⟨o 0 _ (by omega) h.c0,LH _ _ _ h.c1,o 2 _ (by omega) h.c2,λ i=>by rw[LG];exact h.fz i,by have:=h.hb;simp[LN];omega⟩
theorem mG(s:tB)(r:wA)(lo hi:Nat)(rb:Nat)(w:tW)(hs:s.size<=120000)(h:C7 w rb s r)(hr:r.1<=s.size):
  RA LK 80 #[.pointer (some ⟨rb,0,none⟩),.int .i64 lo,.int .i64 hi] w λ e w'=>
   e=.returned (.int .i64 ((iW s lo hi r).1:Int))/\w.grownBy w' (some rb)/\C7 w' rb s (iW s lo hi r).2:=by
 have D:=fV h;have c0:=h.c0;have c1:=h.c1;have c2:=h.c2;have f1:=h.fz 1;have f2:=h.fz 2;clear h;obtain⟨a,b⟩:=r;simp only at*;by_cases he:s.size<=a
 ·have U:decide ((s.size:Int)<=(a:Int))=true:=by simp;omega
  have C:QP (iW s lo hi (a,b)=(lo,(a,true))):=by unfold QP iW;rw[aA (by simp only;omega)]
  go_enter func80,PF;go_wp2;go_quiet (fail);go_wp2;go_ret;rw[C.o];exact⟨rfl,lO (jZ (World.grownBy.refl _ _) _) _ _,(D.o.drewN _).setBad⟩
 ·have U:decide ((s.size:Int)<=(a:Int))=false:=by simp;omega
  have J:=kM s a (by omega);have Y:=mT s a;have Z:(0:Int)<=(a:Int)/\(a:Int)<(s.size:Int):=by omega
  have X:IntKind.i64.wrap (bt s a:Int)=(bt s a:Int):=IntWalk.i64_in _ (by omega);by_cases Q:bt s a<lo
  ·have C:QP (iW s lo hi (a,b)=(lo,(a+1,true))):=by unfold QP iW;rw[aB (by simp only;omega),aB (.inl Q)]
   have F:decide ((bt s a:Int)<(lo:Int))=true:=by simp;omega
   go_enter func80,PF;go_wp2;go_quiet (fail);go_wp2;go_quiet (fail);go_wp2;go_ret;rw[C.o];exact⟨rfl,lO (lO (jZ (World.grownBy.refl _ _) _) _ _) _ _,((D.o.drewN _).adv).setBad⟩
  ·have F:decide ((bt s a:Int)<(lo:Int))=false:=by simp;omega
   by_cases V:hi<bt s a
   ·have C:QP (iW s lo hi (a,b)=(lo,(a+1,true))):=by unfold QP iW;rw[aB (by simp only;omega),aB (.inr V)]
    have I:decide ((hi:Int)<(bt s a:Int))=true:=by simp;omega
    go_enter func80,PF;go_wp2;go_quiet (fail);go_wp2;go_quiet (fail);go_wp2;go_ret;rw[C.o];exact⟨rfl,lO (lO (jZ (World.grownBy.refl _ _) _) _ _) _ _,((D.o.drewN _).adv).setBad⟩
   ·have C:QP (iW s lo hi (a,b)=(bt s a,(a+1,b))):=by unfold QP iW;rw[aB (by simp only;omega),aA (by simp only;omega)]
    have I:decide ((hi:Int)<(bt s a:Int))=false:=by simp;omega
    go_enter func80,PF;go_wp2;go_quiet (fail);go_wp2;go_quiet (fail);go_wp2;go_ret;rw[C.o];exact⟨rfl,lO (jZ (World.grownBy.refl _ _) _) _ _,(D.o.drewN _).adv⟩
end
theorem bU:(Tryz.prog.info? 3).map (λ i=>(i.zero,i.size,i.bytes))=some (some (.int .i64 0),1,8):=by kernel_rfl
theorem Yt(s:tB)(r:wA)(n:Nat)(rb:Nat)(w:tW)(hs:s.size<=120000)(h:C7 w rb s r)(Z:r.1<=s.size):
  RA LK 106 #[.pointer (some ⟨rb,0,none⟩),.int .i64 n] w λ e w'=>
   e=.returned (.int .i64 (rG s n r).1)/\w.grownBy w' (some rb)/\C7 w' rb s (rG s n r).2:=by
 have Y:=mG s r 0 255 rb w hs h Z;have J:QP (rG s n r=if(iW s 0 255 r).1=255 then(-1,(iW s 0 255 r).2)
  else if n<=(iW s 0 255 r).1 then(((iW s 0 255 r).1:Int),((iW s 0 255 r).2.1,true))else(((iW s 0 255 r).1:Int),(iW s 0 255 r).2)):=rfl
 generalize iW s 0 255 r=N at*;obtain⟨x,Q⟩:=N;simp only at*;clear h Z;go_enter func106,ntmps106;go_wp2_with fail;refine Y.mono ?_;rintro e w1 ⟨rfl,hg,D⟩;have X:=fV hg;have U:=fV D;clear hg Y;by_cases C:x=255
 ·have hd:((x:Int)==255)=true:=by rw[C];rfl
  have I:QP (rG s n r=(-1,Q)):=J.o.trans (aB C);clear D C;go_wp2;go_ret;rw[I.o];exact⟨rfl,X.o,U.o⟩
 ·have hd:((x:Int)==255)=false:=by rw[aC];omega
  by_cases F:n<=x
  ·have V:decide ((n:Int)<=(x:Int))=true:=by simp;omega
   have I:QP (rG s n r=((x:Int),(Q.1,true))):=by unfold QP;rw[J.o,aA C,aB F]
   have f2:=D.fz 2;have c2:=D.c2;clear D C;go_wp2;go_ret;rw[I.o];exact⟨rfl,lO X.o _ _,U.o.setBad⟩
  ·have V:decide ((n:Int)<=(x:Int))=false:=by simp;omega
   have I:QP (rG s n r=((x:Int),Q)):=by unfold QP;rw[J.o,aA C,aA F]
   clear D C;go_wp2;go_ret;rw[I.o];exact⟨rfl,X.o,U.o⟩
theorem Hu(s:tB)(r:wA)(n hi:Nat)(rb:Nat)(w:tW)(hs:s.size<=120000)(hn:n<=1000)(h:C7 w rb s r)(hr:r.1<=s.size):
  RA LK 81 #[.pointer (some ⟨rb,0,none⟩),.int .i64 n,.int .i64 hi] w λ e w'=>
   e=.returned (.slice (some ⟨w.heap.size,0,none⟩) n n)/\w'.ownsRow w.heap.size 3 1 (.slice (some ⟨w.heap.size,0,none⟩) n n) n (pA (oJ s hi n [] r).1)/\
   w.grownBy w' (some rb)/\C7 w' rb s (oJ s hi n [] r).2:=by
 obtain⟨i0,Q,aL,U,J⟩:=QT bU;have HI:QP (Tryz.prog.info? 3=some i0/\i0.zero=some (.int .i64 0)/\i0.size=1/\i0.bytes=8):=⟨Q,aL,U,J⟩
 clear Q aL U J;have HR:=fV h;have cN:=h.hb;clear h;go_enter func81,ntmps81;go_wp2_with (at_make;refine QW w rfl _ _ 59 rfl w.heap.size 3 i0 (.int .i64 0) 1 ND HI.o.1 HI.o.2.1 HI.o.2.2.1 .i64 .i64 _ n rfl rfl rfl (by rw[HI.o.2.2.2];omega) (by unfold QZ;omega) lR ?_;intro w1 C hg);have aT:=fV (HR.o.grown hg (by simp));have Y:=fV (T9 hg (some rb));have aW:=fV C;have bS:=hg.size;clear C hg HR;generalize hB:w.heap.size=B at*
 go_loopg [7] n (λ gk x wr=>∃(xs:List Nat)(k:Nat)(r':wA),x=.slice (some ⟨B,0,none⟩) k n/\xs.length=k/\k+gk=n/\r'.1<=s.size/\oJ s hi n [] r=oJ s hi gk xs r'/\
  wr.ownsRow B 3 1 (.slice (some ⟨B,0,none⟩) k n) k (pA xs)/\w.grownBy wr (some rb)/\C7 wr rb s r')
 case atStart=>exact⟨[],0,r,rfl,rfl,by omega,hr,rfl,aW.o,Y.o,aT.o⟩
 case round=>
  obtain⟨xs,k,r',rfl,V,cP,Z,aR,C,hg,hl⟩:=hrel;have HQ:=fV aR;have HO:=fV C;have HG:=fV hg;have HL:=fV hl;have HX:=fV V;have bT:B<=wr.heap.size:=by have:=hg.size;omega
  clear aR C hg hl V aT Y aW;by_cases cF:k<n
  ·obtain⟨g',rfl⟩:∃g',gk=g'+1:=⟨gk-1,by omega⟩
   have bK:QP (oJ s hi n [] r=oJ s hi g' (xs++[(iW s 0 hi r').1]) (iW s 0 hi r').2):=HQ.o;have hc:=mG s r' 0 hi rb wr hs HL.o Z;have ha:=lW (lo:=0) (hi:=hi) Z;generalize iW s 0 hi r'=N at*;obtain⟨x,r2⟩:=N;simp only at*;have hd:=dT k n (by omega)
   go_wp2_with fail;refine hc.mono ?_;rintro e w2 ⟨rfl,F,X⟩;have bM:QP (w2.ownsRow B 3 1 (.slice (some ⟨B,0,none⟩) k n) k (pA xs)):=fV (HO.o.kept F (.inr (by simp[MF];omega)));have bO:=fV (gD HG.o F);have bN:=fV X;have aO:B<=w2.heap.size:=by have:=F.size;omega
   clear F X HO HG HL hc;go_wp2_with (first|(at_builtin;refine kY w2 rfl _ _ 59 rfl B 3 (.int .i64 0) 1 8 ND bU B k n (pA xs) [.int .i64 (x:Int)] _ rfl bM.o _ rfl rfl rfl (by simp[MG]) (by omega) ?_;intro w3 I D));go_roundg g'
   case measure=>omega
   case rel=>
    have bC:=kA bO.o (.cells #[.int .i64 (x:Int)] 3);refine⟨xs++[x],k+1,r2,rfl,by simp[HX.o],by omega,ha,bK.o,by rw[sA];exact I,X9 bC D (by omega),?_⟩;exact(bN.o.below (bR.alloc aO _) (by omega)).grown D (by simp;omega)
  ·have e:k=n:=by omega
   subst e;have e2:gk=0:=by omega
   subst e2;have HE:QP (oJ s hi k [] r=(xs,r')):=HQ.o;have hd:=dF k k (by omega)
   go_wp2;go_ret;rw[HE.o];subst hB;exact⟨rfl,HO.o,HG.o,HL.o⟩
theorem cS:(Tryz.prog.info? 121).map (λ i=>(i.zero,i.size,i.bytes))=some (some (.agg #[.int .i64 0,.slice none 0 0]),2,32):=by kernel_rfl
theorem Wu(s:tB)(r:wA)(ru cl:Nat)(rb:Nat)(w:tW)(hs:s.size<=120000)(lH:cl<=256)(h:C7 w rb s r)(hr:r.1<=s.size):
  RA LK 82 #[.pointer (some ⟨rb,0,none⟩),.int .i64 ru,.int .i64 cl] w λ e w'=>
   ∃(B:Nat)(zs:List ((Nat×List Int)×Nat)),w.heap.size<=B/\e=.returned (.slice (some ⟨B,0,none⟩) zs.length zs.length)/\zs.map (·.1)=(rE s ru cl r).1/\
   w'.ownsRow B 121 2 (.slice (some ⟨B,0,none⟩) zs.length zs.length) zs.length (Ju cl zs)/\pQ w' (B+1) zs/\w.grownBy w' (some rb)/\C7 w' rb s (rE s ru cl r).2:=by
 obtain⟨i0,aL,X,U,V⟩:=QT bU;have HI:QP (Tryz.prog.info? 3=some i0/\i0.zero=some (.int .i64 0)/\i0.size=1/\i0.bytes=8):=⟨aL,X,U,V⟩
 clear aL X U V;obtain⟨i1,aL,X,U,V⟩:=QT cS;have aW:QP (Tryz.prog.info? 121=some i1/\i1.zero=some (.agg #[.int .i64 0,.slice none 0 0])/\i1.size=2/\i1.bytes=32):=⟨aL,X,U,V⟩
 clear aL X U V;have hn:=mG s r 1 100 rb w hs h hr;have HP:QP (rE s ru cl r=Aq s ru cl (iW s 1 100 r).1 (iW s 1 100 r).1 [] (iW s 1 100 r).2):=rfl;have nN:=R6 (s:=s) (lo:=1) (hi:=100) (r:=r) (by omega);have hP:=lW (lo:=1) (hi:=100) hr;have qR:=h.hb;generalize iW s 1 100 r=N at*;obtain⟨n,r1⟩:=N;simp only at*;clear h;go_enter func82,ntmps82;go_wp2_with fail;refine hn.mono ?_;rintro e w1 ⟨rfl,bM,hB⟩;have gL:=fV bM;have eM:=fV hB;have bT:=bM.size;clear bM hB hn;go_wp2_with (first|(at_make;refine QW w1 rfl _ _ 110 rfl w1.heap.size 121 i1 _ 2 underlying110 aW.o.1 aW.o.2.1 aW.o.2.2.1 .i64 .i64 _ n rfl rfl rfl (by rw[aW.o.2.2.2];omega) (by unfold QZ;omega) lR ?_;intro w2 F hg));have cF:=fV (eM.o.grown hg (by simp));have hA:=fV (gD gL.o (T9 hg (some rb)));have hJ:=fV F;have hX:rb<w1.heap.size:=by omega
 clear F hg eM gL;generalize w1.heap.size=B at*
 go_loopg [8] n (λ gk x wr=>∃(zs:List ((Nat×List Int)×Nat)) (k:Nat) (r':wA),x=.slice (some ⟨B,0,none⟩) k n/\zs.length=k/\k+gk=n/\r'.1<=s.size/\rE s ru cl r=Aq s ru cl n gk (zs.map (·.1)) r'/\
  wr.ownsRow B 121 2 (.slice (some ⟨B,0,none⟩) k n) k (Ju cl zs)/\pQ wr (B+1) zs/\w.grownBy wr (some rb)/\C7 wr rb s r')
 case atStart=>exact⟨[],0,r1,rfl,rfl,by omega,hP,HP.o,hJ.o,pQ.nil _ _,hA.o,cF.o⟩
 case round=>
  obtain⟨zs,k,r',rfl,Y,nL,hE,aO,F,bC,hg,hl⟩:=hrel;have HQ:=fV aO;have HO:=fV F;have HW:=fV bC;have HG:=fV hg;have HL:=fV hl;have HX:=fV Y;have rL:B<wr.heap.size:=by have:=(F.lt B rfl).2;omega
  clear aO F hg hl Y bC cF hA hJ;by_cases qL:k<n
  ·obtain⟨g',rfl⟩:∃g',gk=g'+1:=⟨gk-1,by omega⟩
   have hU:QP (rE s ru cl r=Aq s ru cl n g' (zs.map (·.1)++[((iW s 0 ru r').1,(oZ s n cl [] (iW s 0 ru r').2).1)]) (oZ s n cl [] (iW s 0 ru r').2).2):=HQ.o;have hc:=mG s r' 0 ru rb wr hs HL.o hE;have ha:=lW (lo:=0) (hi:=ru) hE;generalize iW s 0 ru r'=N at*;obtain⟨tk,r2⟩:=N;simp only at*;have hd:=dT k n (by omega)
   go_wp2_with fail;refine hc.mono ?_;rintro e w3 ⟨rfl,Q,eT⟩;have eS:QP (w3.ownsRow B 121 2 (.slice (some ⟨B,0,none⟩) k n) k (Ju cl zs)):=fV (HO.o.kept Q (.inr (by simp[MF];omega)));have hD:=fV (HW.o.grown Q (by omega));have eR:=fV (gD HG.o Q);have hI:=fV eT;have iN:B<w3.heap.size:=by have:=Q.size;omega
   clear Q eT HO HG HL hc HW;go_wp2_with (first|(at_make;refine QW w3 rfl _ _ 59 rfl w3.heap.size 3 i0 (.int .i64 0) 1 ND HI.o.1 HI.o.2.1 HI.o.2.2.1 .i64 .i64 _ cl rfl rfl rfl (by rw[HI.o.2.2.2];omega) (by unfold QZ;omega) lR ?_;intro w4 Z bO));have eN:=fV (hI.o.grown bO (by simp));have eO:=fV (T9 bO (some rb));have cN:=fV Z;clear Z bO hI;generalize hC:w3.heap.size=C at*
   go_loopg [10] cl (λ gj x wj=>∃(xs:List Int)(m:Nat)(rj:wA),x=.slice (some ⟨C,0,none⟩) m cl/\xs.length=m/\m+gj=cl/\rj.1<=s.size/\oZ s n cl [] r2=oZ s n gj xs rj/\
    wj.ownsRow C 3 1 (.slice (some ⟨C,0,none⟩) m cl) m (pN xs)/\w3.grownBy wj (some rb)/\C7 wj rb s rj)
   case atStart=>exact⟨[],0,r2,rfl,rfl,by omega,ha,rfl,cN.o,eO.o,eN.o⟩
   case round=>
    obtain⟨xs,m,rj,rfl,Y,rO,bN,aO,F,hg,hl⟩:=hrel;have cP:=fV aO;have aT:=fV F;have J:=fV hg;have bK:=fV hl;have hN:=fV Y;have eX:C<wr.heap.size:=by have:=(F.lt C rfl).2;omega
    clear aO F hg hl Y eN eO cN;by_cases hY:m<cl
    ·obtain⟨j',rfl⟩:∃j',gk=j'+1:=⟨gk-1,by omega⟩
     have hL:QP (oZ s n cl [] r2=oZ s n j' (xs++[(rG s n rj).1]) (rG s n rj).2):=cP.o;have hc:=Yt s rj n rb wr hs bK.o bN;have ha:=Lb (n:=n) bN;generalize rG s n rj=N at*;obtain⟨x,r3⟩:=N;simp only at*;have hS:=dT m cl (by omega)
     go_wp2_with fail;refine hc.mono ?_;rintro e w5 ⟨rfl,aR,hG⟩;have hK:QP (w5.ownsRow C 3 1 (.slice (some ⟨C,0,none⟩) m cl) m (pN xs)):=fV (aT.o.kept aR (.inr (by simp[MF];omega)));have hT:=fV (gD J.o aR);have hR:=fV hG;have hF:C<w5.heap.size:=by have:=aR.size;omega
     clear aR hG aT J bK hc;go_wp2_with (first|(at_builtin;refine kY w5 rfl _ _ 59 rfl C 3 (.int .i64 0) 1 8 ND bU C m cl (pN xs) [.int .i64 x] _ rfl hK.o _ rfl rfl rfl (by simp[MG]) (by omega) ?_;intro w6 I D));go_roundg j'
     case measure=>omega
     case rel=>
      have bS:=kA hT.o (.cells #[.int .i64 x] 3);refine⟨xs++[x],m+1,r3,rfl,by simp[hN.o],by omega,ha,hL.o,by rw[tX];exact I,X9 bS D (by omega),?_⟩;exact(hR.o.below (bR.alloc (MU hF) _) (by omega)).grown D (by simp;omega)
    ·have e:m=cl:=by omega
     subst e;have e2:gk=0:=by omega
     subst e2;have HE:QP (oZ s n m [] r2=(xs,rj)):=cP.o;have hS:=dF m m (by omega)
     have hV:QP (wr.ownsRow B 121 2 (.slice (some ⟨B,0,none⟩) k n) k (Ju m zs)):=fV (eS.o.kept J.o (.inr (by simp[MF];omega)));have hQ:=fV (hD.o.grown J.o (by omega));have hM:=fV (gD eR.o J.o);have hW:=fV (nV aT.o);have eL:B<wr.heap.size:=by omega
     clear eS hD eR aT J;go_wp2_with (first|(at_builtin;refine kY wr rfl _ _ 110 rfl B 121 (.agg #[.int .i64 0,.slice none 0 0]) 2 32 underlying110 cS B k n (Ju m zs) [.int .i64 (tk:Int),.slice (some ⟨C,0,none⟩) m m] _ rfl hV.o _ rfl rfl rfl (by simp[MG]) (by omega) ?_;intro w6 I D));go_roundg g'
     case measure=>omega
     case rel=>
      have bS:=kA hM.o (.cells #[.int .i64 (tk:Int),.slice (some ⟨C,0,none⟩) m m] 121);have hq:=hU.o;rw[HE.o]at hq;have hH:=D.size;simp at hH;refine⟨zs++[((tk,xs),C)],k+1,rj,rfl,by simp[HX.o],by omega,bN,by rw[OD];exact hq,by rw[Ka];exact I,?_,X9 bS D (by omega),?_⟩
      ·refine((hQ.o.grown (kA (World.grownBy.refl _ (some B)) _) (by omega)).snoc ⟨by omega,by simp;omega,?_⟩).grown D (by omega);exact fY hW.o (MA wr _ C eX)
      ·exact(bK.o.below (bR.alloc (MU eL) _) (by omega)).grown D (by simp;omega)
  ·have e:k=n:=by omega
   subst e;have e2:gk=0:=by omega
   subst e2;have HE:QP (rE s ru cl r=(zs.map (·.1),r')):=HQ.o;have hd:=dF k k (by omega)
   go_wp2;go_ret;rw[HE.o];have hx:=HX.o;subst hx;exact⟨B,zs,bT,rfl,rfl,HO.o,HW.o,HG.o,HL.o⟩
section
theorem fE:LF=(nT (.slice none 0 0) (MD 256 0) (.slice none 0 0)).toArray:=by kernel_rfl
theorem fK:Tryz.zeroCells72.toList=nT (.slice none 0 0) (MD 256 0) (.slice none 0 0):=by rw[fE]
theorem bL:Tryz.zeroCells72.size=258:=by kernel_rfl
theorem bP:(Tryz.prog.info? 72).map (·.size)=some 258:=by kernel_rfl
theorem bZ:Tryz.zeroCells72.all (·.oneCell')=true:=by kernel_rfl
theorem eZ:(Tryz.prog.info? 110).map (λ i=>(i.zero,i.size,i.bytes))=some (some (.slice none 0 0),1,24):=by kernel_rfl
structure IW(w0 w:tW)(rb:Nat)(s:tB)(r:wA)(vb:tV)(cs:List Nat)(vc:tV):Prop where
 g:w0.grownBy w (some rb)
 rd:C7 w rb s r
 im:w.rangeAt (w0.heap.size+1) 0 (nT vb cs vc)
 t1:w.there (w0.heap.size+1) 0 258
 t0:w.there w0.heap.size 0 258
 hz:w0.heap.size+2<=w.heap.size
 hb:rb<w0.heap.size
 hl:cs.length=256
variable {w0 w w':tW}{rb:Nat}{s:tB}{r r':wA}{vb vc:tV}{cs:List Nat}
theorem IW.step(h:IW w0 w rb s r vb cs vc)(hg:w.grownBy w' (some rb))(F:C7 w' rb s r'):IW w0 w' rb s r' vb cs vc:=by
 have D:=h.hb;have I:=h.hz;have o:w'.heap[w0.heap.size+1]?=w.heap[w0.heap.size+1]? :=hg.block _ (by omega) (by intro e;injection e;omega);have C:w'.heap[w0.heap.size]?=w.heap[w0.heap.size]? :=hg.block _ (by omega) (by intro e;injection e;omega);exact⟨gD h.g hg,F,fY h.im o,gK h.t1 o,gK h.t0 C,by have:=hg.size;omega,D,h.hl⟩
theorem IW.cell(h:IW w0 w rb s r vb cs vc){k:Nat}{v:tV}(o:(nT vb cs vc)[k]?=some v):w.cell? ⟨w0.heap.size+1,k,none⟩=some v:=by
 have:=h.im k v o;rw[LM]at this;exact this
theorem IW.fz(h:IW w0 w rb s r vb cs vc){k:Nat}(o:k<258):w.frozen? ⟨w0.heap.size+1,k,none⟩=false:=by
 have:=(h.t1 k o).2;rw[LM]at this;exact this
theorem IW.set(h:IW w0 w rb s r vb cs vc){k:Nat}{u:tV}{D C:tV}{o:List Nat}(F:k<258)(Q:(nT vb cs vc).set k u=nT D o C)(I:o.length=256):
  IW w0 (w.setCell ⟨w0.heap.size+1,k,none⟩ u) rb s r D o C:=by
 have U:=h.hb;have V:=h.hz;refine⟨⟨h.g.os,h.g.tape,h.g.output,by simp[LN];omega,λ i hi J=>?_⟩,?_,?_,pJ h.t1 _ _,pJ h.t0 _ _,by simp[LN];omega,U,I⟩
 ·rw[MQ _ _ _ _ (by simp only;omega)];exact h.g.block i hi J
 ·exact h.rd.block (MQ _ _ _ _ (by simp only;omega)) (by simp[LN])
 ·rw[<-Q];exact yW h.im k (by rw[nY _ _ _ h.hl];exact F) u
theorem IW.other(h:IW w0 w rb s r vb cs vc)(hg:w.grownBy w' v)(D:∀k,v=some k->w0.heap.size+2<=k):IW w0 w' rb s r vb cs vc:=by
 have J:=h.hb;have U:=h.hz;have o:∀k,k<w0.heap.size+2->some k≠v:=λ k Q e=>by have:=D k e.symm;omega
 have C:w'.heap[w0.heap.size+1]?=w.heap[w0.heap.size+1]? :=hg.block _ (by omega) (o _ (by omega));have I:w'.heap[w0.heap.size]?=w.heap[w0.heap.size]? :=hg.block _ (by omega) (o _ (by omega));refine⟨⟨hg.os.trans h.g.os,hg.tape.trans h.g.tape,hg.output.trans h.g.output,NE h.g.size hg.size,λ i hi F=>(hg.block i (LJ hi h.g.size) (o i (by omega))).trans (h.g.block i hi F)⟩,
  h.rd.grown hg (o rb (by omega)),fY h.im C,gK h.t1 C,gK h.t0 I,by have:=hg.size;omega,J,h.hl⟩
theorem yD(F:vb.oneCell'=true)(I:vc.oneCell'=true):∀v∈nT vb cs vc,v.oneCell'=true:=by
 intro v C;unfold nT at C;rcases List.mem_cons.1 C with rfl|D
 ·exact F
 ·rcases MT.1 D with o|o
  ·unfold pA at o;rw[PA]at o;obtain⟨x,_,rfl⟩:=o
   rfl
  ·rw[MR]at o;rw[o];exact I
theorem IW.start(h:C7 w rb s r):
  IW w (((w.alloc (.cells LF 72)).alloc (.cells LF 72)).setCells (w.heap.size+1) 0 Tryz.zeroCells72.toList) rb s r (.slice none 0 0) (MD 256 0) (.slice none 0 0):=by
 have o:=h.hb;have t1:=iD (w.alloc (.cells LF 72)) LF 72 (w.heap.size+1) 258 bL (by simp);have C:=iD w LF 72 w.heap.size 258 bL rfl;have F:w.grownBy ((w.alloc (.cells LF 72)).alloc (.cells LF 72)) (some rb):=kA (kA (World.grownBy.refl _ _) _) _;have I:Bl w ((w.alloc (.cells LF 72)).alloc (.cells LF 72)):=(bR.alloc lR _).alloc (by simp) _;have b2:=fX Tryz.zeroCells72.toList 0 _ (w.heap.size+1) I (by omega);have D:=(fX Tryz.zeroCells72.toList 0 ((w.alloc (.cells LF 72)).alloc (.cells LF 72)) (w.heap.size+1) (MZ 0 _) zL).size;simp at D;refine⟨oI F _ _ _ (by omega),h.below b2 o,?_,OL t1 _ _ _,OL (QA C _) _ _ _,by omega,o,PQ⟩;rw[<-fK];exact LY _ _ _ _ (by rw[LU,bL];exact t1)
end
def pX(w:tW)(lo bb:Nat)(l:List Nat):Prop:=lo<=bb/\bb<w.heap.size/\w.rangeAt bb 0 (pA l)
theorem pX.grown{w w':tW}(h:pX w lo bb l)(hg:w.grownBy w' (some g))(o:g<lo):pX w' lo bb l:=
 ⟨h.1,LJ h.2.1 hg.size,fY h.2.2 (hg.block bb h.2.1 (by intro e;injection e;have:=h.1;omega))⟩
theorem pX.block{w w':tW}(h:pX w lo bb l)(C:w.heap.size<=w'.heap.size)(o:w'.heap[bb]?=w.heap[bb]?):pX w' lo bb l:=
 ⟨h.1,LJ h.2.1 C,fY h.2.2 o⟩
theorem pX.set{w:tW}(h:pX w lo bb l)(o:g<lo)(v:tV):pX (w.setCell ⟨g,k,none⟩ v) lo bb l:=
 h.block (by simp[LN]) (MQ _ _ _ _ (by simp only;have:=h.1;omega))
def rJ(w:tW)(cl bb:Nat)(vc:tV)(ys:List pF):Prop:=∀y∈ys,oH w cl y/\∀k,U1 y k->bb<k/\vc.ownBlock≠some k
theorem rJ.move{w w':tW}{vc C:tV}{ys:List pF}(h:rJ w cl bb vc ys)(hg:w.grownBy w' v)(Q:∀k,v=some k->k<=bb\/vc.ownBlock=some k)(V:∀k,k<w.heap.size->C.ownBlock=some k->vc.ownBlock=some k):rJ w' cl bb C ys:=λ y X=>by
 obtain⟨F,D⟩:=h y X;refine⟨F.block hg.size (λ k J o=>hg.block k J (λ e=>?_)),λ k o=>⟨(D k o).1,λ e=>(D k o).2 (V k (F.own o) e)⟩⟩;obtain⟨Y,U⟩:=D k o;rcases Q k e.symm with I|I
 ·omega
 ·exact U I
theorem rJ.snoc{w:tW}{vc:tV}{ys:List pF}{y:pF}(h:rJ w cl bb vc ys)(C:oH w cl y/\∀k,U1 y k->bb<k/\vc.ownBlock≠some k):rJ w cl bb vc (ys++[y]):=λ z D=>by
 rcases MT.1 D with o|o
 ·exact h z o
 ·rw[MR]at o;rw[o];exact C
theorem rJ.set{w:tW}{vc:tV}{ys:List pF}(h:rJ w cl bb vc ys)(hg:g<=bb)(v:tV):rJ (w.setCell ⟨g,k,none⟩ v) cl bb vc ys:=λ y C=>by
 obtain⟨D,o⟩:=h y C;exact⟨D.block (by simp[LN]) (λ j _ F=>MQ _ _ _ _ (by simp only;have:=(o j F).1;omega)),o⟩
theorem lY:∀(w:tW)(b o:Nat)(vs:List tV)(k:Nat),k≠b->(w.setCells b o vs).heap[k]?=w.heap[k]? :=by
 intro w b o vs
 induction vs generalizing w o with
 | nil=>intro k _;rfl
 | cons v r ih=>intro k C;exact(ih (w.setCell ⟨b,o,none⟩ v) (o+1) k C).trans (MQ _ _ _ _ C)
theorem lD{w:tW}{v:tV}{xs:List tV}(h:w.ownsRow aH e size v n xs){b:Nat}(C:b<aH)(vs:List tV)(o:Nat):(w.setCells b o vs).ownsRow aH e size v n xs:=by
 induction vs generalizing w o with
 | nil=>exact h
 | cons u r ih=>exact ih (QN (a:=⟨b,o,none⟩) h C u) (o+1)
def ID(w:tW)(rb:Nat)(s:tB)(e:Ending)(w':tW):Prop:=
 ∃(bb:Nat)(vc:tV)(ys:List pF),e=.returned (.agg (nT (.slice (some ⟨bb,0,none⟩) (jU s) (jU s)) (gM s) vc).toArray)/\
   pX w' (w.heap.size+2) bb (oG s)/\w'.ownsRow (bb+1) 110 1 vc ys.length (xO ys)/\ys.map (λ y=>y.2.map (·.1))=J3 s/\(∀y∈ys,oH w' (mS s) y/\∀k,U1 y k->bb<k)/\
   w.grownBy w' (some rb)/\C7 w' rb s (Nw s)
theorem Od(s:tB)(rb:Nat)(w:tW)(hs:s.size<=120000)(h:C7 w rb s (0,false)):
  RA LK 51 #[.pointer (some ⟨rb,0,none⟩)] w λ e w'=>ID w rb s e w':=by
 have HI:=fV (IW.start h);have HT:=fV (iD (w.alloc (.cells LF 72)) LF 72 (w.heap.size+1) 258 bL (by simp));have L1:=h.hb;clear h;go_enter func51,ntmps51;go_wp2_with (first|(refine QR rfl 72 (.tmp 3) (.tmp 11) rfl (w.heap.size+1) 0 LF rfl rfl ?_ ?_ bZ ?_;(rw[bL];exact HT.o);(rw[bL];exact bP)));generalize ((w.alloc (.cells LF 72)).alloc (.cells LF 72)).setCells (w.heap.size+1) 0 Tryz.zeroCells72.toList=W0 at*;clear HT;have a0:((0,false):wA).1<=s.size:=zL;refine(mG s (0,false) 83 83 rb _ hs HI.o.rd a0).mono ?_;rintro e w1 ⟨rfl,tL,H1⟩;have hP:=fV (HI.o.step tL H1);have a1:=lW (lo:=83) (hi:=83) a0;clear HI tL H1;go_wp2_with fail;refine(mG s _ 84 84 rb _ hs hP.o.rd a1).mono ?_;rintro e w2 ⟨rfl,nN,lH⟩;have hU:=fV (hP.o.step nN lH);have a2:=lW (lo:=84) (hi:=84) a1;clear hP nN lH;go_wp2_with fail;refine(mG s _ 1 1 rb _ hs hU.o.rd a2).mono ?_;rintro e w3 ⟨rfl,hY,A1⟩;have hM:QP (IW w w3 rb s (CJ s) _ _ _):=fV (hU.o.step hY A1);have a3:(CJ s).1<=s.size:=lW (lo:=1) (hi:=1) a2;clear hU hY A1 a0 a1 a2;go_wp2_with fail;refine(mG s _ 1 8 rb _ hs hM.o.rd a3).mono ?_;rintro e w4 ⟨rfl,A3,rO⟩;have bT:QP (IW w w4 rb s (Xr s) _ _ _):=fV (hM.o.step A3 rO);have a4:(Xr s).1<=s.size:=lW (lo:=1) (hi:=8) a3;have H6:1<=jU s/\jU s<=8:=R6 (by omega);have ER:QP ((iW s 1 8 (CJ s)).1=jU s):=rfl;rw[ER.o];clear hM A3 rO a3 ER;obtain⟨ru,aT⟩:=xE (jU s)
 rw[aT]at H6 ⊢;replace aT:=fV aT;go_wp2_with fail;refine(Hu s _ ru 5 rb _ hs (by omega) bT.o.rd a4).mono ?_;rintro e w5 ⟨rfl,cN,nL,hA⟩;have e5:oJ s 5 ru [] (Xr s)=(oG s,Nv s):=by rw[<-aT.o];rfl
 rw[e5]at cN hA;simp only at cN hA;have eL:=fV (bT.o.step nL hA);have a5:(Nv s).1<=s.size:=by have:=Dg (hi:=5) ru [] (Xr s) a4;rw[e5]at this;exact this
 have O8:(oG s).length=ru:=by have:=lN (s:=s) (hi:=5) ru [] (Xr s);rw[e5]at this;simpa using this
 have hN:QP (pX w5 (w.heap.size+2) w4.heap.size (oG s)):=fV ⟨bT.o.hz,by have:=(cN.lt w4.heap.size rfl).2;omega,nV cN⟩;have W2:w.heap.size+2<=w4.heap.size:=bT.o.hz;clear cN nL hA bT a4 e5;generalize w4.heap.size=bb at*;have aO:∀x∈oG s,x<=5:=i7 _ _ _ (λ x hx=>by cases hx);obtain⟨L,EL⟩:=xE (oG s)
 rw[EL]at O8 aO hN;replace EL:=fV EL;replace aO:=fV aO;have c0:=eL.o.cell (So _ _ _);have f0:=eL.o.fz (k:=0) (by omega);have hH:=fV (eL.o.set (k:=0) (u:= .slice (some ⟨bb,0,none⟩) ru ru) (by omega) (Xl _ _ _ _) eL.o.hl);have sW:=fV (hN.o.set (g:=w.heap.size+1) (k:=0) (by omega) (.slice (some ⟨bb,0,none⟩) ru ru));go_wp2_with fail;generalize w5.setCell ⟨w.heap.size+1,0,none⟩ (.slice (some ⟨bb,0,none⟩) ru ru)=W6 at*;clear eL hN c0 f0;refine(mG s _ 1 4 rb _ hs hH.o.rd a5).mono ?_;rintro e w7 ⟨rfl,hK,rT⟩;have eO:=fV (hH.o.step hK rT);have H3:=fV (sW.o.grown hK (by omega));have O6:1<=xG s/\xG s<=4:=R6 (by omega);have a7:(iW s 1 4 (Nv s)).2.1<=s.size:=lW (lo:=1) (hi:=4) a5;have ER:QP ((iW s 1 4 (Nv s)).1=xG s):=rfl;have E6:QP (Ny s=((iW s 1 4 (Nv s)).2.1,(iW s 1 4 (Nv s)).2.2||vD (oG s) (1+xG s))):=rfl;rw[ER.o];rw[EL.o]at E6;clear hH sW hK rT a5 ER;generalize iW s 1 4 (Nv s)=N at*;obtain⟨mm,r7⟩:=N;simp only at a7 E6 eO;obtain⟨Q,eX⟩:=xE (xG s)
 rw[eX]at O6 E6 ⊢;replace eX:=fV eX;have c0:=eO.o.cell (So _ _ _);go_wp2_with fail;clear c0
 go_loopw [29] (λ x wr=>∃k:Nat,x=.int .i64 (k:Int)/\k<=ru/\IW w wr rb s (r7.1,r7.2||vD (L.take k) (1+Q)) (.slice (some ⟨bb,0,none⟩) ru ru) (MD 256 0) (.slice none 0 0)/\pX wr (w.heap.size+2) bb L) (λ x _=>ru-(QO x).toNat)
 case atStart=>
  refine⟨0,rfl,zL,?_,H3.o⟩;have e:(r7.1,r7.2||vD (L.take 0) (1+Q))=r7:=by simp[vD]
  rw[e];exact eO.o
 case round=>
  obtain⟨k,rfl,hk,J,X⟩:=hrel;have Y:=fV J;have bN:=fV X;clear J X eO H3;by_cases T3:k<ru
  ·have hL:k<L.length:=by omega
   have hC:=fV (Ry L (1+Q) k hL);have hx:wr.cell? ⟨bb,k,none⟩=some (.int .i64 (L[k]:Int)):=by have:=bN.o.2.2 k _ (P8 L k hL);rw[LM]at this;exact this
   have hS:L[k]<=5:=aO.o _ (OI hL);generalize L[k]=x at*;have hd:=dT k ru (by omega)
   have f2:=Y.o.rd.fz 2;have c2:=Y.o.rd.c2;by_cases eM:1+Q<x
   ·have hQ:decide ((1:Int)+(Q:Int)<(x:Int))=true:=by simp;omega
    have HE:QP (vD (L.take (k+1)) (1+Q)=true):=by unfold QP;rw[hC.o];simp[eM]
    have F:=fV (Y.o.step (lO (World.grownBy.refl _ _) 2 (.bool true)) Y.o.rd.setBad);have eN:=fV (bN.o.set (g:=rb) (k:=2) (by omega) (.bool true));clear hC eM;go_wp2;go_roundw
    case rel=>
     refine⟨k+1,by go_num,by omega,?_,eN.o⟩;rw[HE.o,Bool.or_true];exact F.o
    case measure=>simp[QO];omega
   ·have hQ:decide ((1:Int)+(Q:Int)<(x:Int))=false:=by simp;omega
    have HE:QP (vD (L.take (k+1)) (1+Q)=vD (L.take k) (1+Q)):=by unfold QP;rw[hC.o];simp[eM]
    clear hC eM;go_wp2;go_roundw
    case rel=>
     refine⟨k+1,by go_num,by omega,?_,bN.o⟩;rw[HE.o];exact Y.o
    case measure=>simp[QO];omega
  ·have e:k=ru:=by omega
   subst e;have F:QP (IW w wr rb s (Ny s) (.slice (some ⟨bb,0,none⟩) k k) (MD 256 0) (.slice none 0 0)):=by
    unfold QP;have:=Y.o;rw[List.take_of_length_le (by omega),<-E6.o]at this;exact this
   have a6:(Ny s).1<=s.size:=by rw[E6.o];exact a7
   have hd:=dF k k (by omega)
   clear Y;go_wp2_with fail;refine(mG s _ 0 255 rb _ hs F.o.rd a6).mono ?_;rintro e w8 ⟨rfl,hG,B2⟩;have I:QP (IW w w8 rb s (Sr s) _ _ _):=fV (F.o.step hG B2);have qR:=fV (bN.o.grown hG (by omega));have W7:=R6 (s:=s) (lo:=0) (hi:=255) (r:=Ny s) (by omega);have a8:(Sr s).1<=s.size:=lW (lo:=0) (hi:=255) a6;have EC:QP (mS s=1+(iW s 0 255 (Ny s)).1):=rfl;clear F bN hG B2 a6;generalize (iW s 0 255 (Ny s)).1=Z at*;obtain⟨cl,bC⟩:=xE (mS s)
   rw[bC]at EC;have hF:cl=1+Z:=EC.o;have h8:(cl:Int)-1=(Z:Int):=by omega
   have W3:(1:Int)+(Z:Int)=(cl:Int):=by omega
   have EX:QP (Z=cl-1):=by unfold QP;omega
   replace bC:=fV bC;replace hF:=fV hF;have O0:cl<=256:=by have:=hF.o;omega
   clear EC;go_wp2_with fail
   go_loopg [44] 256 (λ gk x wr=>∃(xs:List Nat)(m:Nat)(r':wA),x=.int .i64 (m:Int)/\xs.length=m/\m+gk=256/\r'.1<=s.size/\oJ s Z 256 [] (Sr s)=oJ s Z gk xs r'/\
    IW w wr rb s r' (.slice (some ⟨bb,0,none⟩) k k) (xs++MD gk 0) (.slice none 0 0)/\pX wr (w.heap.size+2) bb L)
   case atStart=>exact⟨[],0,Sr s,rfl,rfl,rfl,a8,rfl,I.o,qR.o⟩
   case round=>
    obtain⟨xs,m,r',rfl,hS,H5,hX,cP,J,X⟩:=hrel;have HQ:=fV cP;have bM:=fV J;have eS:=fV X;have HX:=fV hS;clear cP J X hS I qR;by_cases H4:m<256
    ·obtain⟨g',rfl⟩:∃g',gk=g'+1:=⟨gk-1,by omega⟩
     have hT:QP (oJ s Z 256 [] (Sr s)=oJ s Z g' (xs++[(iW s 0 Z r').1]) (iW s 0 Z r').2):=HQ.o;have hc:=mG s r' 0 Z rb wr hs bM.o.rd hX;have ha:=lW (lo:=0) (hi:=Z) hX;generalize iW s 0 Z r'=N at*;obtain⟨x,r2⟩:=N;simp only at*;have hQ:decide ((m:Int)<256)=true:=by simp;omega
     go_wp2_with fail;refine hc.mono ?_;rintro e w9 ⟨rfl,D,bO⟩;have bK:=fV (bM.o.step D bO);have sR:=fV (eS.o.grown D (by omega));clear D bO bM eS hc HQ;have hV:m<(xs++MD (g'+1) 0).length:=by rw[bK.o.hl];exact H4
     have HE:QP ((xs++MD (g'+1) 0).set m x=(xs++[x])++MD g' 0):=by unfold QP;rw[<-HX.o];exact Kc xs g' x
     have A2:=fV (bK.o.set (k:=1+m) (u:= .int .i64 (x:Int)) (by omega) (Wk _ _ _ m x hV) (by rw[QE];exact bK.o.hl));have O3:=fV (sR.o.set (g:=w.heap.size+1) (k:=1+m) (by omega) (.int .i64 (x:Int)));have cm:=bK.o.cell (b8 _ _ _ m hV);have fm:=bK.o.fz (k:=1+m) (by omega);rw[HE.o]at A2;generalize (xs++MD (g'+1) 0)[m]=old at*;clear bK sR hV HE;have W1:(0:Int)<=(m:Int)/\(m:Int)<256:=by omega
     go_wp2;go_roundg g'
     case measure=>omega
     case rel=>exact⟨xs++[x],m+1,r2,by go_num,by simp[HX.o],by omega,ha,hT.o,A2.o,O3.o⟩
    ·have e:gk=0:=by omega
     subst e;have HE:QP (gM s=xs/\q8 s=r'):=by
      have e1:oJ s Z 256 [] (Sr s)=(xs,r'):=HQ.o;have e2:mS s-1=Z:=by rw[bC.o,EX.o]
      unfold QP gM q8;rw[e2,e1];exact⟨rfl,rfl⟩
     have hI:=bM;rw[List.replicate_zero,OP]at hI;have hQ:decide ((m:Int)<256)=false:=by simp;omega
     clear bM HQ H5;go_wp2_with fail
     go_loopg [10] Q (λ gk _ wr=>∃(ys:List pF)(vc:tV)(j:Nat)(r2:wA),ys.length=j/\j+gk=Q/\r2.1<=s.size/\
      qC s k cl Q [] r'=qC s k cl gk (ys.map (λ y=>y.2.map (·.1))) r2/\IW w wr rb s r2 (.slice (some ⟨bb,0,none⟩) k k) xs vc/\pX wr (w.heap.size+2) bb L/\
      wr.ownsRow (bb+1) 110 1 vc j (xO ys)/\rJ wr cl bb vc ys)
     case atStart=>exact⟨[],.slice none 0 0,0,r',rfl,by omega,hX,rfl,hI.o,eS.o,LS _ _ _ _,λ y hy=>absurd hy (OH)⟩
     case round=>
      obtain⟨ys,vc,j,r2,eT,W4,H0,cP,J,X,qL,A0⟩:=hrel;have HQ:=fV cP;have C:=fV J;have gL:=fV X;have aW:=fV qL;have hW:=fV A0;have HY:=fV eT;clear cP J X qL A0 eT hI eS;obtain⟨va,aU,M2⟩:=gA aW.o;subst M2;by_cases S5:j<Q
      ·obtain⟨g',rfl⟩:∃g',gk=g'+1:=⟨gk-1,by omega⟩
       have hT:QP (qC s k cl Q [] r'=qC s k cl g' (ys.map (λ y=>y.2.map (·.1))++[(rE s k cl r2).1]) (rE s k cl r2).2):=HQ.o;have hc:=Wu s r2 k cl rb wr hs O0 C.o.rd H0;have ha:=Md (ru:=k) (cl:=cl) H0;generalize rE s k cl r2=N at*;obtain⟨zl,r3⟩:=N;simp only at*;have O7:=dT j Q (by omega)
       have aL:=C.o.cell (yI _ _ _ C.o.hl);go_wp2_with fail;refine hc.mono ?_;rintro e w9 ⟨B,zs,hB,rfl,tO,cF,aR,D,bO⟩;have F:=fV (C.o.step D bO);have eN:=fV (gL.o.grown D (by omega));have hJ:QP (w9.ownsRow (bb+1) 110 1 (.slice va j aU) j (xO ys)):=fV (aW.o.kept D (by
        cases hv:(MY va j aU).ownBlock with
        | none=>exact .inl rfl
        | some q=>right;have:=(aW.o.lt q hv).1;intro e;injection e;omega))
       have W5:bb<wr.heap.size:=gL.o.2.1;have B1:QP (rJ w9 cl bb (.slice va j aU) (ys++[(B,zs)])):=fV ((hW.o.move D (λ q V=>by injection V;left;omega) (λ q _ V=>V)).snoc ⟨⟨(cF.lt B rfl).2,by
         intro i u hu;have:=cF.cells rfl i u hu;by_cases hi:i=0
         ·subst hi;simpa[Addr.add]using this
         ·simpa[Addr.add,hi]using this,λ z hz=>⟨(aR z hz).2.1,(aR z hz).2.2⟩⟩,λ q V=>by
         have W8:B<=q:=by
          rcases V with rfl|⟨z,hz,rfl⟩
          ·exact lR
          ·have:=(aR z hz).1;omega
         refine⟨by omega,λ e=>?_⟩;have:=(aW.o.lt q e).2;omega⟩)
       have HZ:=fV tO;clear D bO cF aR tO C gL aW hW hc HQ aL;have aL:=F.o.cell (yI _ _ _ F.o.hl);have T2:wr.heap.size<=w9.heap.size:=by have:=B1.o (B,zs) (MT.2 (.inr (MR.2 rfl)));have:=this.1.lt;simp only at this;omega
       go_wp2_with (first|(at_builtin;refine gB w9 rfl (.tmp 65) (.tmp 67) 52 rfl (bb+1) 110 (.slice none 0 0) 1 24 underlying52 eZ rfl (by decide) (by decide) _ j (xO ys) [.slice (some ⟨B,0,none⟩) zs.length zs.length] _ rfl hJ.o _ rfl rfl rfl (by simp[MG]) (by omega) (by omega) ?_;intro ga hD wa H2 eR iN P0;have I:=fV ((F.o.other (OB w9 _ none) (λ q V=>by cases V)).other eR (λ q V=>by have:=(hJ.o.lt q V).1;omega));have O9:=I.o.cell (yI _ _ _ I.o.hl);have S2:=I.o.fz (k:=257) (by omega);clear aL));have N1:∀q,q<(w9.alloc (.cells #[.slice (some ⟨B,0,none⟩) zs.length zs.length] 110)).heap.size->(MY (some ⟨ga,0,none⟩) (j+1) hD).ownBlock=some q->(MY va j aU).ownBlock=some q:=λ q V e=>by
        have e':ga=q:=by simpa[MF]using e
        subst e';rcases iN with h1|h1
        ·exact h1
        ·simp at V;omega
       go_roundg g'
       case measure=>omega
       case rel=>
        refine⟨ys++[(B,zs)],.slice (some ⟨ga,0,none⟩) (j+1) hD,j+1,r3,by simp[HY.o],by omega,ha,?_,?_,?_,?_,?_⟩
        ·rw[OD,PX];simp only;rw[HZ.o];exact hT.o
        ·exact I.o.set (k:=257) (by omega) (Ke _ _ _ _ I.o.hl) I.o.hl
        ·refine pX.set ((eN.o.grown (g:=w.heap.size) (OB w9 _ _) (by omega)).block eR.size (eR.block bb (by simp;have:=eN.o.2.1;omega) (λ e=>?_))) (by omega) _;have:=(hJ.o.lt bb e.symm).1;omega
        ·rw[Ce];exact QN H2 (by show w.heap.size+1<bb+1;omega) _
        ·exact rJ.set ((B1.o.move (OB w9 _ none) (λ q V=>by cases V) (λ q _ V=>V)).move eR (λ q V=> .inr V) N1) (by omega) _
      ·have e:gk=0:=by omega
       subst e;have tT:QP (J3 s=ys.map (λ y=>y.2.map (·.1))/\Nw s=r2):=by
        have e1:qC s k cl Q [] r'=(ys.map (λ y=>y.2.map (·.1)),r2):=HQ.o;unfold QP J3 Nw;rw[aT.o,bC.o,eX.o,HE.o.2,e1];exact⟨rfl,rfl⟩
       have aL:=C.o.cell (yI _ _ _ C.o.hl);have O7:=dF j Q (by omega)
       have hE:=fV (yD (vb:= .slice (some ⟨bb,0,none⟩) k k) (vc:= .slice va j aU) (cs:=xs) rfl rfl);have U:=fV (nY (.slice (some ⟨bb,0,none⟩) k k) xs (.slice va j aU) C.o.hl);obtain⟨IL,bS⟩:=xE (nT (.slice (some ⟨bb,0,none⟩) k k) xs (.slice va j aU))
       have O5:QP (wr.rangeAt (w.heap.size+1) 0 IL):=by rw[<-bS];exact C.o.im
       rw[bS]at hE U;replace bS:=fV bS;have rL:QP (IL.toArray.size=258):=by unfold QP;simpa using U.o
       go_wp2_with (first|(refine QQ rfl 72 (.tmp 3) rfl (w.heap.size+1) 0 rfl IL _ O5.o MO rfl ?_ ?_;(rw[U.o];exact bP))|(refine QR rfl 72 (.tmp 2) (.tmp 70) rfl w.heap.size 0 IL.toArray rfl rfl ?_ ?_ (QS hE.o) ?_;(rw[rL.o];exact C.o.t0);(rw[rL.o];exact bP)));have N0:QP (wr.there w.heap.size 0 IL.length):=by unfold QP;rw[U.o];exact C.o.t0
       refine lE results51 w.heap.size 0 IL _ rfl ?_ MO rfl (by rw[U.o];exact bP) rfl ?_
       ·exact LY _ _ _ _ N0.o
       ·have hR:=fX IL 0 wr w.heap.size (MZ w.heap.size _) lR;have eT:=HY.o;refine⟨bb,.slice va j aU,ys,?_,?_,?_,tT.o.1.symm,λ y hy=>?_,?_,?_⟩
        ·rw[aT.o,HE.o.1,bS.o]
        ·rw[EL.o];exact gL.o.block hR.size (lY wr w.heap.size 0 IL bb (by omega))
        ·rw[eT];exact lD aW.o (by omega) IL 0
        ·rw[bC.o];obtain⟨h1,h2⟩:=hW.o y hy;exact⟨h1.block hR.size (λ q _ ho=>lY wr w.heap.size 0 IL q (by have:=(h2 q ho).1;omega)),λ q ho=>(h2 q ho).1⟩
        ·exact oI C.o.g _ _ _ lR
        ·rw[tT.o.2];exact C.o.rd.below hR L1
theorem lM(s:tB)(i n:Nat)(most:Int)(w:tW)(Y:s.size<=QZ)(hi:i<=1000000000)(hn:n<=1000000000):
  RA LK 117 #[.string s,.int .i64 i,.int .i64 n,.int .i64 most] w λ e w'=>e=.returned (.bool (kT s i n most))/\w'=w:=by
 unfold QZ at Y;by_cases I:s.size<i+n
 ·have D:=Hx (most:=most) I;rw[D];clear D;go_enter func117,ntmps117;go_wp2;go_ret;exact⟨rfl,rfl⟩
 ·go_enter func117,ntmps117;go_wp2
  go_loop [9] (λ k=>∃j:Nat,j<=n/\k=.int .i64 ((i+j:Nat):Int)/\∀l,l<j->(bt s (i+l):Int)<=most) (λ k=>i+n-(QO k).toNat)
  case atStart=>exact⟨0,zL,rfl,λ l h=>absurd h (OE _)⟩
  case round=>
   obtain⟨j,Z,rfl,C⟩:=hrel;have Q:QP (∀l,l<j->(bt s (i+l):Int)<=most):=C;clear C;by_cases F:j<n
   ·have hb:=kM s (i+j) (by omega);have X:=mT s (i+j);by_cases U:(bt s (i+j):Int)<=most
    ·go_wp2;go_round
     case rel=>
      refine⟨j+1,F,by go_num,?_⟩;intro l V;by_cases e:l=j
      ·rw[e];exact U
      ·exact Q.o l (by omega)
     case measure=>simp[QO];omega
    ·have D:=Yg (i:=i) (most:=most) F (Int.not_le.mp U);have J:QP (kT s i n most=false):=D;clear D;go_wp2;go_ret;exact⟨by rw[J.o];rfl,rfl⟩
   ·have D:=oD (s:=s) (i:=i) (n:=n) (most:=most) (by omega) (λ l V=>Q.o l (by omega));have J:QP (kT s i n most=true):=D;clear D;go_wp2;go_ret;exact⟨by rw[J.o];rfl,rfl⟩
theorem E9(s:tB)(C o:Nat)(i n most:Int)(w:tW)(I:s.size<=1000000)(hi:C<=1000000000)(hn:o<=1000000000)(D:i=(C:Int))(F:n=(o:Int)):
  RA LK 117 #[.string s,.int .i64 i,.int .i64 n,.int .i64 most] w λ e w'=>e=.returned (.bool (kT s C o most))/\w'=w:=by
 subst D F;exact lM s C o most w (by unfold QZ;omega) hi hn
theorem U4{a:Nat}(C:a<=255)(o:b<=257):a*b<=65535:=NE (NU C o) (by decide)
theorem Ch(s:tB)(aX aM i b:Nat)(w:tW)(hs:s.size<=120000)(hi:i<=1000000)(hm:aM<=256)
  (h0:w.cell? ⟨b,0,none⟩=some (.string s)) (h1:w.cell? ⟨b,1,none⟩=some (.int .i64 aX)) (h4:w.cell? ⟨b,4,none⟩=some (.int .i64 aM)):
  RA LK 118 #[.pointer (some ⟨b,0,none⟩),.int .i64 i] w λ e w'=>
   e=.returned (.tuple #[.int .i64 (IQ s aX aM i),.int .i64 (tY s aX aM i),.bool (rU s aX aM i)])/\∃q,w'=w.drewN q:=by
 by_cases hb:kT s i 1 100=true
 case neg=>
  have C:¬(rU s aX aM i=true):=by
   intro h;rw[nG]at h;exact hb (oD h.1 (λ j hj=>by
    have:j=0:=by omega
    subst this;simp;have:=h.2.1;omega))
  obtain⟨J,I,V⟩:=Ft C;rw[J,I,V];clear J I V C;have hb:kT s i 1 100=false:=by simpa using hb
  go_enter PG,OY;go_wp2_with (first|(go_at_call 117;refine(lM _ _ 1 100 _ (by unfold QZ;omega) (by omega) (by omega)).mono ?_;rintro e w ⟨rfl,rfl⟩));go_ret3;exact⟨rfl,0,rfl⟩
 have bN:i+1<=s.size/\bt s i<=100:=by
  unfold kT at hb;simp only[ME,aE]at hb;have:=hb.2 0 (by omega);simp at this;exact⟨hb.1,by omega⟩
 obtain⟨bM,aT⟩:=bN;have eM:=kM s i (by omega);by_cases hz:bt s i=0
 ·have C:¬(rU s aX aM i=true):=by
   intro h;rw[nG]at h;exact h.2.2.1 hz
  obtain⟨J,I,V⟩:=Ft C;rw[J,I,V];clear J I V C;go_enter PG,OY;go_wp2_with (first|(go_at_call 117;refine(lM _ _ 1 100 _ (by unfold QZ;omega) (by omega) (by omega)).mono ?_;rintro e w ⟨rfl,rfl⟩));go_ret3;exact⟨rfl,0,rfl⟩
 have U:=U4 (a:=bt s i) (b:=1+aM) (by omega) (by omega);have eT:(0:Int)<=(bt s i:Int)*(1+(aM:Int))/\(bt s i:Int)*(1+(aM:Int))<=65535:=by
  have e:((bt s i*(1+aM):Nat):Int)=(bt s i:Int)*(1+(aM:Int)):=by simp
  omega
 by_cases Y:s.size<i+1+bt s i*(1+aM)
 ·have C:¬(rU s aX aM i=true):=by
   intro h;rw[nG]at h;omega
  obtain⟨J,I,V⟩:=Ft C;rw[J,I,V];have hl:(s.size:Int)<(i:Int)+1+(bt s i:Int)*(1+(aM:Int)):=by
   have e:((bt s i*(1+aM):Nat):Int)=(bt s i:Int)*(1+(aM:Int)):=by simp
   omega
  clear J I V C Y U;go_enter PG,OY;go_wp2_with (first|(go_at_call 117;refine(lM _ _ 1 100 _ (by unfold QZ;omega) (by omega) (by omega)).mono ?_;rintro e w ⟨rfl,rfl⟩));go_ret3;exact⟨rfl,0,rfl⟩
 have hl:(i:Int)+1+(bt s i:Int)*(1+(aM:Int))<=(s.size:Int):=by
  have e:((bt s i*(1+aM):Nat):Int)=(bt s i:Int)*(1+(aM:Int)):=by simp
  omega
 have HL:QP (i+1+bt s i*(1+aM)<=s.size):=by unfold QP;omega
 clear Y U;have eR:((bt s i:Int)==0)=false:=aC.2 (by omega);have eO:decide ((s.size:Int)<(i:Int)+1+(bt s i:Int)*(1+(aM:Int)))=false:=by simp;omega
 go_enter PG,OY;go_wp2_with (first|(go_at_call 117;refine(lM _ _ 1 100 _ (by unfold QZ;omega) (by omega) (by omega)).mono ?_;rintro e w ⟨rfl,rfl⟩))
 go_loopw [10] (λ k w'=>∃st q:Nat,st<=bt s i/\k=.int .i64 (st:Int)/\w'=w.drewN q/\∀l,l<st->G9 s aX aM (bt s i) (i+1+l*(1+aM))=true) (λ k _=>bt s i-(QO k).toNat)
 case atStart=>exact⟨0,0,zL,rfl,rfl,λ l h=>absurd h (OE _)⟩
 case round=>
  obtain⟨st,q,eL,rfl,rfl,Q⟩:=hrel;have HA:QP (∀l,l<st->G9 s aX aM (bt s i) (i+1+l*(1+aM))=true):=Q;clear Q;by_cases X:st<bt s i
  ·have U:st*(1+aM)+(1+aM)<=bt s i*(1+aM):=by
    have:=OJ (1+aM) (show st+1<=bt s i from X);rw[NM]at this;omega
   have bK:(0:Int)<=(st:Int)*(1+(aM:Int))/\(st:Int)*(1+(aM:Int))+(1+(aM:Int))<=(bt s i:Int)*(1+(aM:Int)):=by
    have e:((bt s i*(1+aM):Nat):Int)=(bt s i:Int)*(1+(aM:Int)):=by simp
    have I:((st*(1+aM):Nat):Int)=(st:Int)*(1+(aM:Int)):=by simp
    omega
   have HM:QP (st*(1+aM)+(1+aM)<=bt s i*(1+aM)):=U;clear U;obtain⟨a,aW⟩:∃a:Nat,a=i+1+st*(1+aM):=⟨_,rfl⟩
   have ha:(i:Int)+1+(st:Int)*(1+(aM:Int))=(a:Int):=by
    have I:((st*(1+aM):Nat):Int)=(st:Int)*(1+(aM:Int)):=by simp
    omega
   have cP:a+1+aM<=s.size:=by omega
   have aR:QP (a=i+1+st*(1+aM)):=aW;clear aW bK;have cN:=kM s a (by omega);have eS:=mT s a;by_cases aO:bt s a<=aX
   ·have bS:decide (aX<bt s a)=false:=by simp;omega
    go_wp2;go_quiet (fail);go_wp2
    go_loopw [12] (λ k w'=>∃F q2:Nat,w'=w.drewN q2/\F<=aM/\k=.int .i64 ((F+1:Nat):Int)/\∀l,l<F->bt s (a+(l+1))<bt s i\/bt s (a+(l+1))=255) (λ k _=>1+aM-(QO k).toNat)
    case atStart=>exact⟨0,q+nq,by simp,zL,rfl,λ l h=>absurd h (OE _)⟩
    case round=>
     obtain⟨F,q2,rfl,eN,rfl,Q⟩:=hrel;have HK:QP (∀l,l<F->bt s (a+(l+1))<bt s i\/bt s (a+(l+1))=255):=Q;clear Q;by_cases Z:F<aM
     ·have bT:=kM s (a+(F+1)) (by omega);have cF:=mT s (a+(F+1));by_cases D:bt s (a+(F+1))<bt s i\/bt s (a+(F+1))=255
      ·have HG:QP (bt s (a+(F+1))<bt s i\/bt s (a+(F+1))=255):=D;by_cases bO:bt s i<=bt s (a+(F+1))
       ·have bC:bt s (a+(F+1))=255:=by omega
        clear D;go_wp2;go_roundw
        case rel=>
         refine⟨F+1,q2,rfl,Z,by go_num,?_⟩;intro l hl;by_cases e:l=F
         ·rw[e];exact HG.o
         ·exact HK.o l (by omega)
        case measure=>simp[QO];omega
       ·clear D;go_wp2;go_roundw
        case rel=>
         refine⟨F+1,q2,rfl,Z,by go_num,?_⟩;intro l hl;by_cases e:l=F
         ·rw[e];exact HG.o
         ·exact HK.o l (by omega)
        case measure=>simp[QO];omega
      ·have C:¬(rU s aX aM i=true):=by
        intro h;rw[nG]at h;have h5:=h.2.2.2.2 st X;rw[qF,<-aR.o]at h5;exact D (h5.2 F Z)
       obtain⟨J,I,V⟩:=Ft C;have E:QP (IQ s aX aM i=0/\tY s aX aM i=i/\rU s aX aM i=false):=⟨J,I,V⟩
       have bO:bt s i<=bt s (a+(F+1)):=by omega
       have bC:bt s (a+(F+1))≠255:=by omega
       clear J I V C D;go_wp2;go_ret3;refine⟨?_,q2,rfl⟩;rw[E.o.1,E.o.2.1,E.o.2.2]
       rfl
     ·have e:F=aM:=by omega
      subst e;go_wp2;go_roundw
      case rel=>
       refine⟨st+1,q2,X,by go_num,rfl,?_⟩;intro l hl;by_cases e:l=st
       ·rw[e,qF,<-aR.o];exact⟨aO,HK.o⟩
       ·exact HA.o l (by omega)
      case measure=>simp[QO];omega
   ·have C:¬(rU s aX aM i=true):=by
     intro h;rw[nG]at h;have h5:=h.2.2.2.2 st X;rw[qF,<-aR.o]at h5;exact aO h5.1
    obtain⟨J,I,V⟩:=Ft C;have E:QP (IQ s aX aM i=0/\tY s aX aM i=i/\rU s aX aM i=false):=⟨J,I,V⟩
    clear J I V C;go_wp2;go_quiet (fail);go_wp2;go_ret3;refine⟨?_,q+nq,by simp⟩;rw[E.o.1,E.o.2.1,E.o.2.2]
    rfl
  ·have e:st=bt s i:=by omega
   subst e;have aL:rU s aX aM i=true:=nG.2 ⟨bM,aT,hz,HL.o,HA.o⟩;obtain⟨J,I⟩:=Cl aL;have E:QP (IQ s aX aM i=bt s i/\tY s aX aM i=i+1+bt s i*(1+aM)/\rU s aX aM i=true):=⟨J,I,aL⟩
   clear J I aL;go_wp2;go_ret3;refine⟨?_,q,rfl⟩;rw[E.o.1,E.o.2.1,E.o.2.2];simp
theorem Vf(s:tB)(w:tW)(Y:s.size<=120000)(D:D7 s=false):
  RA LK 111 #[.string s] w λ e w'=>
   e=.returned (.tuple #[.pointer none,.bool false])/\w'=w:=by
 have J:QP (¬(4<=s.size/\(bt s 0=83/\bt s 1=84/\bt s 2=1)/\1<=bt s 3/\bt s 3<=8)):=by
  intro h;rw[pK.2 h]at D;cases D
 clear D;by_cases V:s.size<4
 ·go_enter NF,NB;go_wp2;go_ret2;exact⟨rfl,rfl⟩
 have U:=kM s 3 (by omega);have I:=mT s 3;have C:=DI s (by omega);by_cases Q:(s.extract 0 3).toList=[83,84,1]
 ·have F:¬(1<=bt s 3/\bt s 3<=8):=λ h=>J.o ⟨by omega,C.1 Q,h⟩
  clear C;by_cases X:bt s 3<1
  ·clear F;go_enter NF,NB;go_wp2;go_ret2;exact⟨rfl,rfl⟩
  ·have Z:8<bt s 3:=by omega
   clear F;go_enter NF,NB;go_wp2;go_ret2;exact⟨rfl,rfl⟩
 ·clear C;go_enter NF,NB;go_wp2;go_ret2;exact⟨rfl,rfl⟩
theorem Wh(s:tB)(w:tW)(X:s.size<=120000)(F:D7 s=true)(o:wZ s=false):
  RA LK 111 #[.string s] w λ e w'=>
   e=.returned (.tuple #[.pointer none,.bool false])/\Bl w w':=by
 obtain⟨U,D,V,Y⟩:=pK.1 F;have D:=(DI s (by omega)).2 D;have J:(s[3]).toNat=iR s:=kM s 3 (by omega);unfold wZ iM at o;generalize iR s=n at*;clear F;by_cases C:kT s (4+n) 1 4=true
 ·have Z:bt s (4+n)=0:=by simpa[C]using o
  have I:=sD C;have Q:=kM s (4+n) (by omega);clear o;go_enter NF,NB;go_wp2_with (first|(go_at_call 117;refine(lM s (4+n) 1 4 _ (by unfold QZ;omega) (by omega) (by omega)).mono ?_;rintro e w ⟨rfl,rfl⟩));go_ret2;exact⟨rfl,bR.alloc lR _⟩
 ·have C:kT s (4+n) 1 4=false:=by simpa using C
  clear o;go_enter NF,NB;go_wp2_with (first|(go_at_call 117;refine(lM s (4+n) 1 4 _ (by unfold QZ;omega) (by omega) (by omega)).mono ?_;rintro e w ⟨rfl,rfl⟩));go_ret2;exact⟨rfl,bR.alloc lR _⟩
theorem Yn(s:tB)(w:tW)(hs:s.size<=120000)(J:D7 s=true)(F:wZ s=true)(D:zN s=false):
  RA LK 111 #[.string s] w λ e w'=>
   e=.returned (.tuple #[.pointer none,.bool false])/\Bl w w':=by
 obtain⟨h4,I,h1,h8⟩:=pK.1 J;have I:=(DI s (by omega)).2 I;have Z:(s[3]).toNat=iR s:=kM s 3 (by omega);unfold wZ at F;simp only[ME,aE]at F;obtain⟨Q,hz⟩:=F;have V:=sD Q;have C:=yO Q 0 (by omega);have U:(s[4+iR s]).toNat=iM s:=kM s (4+iR s) (by omega);have C:iM s<=4:=by unfold iM;simp at C;omega
 unfold zN at D;generalize iM s=m at*;generalize iR s=n at*;clear J;have Y:((m:Int)==0)=false:=aC.2 (by omega);by_cases o:kT s 4 n (1+(m:Int))=true
 ·have X:kT s (5+n) 1 255=false:=by simpa[o]using D
  clear D;go_enter NF,NB;go_wp2_with (first|(go_at_call 117;refine(lM s (4+n) 1 4 _ (by unfold QZ;omega) (by omega) (by omega)).mono ?_;rintro e w ⟨rfl,rfl⟩));go_quiet ((go_at_call 117;exact RA.quiet_of_same (lM s 4 n (1+m) _ (by unfold QZ;omega) (by omega) (by omega))));go_wp2_with fail;refine(E9 s (5+n) 1 _ _ 255 _ (by omega) (by omega) (by omega) (by omega) rfl).mono ?_;rintro e w ⟨rfl,rfl⟩;go_wp2;go_ret2;exact⟨rfl,by repeat (first|exact bR|apply _root_.Go.below_drewN|refine QJ ?_ lR _)⟩
 ·have o:kT s 4 n (1+(m:Int))=false:=by simpa using o
  clear D;go_enter NF,NB;go_wp2_with (first|(go_at_call 117;refine(lM s (4+n) 1 4 _ (by unfold QZ;omega) (by omega) (by omega)).mono ?_;rintro e w ⟨rfl,rfl⟩));go_quiet ((go_at_call 117;exact RA.quiet_of_same (lM s 4 n (1+m) _ (by unfold QZ;omega) (by omega) (by omega))));go_wp2_with fail;refine(E9 s (5+n) 1 _ _ 255 _ (by omega) (by omega) (by omega) (by omega) rfl).mono ?_;rintro e w ⟨rfl,rfl⟩;go_wp2;go_ret2;exact⟨rfl,by repeat (first|exact bR|apply _root_.Go.below_drewN|refine QJ ?_ lR _)⟩
def Z8(s:tB)(c:Nat):List tV:=(MH c).map λ i=> .int .i64 ((pC s i+1:Nat):Int)
def Fq(s:tB)(c:Nat):List tV:=(MH c).map λ i=> .int .i64 (bt s (pC s i))
structure sC(w:tW)(b aH:Nat)(s:tB)(ca cs:Nat)(va vs:tV):Prop where
 c0:w.cell? ⟨b,0,none⟩=some (.string s)
 c1:w.cell? ⟨b,1,none⟩=some (.int .i64 (iR s))
 c2:w.cell? ⟨b,2,none⟩=some (.int .i64 (iM s))
 c3:w.cell? ⟨b,3,none⟩=some (.int .i64 ((6+iR s:Nat):Int))
 c4:w.cell? ⟨b,4,none⟩=some (.int .i64 (iK s))
 c5:w.cell? ⟨b,5,none⟩=some va
 c6:w.cell? ⟨b,6,none⟩=some vs
 f5:w.frozen? ⟨b,5,none⟩=false
 f6:w.frozen? ⟨b,6,none⟩=false
 ra:w.ownsRow aH 3 1 va ca (Z8 s ca)
 rs:w.ownsRow aH 3 1 vs cs (Fq s cs)
 hb:b<aH
 hz:aH<=w.heap.size
 ap:va.ownBlock=none\/va.ownBlock≠vs.ownBlock
theorem sC.drewN{w:tW}{s:tB}{o vs:tV}(h:sC w b aH s ca cs o vs)(q:Nat):sC (w.drewN q) b aH s ca cs o vs:=
 ⟨h.c0,h.c1,h.c2,h.c3,h.c4,h.c5,h.c6,h.f5,h.f6,h.ra,h.rs,h.hb,h.hz,h.ap⟩
theorem I7{w:tW}{v:tV}{xs:List tV}(h:w.ownsRow aH e size v n xs){b:Nat}(o:b<aH):some b≠v.ownBlock:=by
 intro e;have:=h.lt b e.symm;omega
theorem sC.app5{w w1:tW}{s:tB}{V vs:tV}(h:sC w b aH s c cs V vs)(o:Obj){g aJ:Nat}
  (I:w1.ownsRow aH 3 1 (.slice (some ⟨g,0,none⟩) (c+1) aJ) (c+1) (Z8 s c++[.int .i64 ((pC s c+1:Nat):Int)]))
  (D:(w.alloc o).grownBy w1 V.ownBlock) (Z:V.ownBlock=some g\/g=w.heap.size+1):
  sC (w1.setCell ⟨b,5,none⟩ (.slice (some ⟨g,0,none⟩) (c+1) aJ)) b aH s (c+1) cs (.slice (some ⟨g,0,none⟩) (c+1) aJ) vs:=by
 have aO:=h.hb;have aL:=h.hz;have J:some b≠V.ownBlock:=I7 h.ra h.hb;have F:∀i v,w.cell? ⟨b,i,none⟩=some v->w1.cell? ⟨b,i,none⟩=some v:=λ i v X=>
  D.cell (by rw[MV (hn:=by omega)];exact X) J
 have Q:∀i,w1.frozen? ⟨b,i,none⟩=w.frozen? ⟨b,i,none⟩:=λ i=>by
  rw[D.frozen_far ⟨b,i,none⟩ (by simp;omega) J,OC (hn:=by omega)]
 have C:∀i v,i≠5->w.cell? ⟨b,i,none⟩=some v->(w1.setCell ⟨b,5,none⟩ (.slice (some ⟨g,0,none⟩) (c+1) aJ)).cell? ⟨b,i,none⟩=some v:=λ i v hi X=>by
  rw[LD (h:=by intro e;injection e;omega)];exact F i v X
 refine⟨C 0 _ (by omega) h.c0,C 1 _ (by omega) h.c1,C 2 _ (by omega) h.c2,C 3 _ (by omega) h.c3,C 4 _ (by omega) h.c4,
  LH _ _ _ (F 5 _ h.c5),C 6 _ (by omega) h.c6,?_,?_,?_,?_,h.hb,?_,?_⟩
 ·rw[LG,Q];exact h.f5
 ·rw[LG,Q];exact h.f6
 ·have e:Z8 s (c+1)=Z8 s c++[.int .i64 ((pC s c+1:Nat):Int)]:=by
   unfold Z8;rw[PM,OD];rfl
  rw[e];exact QN I h.hb _
 ·refine QN ((h.rs.alloc o).kept D ?_) h.hb _;rcases h.ap with e|e
  ·cases X:vs.ownBlock with
   | none=>exact .inl rfl
   | some k=>right;rw[e];simp
  ·exact .inr (Ne.symm e)
 ·have:=D.size;simp[LN]at this ⊢;omega
 ·right;show some g≠vs.ownBlock;intro e;rcases Z with U|U
  ·rcases h.ap with Y|Y
   ·rw[Y]at U;cases U
   ·exact Y (U.trans e)
  ·have:=h.rs.lt g e.symm;omega
theorem sC.app6{w w1:tW}{s:tB}{X vs:tV}(h:sC w b aH s ca c X vs)(o:Obj){g aJ:Nat}
  (I:w1.ownsRow aH 3 1 (.slice (some ⟨g,0,none⟩) (c+1) aJ) (c+1) (Fq s c++[.int .i64 (bt s (pC s c))]))
  (D:(w.alloc o).grownBy w1 vs.ownBlock) (V:vs.ownBlock=some g\/g=w.heap.size+1):
  sC (w1.setCell ⟨b,6,none⟩ (.slice (some ⟨g,0,none⟩) (c+1) aJ)) b aH s ca (c+1) X (.slice (some ⟨g,0,none⟩) (c+1) aJ):=by
 have aO:=h.hb;have aL:=h.hz;have J:some b≠vs.ownBlock:=I7 h.rs h.hb;have F:∀i v,w.cell? ⟨b,i,none⟩=some v->w1.cell? ⟨b,i,none⟩=some v:=λ i v Y=>
  D.cell (by rw[MV (hn:=by omega)];exact Y) J
 have Q:∀i,w1.frozen? ⟨b,i,none⟩=w.frozen? ⟨b,i,none⟩:=λ i=>by
  rw[D.frozen_far ⟨b,i,none⟩ (by simp;omega) J,OC (hn:=by omega)]
 have C:∀i v,i≠6->w.cell? ⟨b,i,none⟩=some v->(w1.setCell ⟨b,6,none⟩ (.slice (some ⟨g,0,none⟩) (c+1) aJ)).cell? ⟨b,i,none⟩=some v:=λ i v hi Y=>by
  rw[LD (h:=by intro e;injection e;omega)];exact F i v Y
 refine⟨C 0 _ (by omega) h.c0,C 1 _ (by omega) h.c1,C 2 _ (by omega) h.c2,C 3 _ (by omega) h.c3,C 4 _ (by omega) h.c4,
  C 5 _ (by omega) h.c5,LH _ _ _ (F 6 _ h.c6),?_,?_,?_,?_,h.hb,?_,?_⟩
 ·rw[LG,Q];exact h.f5
 ·rw[LG,Q];exact h.f6
 ·refine QN ((h.ra.alloc o).kept D ?_) h.hb _;exact h.ap
 ·have e:Fq s (c+1)=Fq s c++[.int .i64 (bt s (pC s c))]:=by
   unfold Fq;rw[PM,OD];rfl
  rw[e];exact QN I h.hb _
 ·have:=D.size;simp[LN]at this ⊢;omega
 ·right;show X.ownBlock≠some g;intro e;rcases V with Z|Z
  ·rcases h.ap with U|U
   ·rw[U]at e;cases e
   ·exact U (e.trans Z.symm)
  ·have:=h.ra.lt g e;omega
theorem sC.kept{w w1:tW}{s:tB}{Q vs v:tV}{xs:List tV}(h:sC w b aH s ca cs Q vs){o:Obj}
  (J:w.ownsRow aH 3 1 v n xs) (C:(w.alloc o).grownBy w1 v.ownBlock):
  w1.cell? ⟨b,5,none⟩=some Q/\w1.frozen? ⟨b,5,none⟩=false/\w1.cell? ⟨b,6,none⟩=some vs/\w1.frozen? ⟨b,6,none⟩=false:=by
 have U:=h.hb;have V:=h.hz;have F:some b≠v.ownBlock:=I7 J h.hb;have D:∀i v,w.cell? ⟨b,i,none⟩=some v->w1.cell? ⟨b,i,none⟩=some v:=λ i v J=>
  C.cell (by rw[MV (hn:=by omega)];exact J) F
 have I:∀i,w1.frozen? ⟨b,i,none⟩=w.frozen? ⟨b,i,none⟩:=λ i=>by
  rw[C.frozen_far ⟨b,i,none⟩ (by simp;omega) F,OC (hn:=by omega)]
 exact⟨D 5 _ h.c5,(I 5).trans h.f5,D 6 _ h.c6,(I 6).trans h.f6⟩
theorem sC.start(w:tW)(s:tB)(k D F:Nat)(J:iK s=k+1):
  sC (((((w.alloc (.cells #[.string s,.int .i64 (iR s),.int .i64 (iM s),.int .i64 0,.int .i64 0,.slice none 0 0,.slice none 0 0] 227)).drewN D).setCell ⟨w.heap.size,4,none⟩ (.int .i64 ((k:Int)+1))).setCell
   ⟨w.heap.size,3,none⟩ (.int .i64 (4+(iR s:Int)+2))).drewN F) w.heap.size (w.heap.size+1) s 0 0 (.slice none 0 0) (.slice none 0 0):=by
 have C:∀i v, #[NI s,.int .i64 (iR s),.int .i64 (iM s),.int .i64 0,.int .i64 0,.slice none 0 0,.slice none 0 0][i]?=some v->
   ((w.alloc (.cells #[.string s,.int .i64 (iR s),.int .i64 (iM s),.int .i64 0,.int .i64 0,.slice none 0 0,.slice none 0 0] 227)).drewN D).cell? ⟨w.heap.size,i,none⟩=some v:=λ i v h=>by
  show(w.alloc _).cell? _=_;rw[LO];exact h
 have I:∀i,((w.alloc (.cells #[.string s,.int .i64 (iR s),.int .i64 (iM s),.int .i64 0,.int .i64 0,.slice none 0 0,.slice none 0 0] 227)).drewN D).frozen? ⟨w.heap.size,i,none⟩=false:=λ i=>by
  show(w.alloc _).frozen? _=_;rw[MJ]
 have U:((w.alloc (.cells #[.string s,.int .i64 (iR s),.int .i64 (iM s),.int .i64 0,.int .i64 0,.slice none 0 0,.slice none 0 0] 227)).drewN D).heap.size=w.heap.size+1:=by
  show(w.alloc _).heap.size=_;simp
 generalize ((w.alloc (.cells #[.string s,.int .i64 (iR s),.int .i64 (iM s),.int .i64 0,.int .i64 0,.slice none 0 0,.slice none 0 0] 227)).drewN D)=W at*;refine sC.drewN ?_ F;have o:∀i v,i≠3->i≠4->W.cell? ⟨w.heap.size,i,none⟩=some v->((W.setCell ⟨w.heap.size,4,none⟩ (.int .i64 ((k:Int)+1))).setCell ⟨w.heap.size,3,none⟩ (.int .i64 (4+(iR s:Int)+2))).cell? ⟨w.heap.size,i,none⟩=some v:=λ i v X V Q=>by
  rw[LD (h:=by intro e;injection e;omega),LD (h:=by intro e;injection e;omega)];exact Q
 refine⟨o 0 _ (by omega) (by omega) (C 0 _ rfl),o 1 _ (by omega) (by omega) (C 1 _ rfl),o 2 _ (by omega) (by omega) (C 2 _ rfl),?_,?_,
  o 5 _ (by omega) (by omega) (C 5 _ rfl),o 6 _ (by omega) (by omega) (C 6 _ rfl),?_,?_,LS _ _ _ _,LS _ _ _ _,by omega,?_,.inl rfl⟩
 ·rw[LH (u:= .int .i64 0)]
  ·congr 2;omega
  ·rw[LD (h:=by intro e;injection e;omega)];exact C 3 _ rfl
 ·rw[LD (h:=by intro e;injection e;omega),LH (h:=C 4 _ rfl)];rw[J];rfl
 ·rw[LG,LG];exact I 5
 ·rw[LG,LG];exact I 6
 ·simp[LN];omega
theorem Yw{s:tB}(o:s.size<=120000)(C:iR s<=8)(h:∀l,l<c->rU s (iR s) (iK s) (pC s l)=true):pC s c<=120000:=by
 cases c with
 | zero=>show 262+iR s<=120000;omega
 | succ n=>have:=(D1 (h n (NZ n))).2;omega
theorem Qn(s:tB)(w:tW)(hs:s.size<=120000)(hA:D7 s=true)(hB:wZ s=true)(hC:zN s=true):
  RA LK 111 #[.string s] w λ e w'=>
   ∃v,e=.returned (.tuple #[v,.bool (iF s)])/\Bl w w'/\(iF s=true->v=.pointer (some ⟨w.heap.size,0,none⟩)/\∃va vs,sC w' w.heap.size (w.heap.size+1) s (iM s) (iM s) va vs):=by
 obtain⟨h4,hp,h1,h8⟩:=pK.1 hA;have hp:=(DI s (by omega)).2 hp;have hP:(s[3]).toNat=iR s:=kM s 3 (by omega);have aR:=hB;unfold wZ at aR;simp only[ME,aE]at aR;obtain⟨hb,hz⟩:=aR;have hM:=sD hb;have bK:=yO hb 0 (by omega);have hK:(s[4+iR s]).toNat=iM s:=kM s (4+iR s) (by omega);have bK:iM s<=4:=by unfold iM;simp at bK;omega
 have bC:=hC;unfold zN at bC;simp only[ME]at bC;obtain⟨hH,eL⟩:=bC;have eX:=sD eL;have hbk:(s[4+iR s+1]).toNat=bt s (5+iR s):=by rw[kM s (4+iR s+1) (by omega)];congr 1;omega
 have hI:=mT s (5+iR s);have hN:((iM s:Int)==0)=false:=aC.2 (by omega);have HK:QP (iK s=bt s (5+iR s)+1):=rfl;have hS:decide ((s.size:Int)<4)=false:=by simp;omega
 have hF:decide ((iR s:Int)<1)=false:=by simp;omega
 have hQ:decide (8<(iR s:Int))=false:=by simp;omega
 by_cases hD:yE s=true
 ·have hd:kT s (6+iR s) 256 (bt s (5+iR s):Int)=true:=by
   have:yE s=kT s (6+iR s) 256 (bt s (5+iR s):Int):=by unfold yE iK;congr 1;omega
   rw[<-this];exact hD
  have eR:=sD hd;have HH:QP (D7 s=true/\wZ s=true/\zN s=true/\yE s=true):=⟨hA,hB,hC,hD⟩
  clear hA hB hC hD;generalize hkk:bt s (5+iR s)=k at*;have hG:QP (bt s (5+iR s)=k):=hkk;clear hkk;go_enter NF,NB;go_wp2_with (first|(go_at_call 117;refine(lM s (4+iR s) 1 4 _ (by unfold QZ;omega) (by omega) (by omega)).mono ?_;rintro e w ⟨rfl,rfl⟩));go_quiet ((go_at_call 117;exact RA.quiet_of_same (lM s 4 (iR s) (1+iM s) _ (by unfold QZ;omega) (by omega) (by omega))));go_wp2_with fail;refine(E9 s (5+iR s) 1 _ _ 255 _ (by omega) (by omega) (by omega) (by omega) rfl).mono ?_;rintro e w ⟨rfl,rfl⟩;go_wp2_with fail;go_quiet ((go_at_call 117;exact RA.quiet_of_same (E9 s (6+iR s) 256 _ _ k _ (by omega) (by omega) (by omega) (by omega) rfl)));go_wp2_with fail;rw[hd]
  go_loopw [8,9] (λ a c wr=>∃(cn:Nat)(va vs:tV),cn<=iM s/\c=.int .i64 cn/\a=.int .i64 (pC s cn)/\(∀l,l<cn->rU s (iR s) (iK s) (pC s l)=true)/\sC wr w.heap.size (w.heap.size+1) s cn cn va vs/\Bl w wr)
   (λ _ c _=>4-(QO c).toNat)
  case atStart=>
   refine⟨0,.slice none 0 0,.slice none 0 0,zL,rfl,?_,λ l h=>absurd h (OE _),?_,?_⟩
   ·show _=ML .i64 ((262+iR s:Nat):Int);go_num
   ·exact sC.start w s k _ _ (by rw[HK.o])
   ·exact _root_.Go.below_drewN (((_root_.Go.below_drewN ((MZ w.heap.size w).alloc lR _) _).setCell (p:=⟨w.heap.size,4,none⟩) lR _).setCell (p:=⟨w.heap.size,3,none⟩) lR _) _
  case round=>
   obtain⟨cn,va,vs,hR,rfl,rfl,U,C,J⟩:=hrel;have hU:=Yw hs h8 U;have bS:=C.c2;have HA:QP (∀l,l<cn->rU s (iR s) (iK s) (pC s l)=true):=U;clear U;have cF:=J.size;by_cases Y:cn<iM s
   ·cases hst:rU s (iR s) (iK s) (pC s cn)with
    | false=>
     have bN:=Rl Y hst;have V:=Ft (s:=s) (aX:=iR s) (aM:=iK s) (i:=pC s cn) (by rw[hst];simp);have HN:QP (iF s=false):=bN;clear bN;go_wp2_with fail;refine(Ch s (iR s) (iK s) (pC s cn) w.heap.size _ hs (by omega) (Su s) C.c0 C.c1 C.c4).mono ?_;rintro e cN ⟨rfl,q,rfl⟩;rw[V.1,V.2.1,V.2.2];go_wp2;go_ret2;refine⟨.pointer none,by rw[HN.o];rfl,_root_.Go.below_drewN J _,λ h=>?_⟩;rw[HN.o]at h;cases h
    | true=>
     have Z:=Cl hst;have aL:=D1 hst;go_wp2_with fail;refine(Ch s (iR s) (iK s) (pC s cn) w.heap.size _ hs (by omega) (Su s) C.c0 C.c1 C.c4).mono ?_;rintro e cN ⟨rfl,q,rfl⟩;rw[Z.1,Z.2,hst];have D:=C.drewN q;have aO:=_root_.Go.below_drewN J q;have eT:=D.hz;generalize wr.drewN q=wq at*;clear C J cF bS;have eS:=D.c5;go_wp2_with (first
      | (at_builtin;refine gB wq rfl (.tmp 134) (.tmp 137) 59 rfl (w.heap.size+1) 3 (.int .i64 0) 1 8 ND bU rfl (by decide) (by decide) va cn (Z8 s cn) [.int .i64 ((pC s cn:Int)+1)] _ rfl D.ra _ rfl rfl rfl (by simp[MG]) (by omega) (by omega) ?_;intro g aJ w1 bO Q cP eO;obtain⟨k5,hT,k6,hL⟩:=D.kept D.ra Q;have F:=D.app5 _ bO Q cP;have gL:=F.hz)
      | (at_builtin;refine gB (w1.setCell ⟨w.heap.size,5,none⟩ (.slice (some ⟨g,0,none⟩) (cn+1) aJ)) rfl (.tmp 145) (.tmp 147) 59 rfl (w.heap.size+1) 3 (.int .i64 0) 1 8 ND bU rfl (by decide) (by decide) vs cn (Fq s cn) [.int .i64 (bt s (pC s cn))] _ rfl F.rs w1.heap.size (by simp) rfl rfl (by simp[MG]) (by omega) (by omega) ?_;intro g2 eM w2 aT I bM eN;obtain⟨m5,hE,m6,hJ⟩:=F.kept F.rs I;have aW:=F.app6 _ aT I bM))
     go_roundw
     case rel=>
      refine⟨cn+1,_,_,Y,by go_num,?_,?_,aW,?_⟩
      ·rw[aL.1];simp
      ·intro l hl;by_cases e:l=cn
       ·rw[e];exact hst
       ·exact HA.o l (by omega)
      ·have bT:=(lU aO (by omega) D.ra (by omega) Q).setCell (p:=⟨w.heap.size,5,none⟩) lR (.slice (some ⟨g,0,none⟩) (cn+1) aJ);exact(lU bT (by omega) F.rs (by omega) I).setCell (p:=⟨w.heap.size,6,none⟩) lR _
     case measure=>simp[QO];omega
   ·have e:cn=iM s:=by omega
    have X:iF s=decide (pC s cn=s.size):=by
     rw[ON,mK,aE,e];rw[e]at HA;exact⟨λ h=>h.2.2.2.2.2,λ h=>⟨HH.o.1,HH.o.2.1,HH.o.2.2.1,HH.o.2.2.2,HA.o,h⟩⟩
    have HF:QP (iF s=decide (pC s cn=s.size)):=X;have E:QP (cn=iM s):=e;clear X e;go_wp2;go_ret2;refine⟨.pointer (some ⟨w.heap.size,0,none⟩),?_,J,λ _=>⟨rfl,va,vs,?_⟩⟩
    ·rw[HF.o];simp;rw[ON,beq_iff_eq,aE];omega
    ·rw[<-E.o];exact C
 ·have hd:kT s (6+iR s) 256 (bt s (5+iR s):Int)=false:=by
   have:yE s=kT s (6+iR s) 256 (bt s (5+iR s):Int):=by unfold yE iK;congr 1;omega
   rw[<-this];simpa using hD
  have HN:QP (iF s=false):=Wb (by simpa using hD);clear hA hB hC hD;generalize hkk:bt s (5+iR s)=k at*;clear hkk;go_enter NF,NB;go_wp2_with (first|(go_at_call 117;refine(lM s (4+iR s) 1 4 _ (by unfold QZ;omega) (by omega) (by omega)).mono ?_;rintro e w ⟨rfl,rfl⟩));go_quiet ((go_at_call 117;exact RA.quiet_of_same (lM s 4 (iR s) (1+iM s) _ (by unfold QZ;omega) (by omega) (by omega))));go_wp2_with fail;refine(E9 s (5+iR s) 1 _ _ 255 _ (by omega) (by omega) (by omega) (by omega) rfl).mono ?_;rintro e w ⟨rfl,rfl⟩;go_wp2_with fail;go_quiet ((go_at_call 117;exact RA.quiet_of_same (E9 s (6+iR s) 256 _ _ k _ (by omega) (by omega) (by omega) (by omega) rfl)));go_wp2;go_ret2;refine⟨.pointer none,by rw[HN.o];rfl,?_,λ h=>?_⟩
  ·exact _root_.Go.below_drewN (((_root_.Go.below_drewN ((MZ w.heap.size w).alloc lR _) _).setCell (p:=⟨w.heap.size,4,none⟩) lR _).setCell (p:=⟨w.heap.size,3,none⟩) lR _) _
  ·rw[HN.o]at h;cases h
theorem yM(s:tB)(w:tW)(o:s.size<=120000):
  RA LK 111 #[.string s] w λ e w'=>
   ∃v,e=.returned (.tuple #[v,.bool (iF s)])/\Bl w w'/\(iF s=true->v=.pointer (some ⟨w.heap.size,0,none⟩)/\∃D vs,sC w' w.heap.size (w.heap.size+1) s (iM s) (iM s) D vs):=by
 cases hA:D7 s with
 | false=>
  refine(Vf s w o hA).mono ?_;rintro e w' ⟨rfl,rfl⟩;rw[Vr hA];exact⟨_,rfl,bR,λ h=>by cases h⟩
 | true=>
  cases hB:wZ s with
  | false=>
   refine(Wh s w o hA hB).mono ?_;rintro e w' ⟨rfl,C⟩;rw[Wv hB];exact⟨_,rfl,C,λ h=>by cases h⟩
  | true=>
   cases hC:zN s with
   | false=>
    refine(Yn s w o hA hB hC).mono ?_;rintro e w' ⟨rfl,C⟩;rw[Yv hC];exact⟨_,rfl,C,λ h=>by cases h⟩
   | true=>exact Qn s w o hA hB hC
def G5(s:tB):Int:=if 120000<s.size then 1 else if iF s=true then 0 else 5
theorem Y0(s:tB)(w:tW)(F:s.size<=QZ):
  RA LK 87 #[.string s] w λ e w'=>e=.returned (.int .i64 (G5 s))/\Bl w w':=by
 unfold QZ at F;by_cases D:120000<s.size
 ·have o:G5 s=1:=by unfold G5;rw[aB D]
  rw[o];clear o;go_enter func87,ntmps87;go_wp2;go_ret;exact⟨rfl,bR⟩
 ·cases hi:iF s with
  | true=>
   have o:G5 s=0:=by unfold G5;rw[aA D,aB hi]
   rw[o];clear o;go_enter func87,ntmps87;go_wp2_with (go_at_call 111;refine(yM s _ (by omega)).mono ?_;rintro e w1 ⟨v,rfl,C,_⟩);go_ret;exact⟨rfl,C⟩
  | false=>
   have o:G5 s=5:=by unfold G5;rw[aA D,aA (by rw[hi];decide)]
   rw[o];clear o;go_enter func87,ntmps87;go_wp2_with (go_at_call 111;refine(yM s _ (by omega)).mono ?_;rintro e w1 ⟨v,rfl,C,_⟩);go_ret;exact⟨rfl,C⟩
def AO(w:tW)(s:tB)(e:Ending)(w':tW):Prop:=
 Bl w w'/\((¬(s.size<=120000/\iF s=true)/\e=.returned (.tuple #[.agg LF,.int .i64 (G5 s)]))\/(s.size<=120000/\iF s=true/\
  ∃(bb:Nat)(vc:tV)(ys:List pF),e=.returned (.tuple #[.agg (nT (.slice (some ⟨bb,0,none⟩) (jU s) (jU s)) (gM s) vc).toArray,.int .i64 0])/\
   pX w' w.heap.size bb (oG s)/\w'.ownsRow (bb+1) 110 1 vc ys.length (xO ys)/\ys.map (λ y=>y.2.map (·.1))=J3 s/\(∀y∈ys,oH w' (mS s) y)/\(∀y∈ys,∀k,U1 y k->bb<k)))
theorem wL{w w':tW}{v:tV}{xs:List tV}(C:w.ownsRow aH e size v m xs)(J:Bl w w'):w'.ownsRow aH e size v m xs:=by
 refine⟨C.1,?_⟩;have o:=C.lt;rcases C.2 with I|⟨g,aJ,D,rfl,F,hg,rest⟩
 ·exact .inl I
 ·exact .inr ⟨g,aJ,D,rfl,F,(J.block g (o g rfl).2).trans hg,rest⟩
theorem E2(s:tB)(w:tW):
  RA LK 24 #[.string s] w λ e w'=>AO w s e w':=by
 by_cases I:120000<s.size
 ·have HT:=fV (iD w LF 72 w.heap.size 258 bL rfl);have hd:decide ((120000:Int)<(s.size:Int))=true:=by simp;omega
  go_enter func24,ntmps24;go_wp2_with (first|(refine QR rfl 72 (.tmp 2) (.tmp 9) rfl w.heap.size 0 LF rfl rfl ?_ ?_ bZ ?_;(rw[bL];exact HT.o);(rw[bL];exact bP)));refine jH OU w.heap.size 0 Tryz.zeroCells72.toList _ (.int .i64 1) rfl rfl ?_ MO rfl (by rw[LU,bL];exact bP) rfl ?_
  ·exact LY _ _ _ _ (by rw[LU,bL];exact HT.o)
  ·refine⟨fX _ 0 _ w.heap.size (bR.alloc lR _) lR,.inl ⟨λ h=>by omega,?_⟩⟩;have e:G5 s=1:=by unfold G5;rw[aB I]
   rw[e]
 ·have hd:decide ((120000:Int)<(s.size:Int))=false:=by simp;omega
  have bM:QP (C7 ((w.alloc (.cells LF 72)).alloc (.cells #[.string s,.int .i64 0,.bool false] 138)) (w.heap.size+1) s (0,false)):=by
   have e:w.heap.size+1=(w.alloc (.cells LF 72)).heap.size:=by simp
   rw[e];refine⟨?_,?_,?_,?_,?_⟩
   ·rw[LO];rfl
   ·rw[LO];rfl
   ·rw[LO];rfl
   ·intro i;rw[MJ]
   ·simp
  have HT:=fV (QA (iD w LF 72 w.heap.size 258 bL rfl) (.cells #[.string s,.int .i64 0,.bool false] 138));have HB:QP (Bl w ((w.alloc (.cells LF 72)).alloc (.cells #[.string s,.int .i64 0,.bool false] 138))):=(bR.alloc lR _).alloc (by simp) _;have hz:w.heap.size+2=((w.alloc (.cells LF 72)).alloc (.cells #[.string s,.int .i64 0,.bool false] 138)).heap.size:=by simp
  go_enter func24,ntmps24;go_wp2_with fail;generalize (w.alloc (.cells LF 72)).alloc (.cells #[.string s,.int .i64 0,.bool false] 138)=W at*;refine(Od s (w.heap.size+1) W (by omega) bM.o).mono ?_;rintro e w1 ⟨bb,vc,ys,rfl,hn,ho,hm,hc,hg,hl⟩;have Q:=fV (nY (.slice (some ⟨bb,0,none⟩) (jU s) (jU s)) (gM s) vc (by unfold gM;rw[lN];rfl));have aL:=fV (yD (vb:= .slice (some ⟨bb,0,none⟩) (jU s) (jU s)) (vc:=vc) (cs:=gM s) rfl (by obtain⟨va,aU,rfl⟩:=gA ho;rfl));obtain⟨IL,X⟩:=xE (nT (.slice (some ⟨bb,0,none⟩) (jU s) (jU s)) (gM s) vc)
  rw[X]at Q aL ⊢;replace X:=fV X;have C:QP (IL.toArray.size=258):=by unfold QP;simpa using Q.o
  have aW:QP (IL.toArray.toList=IL):=by unfold QP;simp
  have D:QP (IL.toArray.all (·.oneCell')=true):=QS aL.o;obtain⟨J,Y⟩:=xE (IL.toArray)
  rw[Y]at C aW D ⊢;replace Y:=fV Y;have HN:=fV hn;have HO:=fV ho;have HM:=fV hm;have HC:=fV hc;have bN:QP (Bl w w1):=HB.o.trans ((Lr hg (by omega)).mono (by omega));have cF:=fV (gK HT.o (hg.block w.heap.size (by omega) (by intro e;injection e;omega)));have bK:=fV hl;have eR:w.heap.size+2<=w1.heap.size:=by have:=hg.size;omega
  have c1:=hl.c1;have c2:=hl.c2;have bC:=fV (BX s);have eS:=AS s;have eO:w.heap.size+4<=bb:=by have:=HN.o.1;omega
  clear hn ho hm hc hg hl bM HB HT hz;generalize Nw s=R at*;have Z:=fV (iD w1 LF 72 w1.heap.size 258 bL rfl);have F:QP (Bl w1 ((w1.alloc (.cells LF 72)).setCells w1.heap.size 0 J.toList)):=fX _ 0 _ w1.heap.size (bR.alloc lR _) lR;have eM:QP (((w1.alloc (.cells LF 72)).setCells w1.heap.size 0 J.toList).rangeAt w1.heap.size 0 IL):=by
   have h:=LY (w1.alloc (.cells LF 72)) w1.heap.size 0 J.toList (by rw[LU,C.o];exact Z.o);rw[aW.o]at h ⊢;exact h
  have aO:QP (Bl w ((w1.alloc (.cells LF 72)).setCells w1.heap.size 0 J.toList)):=bN.o.trans (F.o.mono (by omega));have U:=fV (sB cF.o F.o (by omega));have bS:=fV (bK.o.below F.o (by omega));clear c1 c2;have c1:=bS.o.c1;have c2:=bS.o.c2;have cP:=fV (HN.o.block F.o.size (F.o.block bb HN.o.2.1));have eN:=fV (wL HO.o F.o);have cN:QP (∀y∈ys,oH ((w1.alloc (.cells LF 72)).setCells w1.heap.size 0 J.toList) (mS s) y/\∀k,U1 y k->bb<k):=λ y hy=>⟨(HC.o y hy).1.below F.o lR,(HC.o y hy).2⟩
  obtain⟨a,b⟩:=R;simp only at*;generalize hW2:(w1.alloc (.cells LF 72)).setCells w1.heap.size 0 J.toList=w2 at*;have aT:=fV hW2;clear bN cF bK HN HO HC F hW2
  cases b with
  | true=>
   have V:QP (iF s=false):=by have:=bC.o;unfold QP;simpa using this
   go_wp2_with (first|(refine QR rfl 72 (.tmp 5) (.tmp 12) rfl w1.heap.size 0 J rfl rfl ?_ ?_ D.o ?_;(rw[C.o];exact Z.o);(rw[C.o];exact bP);rw[aT.o])|(refine QR rfl 72 (.tmp 2) (.tmp 22) rfl w.heap.size 0 LF rfl rfl ?_ ?_ bZ ?_;(rw[bL];exact U.o);(rw[bL];exact bP)));refine jH OU w.heap.size 0 Tryz.zeroCells72.toList _ (.int .i64 5) rfl rfl ?_ MO rfl (by rw[LU,bL];exact bP) rfl ?_
   ·exact LY _ _ _ _ (by rw[LU,bL];exact U.o)
   ·refine⟨fX _ 0 _ w.heap.size aO.o lR,.inl ⟨λ h=>(by have h2:=h.2;rw[V.o]at h2;cases h2),?_⟩⟩;have e:G5 s=5:=by unfold G5;rw[aA I,V.o];rfl
    rw[e]
  | false=>
   by_cases bO:a<s.size
   ·have V:QP (iF s=false):=by have:=bC.o;unfold QP;simpa[bO]using this
    have eL:decide ((a:Int)<(s.size:Int))=true:=by simp;omega
    go_wp2_with (first|(refine QR rfl 72 (.tmp 5) (.tmp 12) rfl w1.heap.size 0 J rfl rfl ?_ ?_ D.o ?_;(rw[C.o];exact Z.o);(rw[C.o];exact bP);rw[aT.o])|(refine QR rfl 72 (.tmp 2) (.tmp 22) rfl w.heap.size 0 LF rfl rfl ?_ ?_ bZ ?_;(rw[bL];exact U.o);(rw[bL];exact bP)));refine jH OU w.heap.size 0 Tryz.zeroCells72.toList _ (.int .i64 5) rfl rfl ?_ MO rfl (by rw[LU,bL];exact bP) rfl ?_
    ·exact LY _ _ _ _ (by rw[LU,bL];exact U.o)
    ·refine⟨fX _ 0 _ w.heap.size aO.o lR,.inl ⟨λ h=>(by have h2:=h.2;rw[V.o]at h2;cases h2),?_⟩⟩;have e:G5 s=5:=by unfold G5;rw[aA I,V.o];rfl
     rw[e]
   ·have bT:QP (iF s=true):=by have:=bC.o;unfold QP;simpa[bO]using this
    have eL:decide ((a:Int)<(s.size:Int))=false:=by simp;omega
    go_wp2_with (first|(refine QR rfl 72 (.tmp 5) (.tmp 12) rfl w1.heap.size 0 J rfl rfl ?_ ?_ D.o ?_;(rw[C.o];exact Z.o);(rw[C.o];exact bP);rw[aT.o])|(refine QQ rfl 72 (.tmp 5) rfl w1.heap.size 0 rfl IL _ eM.o MO rfl ?_ ?_;(rw[Q.o];exact bP);rw[Y.o])|(refine QR rfl 72 (.tmp 2) (.tmp 23) rfl w.heap.size 0 J rfl rfl ?_ ?_ D.o ?_;(rw[C.o];exact U.o);(rw[C.o];exact bP)));refine jH OU w.heap.size 0 IL _ (.int .i64 0) rfl rfl ?_ MO rfl (by rw[Q.o];exact bP) rfl ?_
    ·have h:=LY w2 w.heap.size 0 J.toList (by rw[LU,C.o];exact U.o);rw[aW.o]at h ⊢;exact h
    ·have aR:Below w.heap.size w2 (w2.setCells w.heap.size 0 J.toList):=fX _ 0 _ w.heap.size bR lR;refine⟨aO.o.trans aR,.inr ⟨by omega,bT.o,bb,vc,ys,by rw[X.o],?_,lD eN.o (by omega) _ 0,HM.o,λ y hy=>?_,λ y hy=>(cN.o y hy).2⟩⟩
     ·obtain⟨_,n2,n3⟩:=cP.o.block aR.size (lY w2 w.heap.size 0 J.toList bb (by omega));exact⟨by omega,n2,n3⟩
     ·obtain⟨h1,h2⟩:=cN.o y hy;exact h1.block aR.size (λ q _ ho=>lY w2 w.heap.size 0 J.toList q (by have:=h2 q ho;omega))
theorem Mw{w:tW}{s:tB}(hi:iF s=true){bb:Nat}{vc:tV}{ys:List pF}{lo:Nat}(hn:pX w lo bb (oG s))(ho:w.ownsRow (bb+1) 110 1 vc ys.length (xO ys))
  (hm:ys.map (λ y=>y.2.map (·.1))=J3 s) (hc:∀y∈ys,oH w (mS s) y) (hk:∀y∈ys,∀k,U1 y k->bb<k):∃vg aJ yb zb,vc=.slice (some ⟨vg,0,none⟩) (iM s) aJ/\IM w s bb vg yb zb w.heap.size/\KZ s bb vg yb zb lo:=by
 have hd:=D5 hi;have aO:=(Gw hi).1;have aR:ys.length=iM s:=by have:=congrArg QC (hm.trans aO);simpa using this
 have hM:=(lC hi).2.2.1;have aW:=ho.lt;obtain⟨g,aJ,rfl,bK,bC⟩:=ho.form (by omega);have aL:=nV ho;have U:∀c,c<iM s->∃y,ys[c]?=some y/\y∈ys/\y.2.map (·.1)=Dy s c:=λ c o=>by
  have X:c<ys.length:=by omega
  refine⟨ys[c],LQ X,OI X,?_⟩;have:=congrArg (λ l=>l[c]?) (hm.trans aO);simp only[MC,LQ X,MM o,PN]at this;injection this
 have hz:∀c st,c<iM s->st<qW s c->∀y,ys[c]?=some y->y∈ys->y.2.map (·.1)=Dy s c->∃z,y.2[st]?=some z/\z∈y.2/\z.1=Hz s (iK s) (qD s c st):=λ c st o D y _ _ he=>by
  have hl:y.2.length=qW s c:=by have:=congrArg QC he;unfold Dy at this;simpa using this
  have Y:st<y.2.length:=by omega
  refine⟨y.2[st],LQ Y,OI Y,?_⟩;have:=congrArg (λ l=>l[st]?) he;unfold Dy at this;simp only[MC,LQ Y,MM D,PN]at this;injection this
 have V:∀c,c<iM s->∀y,ys[c]?=some y->y.2.map (·.1)=Dy s c->y.2.length=qW s c:=λ c _ y _ he=>by
  have:=congrArg QC he;unfold Dy at this;simpa using this
 have C:∀(b k:Nat)(l:List tV)(v:tV),w.rangeAt b 0 l->l[k]?=some v->w.cell? ⟨b,k,none⟩=some v:=λ b k l v hr hk=>by
  have:=hr k v hk;rw[LM]at this;exact this
 refine⟨g,aJ,λ c=>((ys[c]?).getD (0,[])).1,λ c st=>((((ys[c]?).getD (0,[])).2[st]?).getD ((0,[]),0)).2,by rw[aR],?_,?_⟩;refine⟨λ r hr=>?_,λ c o=>?_,λ c st o D=>?_,λ c st o D=>?_,λ c st v o D hv=>?_,hn.2.1,(aW g rfl).2,λ c o=>?_,λ c st o D=>?_⟩
 ·refine C _ _ _ _ hn.2.2 ?_;rw[hd.be];unfold pA;rw[MC,MC,MM hr];rfl
 ·obtain⟨y,F,I,J⟩:=U c o;refine C _ _ _ _ aL ?_;rw[Gp ys c y F,F,V c o y F J];rfl
 ·obtain⟨y,F,I,J⟩:=U c o;obtain⟨z,Q,Z,h6⟩:=hz c st o D y F I J;simp only[F,NG];refine C _ _ _ _ (hc y I).rg ?_;rw[(Bc _ _ st z Q).1,h6];rfl
 ·obtain⟨y,F,I,J⟩:=U c o;obtain⟨z,Q,Z,h6⟩:=hz c st o D y F I J;simp only[F,NG,Q];refine C _ _ _ _ (hc y I).rg ?_;rw[(Bc _ _ st z Q).2,hd.cl]
 ·obtain⟨y,F,I,J⟩:=U c o;obtain⟨z,Q,Z,h6⟩:=hz c st o D y F I J;simp only[F,NG,Q];refine C _ _ _ _ ((hc y I).bF z Z).2 (zY _ _ _ ?_);rw[h6];unfold Hz;rw[MC,MM (wJ hi v hv)];unfold Tv iA;rw[PN,show qD s c st+(tJ s v+1)=qD s c st+1+tJ s v by omega]
 ·obtain⟨y,F,I,J⟩:=U c o;simp only[F,NG];exact(hc y I).lt
 ·obtain⟨y,F,I,J⟩:=U c o;obtain⟨z,Q,Z,h6⟩:=hz c st o D y F I J;simp only[F,NG,Q];exact((hc y I).bF z Z).1
 ·have aT:=hn.1;refine⟨aT,by omega,λ c o=>?_,λ c st o D=>?_⟩
  ·obtain⟨y,F,I,J⟩:=U c o;simp only[F,NG];have:=hk y I y.1 (.inl rfl);omega
  ·obtain⟨y,F,I,J⟩:=U c o;obtain⟨z,Q,Z,h6⟩:=hz c st o D y F I J;simp only[F,NG,Q];have:=hk y I z.2 (.inr ⟨z,Z,rfl⟩);omega
structure sF(w:tW)(B b g aJ:Nat)(s:tB):Prop where
 c0:w.cell? ⟨b,0,none⟩=some (.string s)
 c3:w.cell? ⟨b,3,none⟩=some (.int .i64 ((6+iR s:Nat):Int))
 c4:w.cell? ⟨b,4,none⟩=some (.int .i64 (iK s))
 c5:w.cell? ⟨b,5,none⟩=some (.slice (some ⟨g,0,none⟩) (iM s) aJ)
 at_:∀i,i<iM s->w.cell? ⟨g,i,none⟩=some (.int .i64 ((pC s i+1:Nat):Int))
 hb:b<B
 hg:g<B
theorem sF.below{w w':tW}{B':Nat}{s:tB}(h:sF w B b g aJ s)(o:Below B' w w')(C:B<=B'):sF w' B b g aJ s:=by
 have D:=h.hb;have hg:=h.hg;exact⟨(o.cell (p:=⟨b,0,none⟩) (by show b<B';omega)).trans h.c0,(o.cell (p:=⟨b,3,none⟩) (by show b<B';omega)).trans h.c3,(o.cell (p:=⟨b,4,none⟩) (by show b<B';omega)).trans h.c4,
  (o.cell (p:=⟨b,5,none⟩) (by show b<B';omega)).trans h.c5,λ i hi=>(o.cell (p:=⟨g,i,none⟩) (by show g<B';omega)).trans (h.at_ i hi),D,hg⟩
theorem sF.drewN{w:tW}{s:tB}(h:sF w B b g aJ s)(q:Nat):sF (w.drewN q) B b g aJ s:=
 ⟨h.c0,h.c3,h.c4,h.c5,h.at_,h.hb,h.hg⟩
theorem sC.rd{w:tW}{s:tB}{D vs:tV}(h:sC w b aH s (iM s) (iM s) D vs)(I:1<=iM s):∃g aJ,sF w w.heap.size b g aJ s:=by
 obtain⟨g,aJ,rfl,F,C⟩:=h.ra.form (by omega);have J:=h.hb;refine⟨g,aJ,h.c0,h.c3,h.c4,h.c5,λ i hi=>?_,by omega,C⟩;have:=h.ra.cells (g:=g) rfl i (.int .i64 ((pC s i+1:Nat):Int)) (by unfold Z8;rw[MC,MM hi];rfl);have o:(⟨g,0,none⟩:Addr).add i=⟨g,i,none⟩:=by unfold Addr.add;split<;>simp_all
 rw[o]at this;exact this
def I2(s:tB)(c st v:Nat):Int:=if iA s c st v=255 then -1 else iA s c st v
theorem M6(s:tB)(B b g aJ c st:Nat)(w:tW)(hi:iF s=true)(hs:s.size<=120000)(U:c<iM s)(F:st<qW s c)(hw:sF w B b g aJ s):
  RA LK 126 #[.pointer (some ⟨b,0,none⟩),.int .i64 c,.int .i64 st] w λ e w'=>e=.returned (.int .i64 (jO s c st))/\∃q,w'=w.drewN q:=by
 obtain⟨k0,k3,k4,k5,J,_,_⟩:=hw;have kc:=J c U;clear J;have C:=Qw hi U F;have D:=Kv s c st;have aW:pC s c<=120000:=by unfold qD at C;omega
 have hK:=Su s;have hn:=L7 hi U;have I:=U4 (a:=st) (b:=1+iK s) (by omega) (by omega);have V:(0:Int)<=(st:Int)*(1+(iK s:Int))/\(st:Int)*(1+(iK s:Int))<=65535:=by
  have e:((st*(1+iK s):Nat):Int)=(st:Int)*(1+(iK s:Int)):=by simp
  omega
 have aL:=(lC hi).2.2.2.1;have Z:(0:Int)<=(c:Int)/\(c:Int)<(iM s:Int):=by omega
 obtain⟨r,Q⟩:=xE (qD s c st)
 have E:QP (jO s c st=bt s r):=by unfold QP jO;rw[Q]
 rw[Q]at C D;clear I hn hi F Q;have aO:=kM s r (by omega);have aT:=mT s r;have aR:IntKind.i64.wrap (1+(iK s:Int))=1+(iK s:Int):=IntWalk.i64_in _ (by omega);have X:IntKind.i64.wrap ((st:Int)*(1+(iK s:Int)))=(st:Int)*(1+(iK s:Int)):=IntWalk.i64_in _ (by omega);have Y:IntKind.i64.wrap ((pC s c:Int)+1+(st:Int)*(1+(iK s:Int)))=(r:Int):=by
  rw[<-D];simp only[OQ,QF];exact IntWalk.i64_in _ (by omega)
 clear D V;go_enter func126,ntmps126;go_wp2;go_quiet (fail);go_wp2;go_ret;exact⟨by rw[E.o];rfl,_,rfl⟩
theorem Cg(s:tB)(B b g aJ c st v:Nat)(w:tW)(hi:iF s=true)(hs:s.size<=120000)(hc:c<iM s)(I:st<qW s c)(hv:v<256)(hw:sF w B b g aJ s):
  RA LK 125 #[.pointer (some ⟨b,0,none⟩),.int .i64 c,.int .i64 st,.int .u8 v] w λ e w'=>e=.returned (.int .i64 (I2 s c st v))/\∃q,w'=w.drewN q:=by
 obtain⟨k0,k3,k4,k5,V,_,_⟩:=hw;have kc:=V c hc;clear V;have C:=IE hi hc I hv;have D:=Qw hi hc I;have X:=wJ hi v hv;have J:=Kv s c st;have eO:pC s c<=120000:=by unfold qD at D;omega
 have hK:=Su s;have hn:=L7 hi hc;have U:=U4 (a:=st) (b:=1+iK s) (by omega) (by omega);have aO:(0:Int)<=(st:Int)*(1+(iK s:Int))/\(st:Int)*(1+(iK s:Int))<=65535:=by
  have e:((st*(1+iK s):Nat):Int)=(st:Int)*(1+(iK s:Int)):=by simp
  omega
 have bM:=(lC hi).2.2.2.1;have hR:=(lC hi).1;have aT:=(lC hi).2.2.2.2;have bK:(0:Int)<=(c:Int)/\(c:Int)<(iM s:Int):=by omega
 obtain⟨r,hr⟩:=xE (qD s c st)
 obtain⟨k,Z⟩:=xE (tJ s v)
 obtain⟨t,Y⟩:=xE (r+1+k)
 obtain⟨a,ha⟩:=xE (6+iR s+v)
 have E:QP (I2 s c st v=if bt s t=255 then -1 else(bt s t:Int)):=by unfold QP I2 iA;rw[hr,Z,Y]
 rw[hr]at D J C;rw[Z]at C X;rw[Y]at C;have Q:bt s a=k:=by rw[<-ha];exact Z
 have aR:a<s.size:=by omega
 have bN:IntKind.i64.wrap (6+(iR s:Int)+(v:Int))=(a:Int):=by rw[<-ha];simp only[OQ];exact IntWalk.i64_in _ (by omega)
 have cF:IntKind.i64.wrap ((r:Int)+1+(k:Int))=(t:Int):=by rw[<-Y];simp only[OQ];exact IntWalk.i64_in _ (by omega)
 have eN:r<=120000/\k<256:=by omega
 clear U hn hi I hr Z Y ha;have aL:=kM s a aR;rw[Q]at aL;clear Q;have bO:=kM s t C;have eL:=mT s t;have bS:IntKind.i64.wrap (v:Int)=(v:Int):=IntWalk.i64_in _ (by omega);have cP:IntKind.i64.wrap (k:Int)=(k:Int):=IntWalk.i64_in _ (by omega);have cN:IntKind.i64.wrap (bt s t:Int)=(bt s t:Int):=IntWalk.i64_in _ (by omega);have bT:IntKind.i64.wrap (1+(iK s:Int))=1+(iK s:Int):=IntWalk.i64_in _ (by omega);have aW:IntKind.i64.wrap ((st:Int)*(1+(iK s:Int)))=(st:Int)*(1+(iK s:Int)):=IntWalk.i64_in _ (by omega);have bC:IntKind.i64.wrap ((pC s c:Int)+1+(st:Int)*(1+(iK s:Int)))=(r:Int):=by
  rw[<-J];simp only[OQ,QF];exact IntWalk.i64_in _ (by omega)
 have eM:IntKind.i64.wrap ((r:Int)+1)=(r:Int)+1:=IntWalk.i64_in _ (by omega);clear J aO;by_cases F:bt s t=255
 ·go_enter func125,ntmps125;go_wp2;go_quiet (fail);go_wp2;go_quiet (fail);go_wp2;go_ret;exact⟨by rw[E.o,aB F];rfl,_,rfl⟩
 ·have hd:((bt s t:Int)==255)=false:=aC.2 (by omega);go_enter func125,ntmps125;go_wp2;go_quiet (fail);go_wp2;go_quiet (fail);go_wp2;go_ret;exact⟨by rw[E.o,aA F];rfl,_,rfl⟩
theorem Ki(s aI:tB)(B b g aJ c p:Nat)(w:tW)(hi:iF s=true)(hs:s.size<=120000)(bK:aI.size<=300)(hp:p<=aI.size)(J:c<iM s)(hw:sF w B b g aJ s):
  RA LK 120 #[.pointer (some ⟨b,0,none⟩),.string aI,.int .i64 p,.int .i64 c] w λ e w'=>
   e=.returned (.tuple #[.int .i64 (Fk s aI c p).1,.int .i64 (Fk s aI c p).2])/\∃q,w'=w.drewN q:=by
 have HL:QP (Fk s aI c p=sN s aI c p (aI.size-p)):=rfl;go_enter func120,ntmps120;go_wp2_with fail
 go_loopw [10] (λ x w'=>∃d q:Nat,p+d<=aI.size/\x=.int .i64 ((p:Int)+(d:Int))/\w'=w.drewN q/\Fk s aI c p=sN s aI c p d) (λ x _=>(QO x).toNat)
 case atStart=>exact⟨aI.size-p,0,by omega,by congr 1;omega,rfl,HL.o⟩
 case round=>
  obtain⟨d,q,hd,rfl,rfl,aL⟩:=hrel;have HG:QP (Fk s aI c p=sN s aI c p d):=aL;clear aL;by_cases bC:0<d
  ·obtain⟨e,he⟩:∃e,d=e+1:=⟨d-1,by omega⟩
   have Q:QP (d=e+1):=he;have aT:e<d:=by omega
   clear he;have aR:decide ((p:Int)<(p:Int)+(d:Int))=true:=by simp;omega
   go_wp2_with fail
   go_loopw [11,12] (λ x y w'=>∃j q:Nat,j<=d/\y=.int .i64 ((p:Int)+(j:Int))/\w'=w.drewN q/\((∃st:Nat,oP s aI c p j=some st/\x=.int .i64 (st:Int))\/(oP s aI c p d=none/\x=.int .i64 (-1)))) (λ _ y _=>aI.size-(QO y).toNat)
   case atStart=>exact⟨0,q,by omega,by simp,rfl,.inl ⟨0,rfl,rfl⟩⟩
   case round=>
    obtain⟨j,q2,hj,rfl,rfl,U⟩:=hrel;rcases U with⟨st,Y,rfl⟩|⟨Z,rfl⟩
    ·have V:QP (oP s aI c p j=some st):=Y;clear Y;by_cases I:j<d
     ·have aW:=kM aI (p+j) (by omega);have aO:=mT aI (p+j);go_wp2_with fail;refine(Cg s B b g aJ c st (bt aI (p+j)) _ hi hs J (yL hi J j st V.o) aO (hw.drewN _)).mono ?_;rintro e' w2 ⟨rfl,q3,rfl⟩;go_wp2_with fail;go_roundw
      case rel=>
       refine⟨j+1,q2+q3,I,by go_num,by simp,?_⟩;have D:=Ad V.o;by_cases F:iA s c st (bt aI (p+j))=255
       ·rw[aB F]at D;exact .inr ⟨Mt D _ I,by unfold I2;rw[aB F]⟩
       ·rw[aA F]at D;exact .inl ⟨_,D,by unfold I2;rw[aA F]⟩
      case measure=>simp[QO];omega
     ·have ej:j=d:=by omega
      subst ej;by_cases hm:0<jO s c st
      ·have bM:=Uk hi J (yL hi J _ st V.o);have hR:=(lC hi).1;have C:=Dq (d:=e) (by rw[<-Q.o];exact Ww V.o hm);have HF:QP (sN s aI c p j=(((jO s c st-1:Nat):Int),p+j)):=by rw[<-Q.o]at C;exact C
       clear C;go_wp2_with fail;refine(M6 s B b g aJ c st _ hi hs J (yL hi J _ st V.o) (hw.drewN _)).mono ?_;rintro e' w2 ⟨rfl,q3,rfl⟩;go_wp2;go_ret2;refine⟨?_,q2+q3,by simp⟩;rw[HG.o,HF.o];simp;omega
      ·have X:jO s c st=0:=by omega
       have C:=J1 (d:=e) (by rw[<-Q.o];exact t8 V.o X);have HF:QP (sN s aI c p j=sN s aI c p e):=by rw[<-Q.o]at C;exact C
       clear C;go_wp2_with fail;refine(M6 s B b g aJ c st _ hi hs J (yL hi J _ st V.o) (hw.drewN _)).mono ?_;rintro e' w2 ⟨rfl,q3,rfl⟩;rw[X];go_wp2;go_roundw
       case rel=>exact⟨e,q2+q3,by omega,by have:=Q.o;go_num,by simp,by rw[HG.o,HF.o]⟩
       case measure=>simp[QO];omega
    ·have C:=J1 (d:=e) (by rw[<-Q.o];exact Qv Z);have HF:QP (sN s aI c p d=sN s aI c p e):=by rw[<-Q.o]at C;exact C
     clear C Z;go_wp2_with fail
     all_goals
      go_roundw
      case rel=>exact⟨e,q2,by omega,by have:=Q.o;go_num,rfl,by rw[HG.o,HF.o]⟩
      case measure=>simp[QO];omega
  ·have e0:d=0:=by omega
   subst e0;go_wp2;go_ret2;refine⟨?_,q,rfl⟩;rw[HG.o]
   rfl
theorem G8{w w':tW}(h:Below B w.drew w'):Below B w w':=⟨h.os,h.tape,h.output,h.size,h.block⟩
structure AZ(w:tW)(B:Nat)(v:tV)(l:List (Int×Int×Int)):Prop where
 sh:(v=.slice none 0 0/\l=[])\/∃g aJ,v=.slice (some ⟨g,0,none⟩) l.length aJ/\g<B/\l.length<=aJ/\aJ<=QZ/\
  ∀k x,l[k]?=some x->w.cell? ⟨g,k*3,none⟩=some (.int .i64 x.1)/\w.cell? ⟨g,k*3+1,none⟩=some (.int .i64 x.2.1)/\w.cell? ⟨g,k*3+2,none⟩=some (.int .i64 x.2.2)
theorem mZ{w:tW}{e:Nat}{v:tV}{l:List (Int×Int×Int)}(h:w.ownsRow aH e 3 v n (hZ l)):AZ w w.heap.size v l:=by
 have V:n=l.length:=by have:=h.1;rw[Ev]at this;omega
 subst V;refine⟨?_⟩;rcases h.2 with⟨rfl,Y⟩|⟨g,aJ,aL,rfl,hb,hg,D,C,X,F⟩
 ·exact .inl ⟨rfl,List.eq_nil_of_length_eq_zero Y⟩
 ·refine .inr ⟨g,aJ,rfl,(NW.1 hg).1,D,C,λ k x Z=>?_⟩;have I:=h.cells (g:=g) rfl;have o:∀j,(⟨g,0,none⟩:Addr).add j=⟨g,j,none⟩:=λ j=>by unfold Addr.add;split<;>simp_all
  obtain⟨a1,U,a3⟩:=Rs l k x Z;have Q:=I _ _ a1;have b2:=I _ _ U;have J:=I _ _ a3;rw[o]at Q b2 J;exact⟨Q,b2,J⟩
theorem Tu(l:List (Int×Int×Int))(v:tV)(x y z:Int)(w:tW)(hl:l.length<=1000000)(hr:AZ w w.heap.size v l):
  RA LK 124 #[v,.agg #[.int .i64 x,.int .i64 y,.int .i64 z]] w λ e w'=>e=.returned (.bool (sS l (x,y,z)))/\Bl w w':=by
 rcases hr.sh with⟨rfl,rfl⟩|⟨g,aJ,rfl,hg,Z,h2,C⟩
 ·go_enter func124,ntmps124;go_wp2_with fail
  go_loop [5] (λ i=>i=.int .i64 0) (λ _=>0)
  case atStart=>rfl
  case round=>
   subst hrel;go_wp2;go_ret;exact⟨rfl,bR.alloc lR _⟩
 ·have aO:(w.alloc (.cells #[.int .i64 x,.int .i64 y,.int .i64 z] 234)).cell? ⟨w.heap.size,0,none⟩=some (.int .i64 x):=by rw[LO];rfl
  have aT:(w.alloc (.cells #[.int .i64 x,.int .i64 y,.int .i64 z] 234)).cell? ⟨w.heap.size,1,none⟩=some (.int .i64 y):=by rw[LO];rfl
  have aR:(w.alloc (.cells #[.int .i64 x,.int .i64 y,.int .i64 z] 234)).cell? ⟨w.heap.size,2,none⟩=some (.int .i64 z):=by rw[LO];rfl
  have HC:QP (∀k u,l[k]?=some u->(w.alloc (.cells #[.int .i64 x,.int .i64 y,.int .i64 z] 234)).cell? ⟨g,k*3,none⟩=some (.int .i64 u.1)/\
    (w.alloc (.cells #[.int .i64 x,.int .i64 y,.int .i64 z] 234)).cell? ⟨g,k*3+1,none⟩=some (.int .i64 u.2.1)/\(w.alloc (.cells #[.int .i64 x,.int .i64 y,.int .i64 z] 234)).cell? ⟨g,k*3+2,none⟩=some (.int .i64 u.2.2)):=by
   intro k u X;rw[MV (hn:=hg),MV (hn:=hg),MV (hn:=hg)];exact C k u X
  have I:Bl w (w.alloc (.cells #[.int .i64 x,.int .i64 y,.int .i64 z] 234)):=bR.alloc lR _;clear C hr;go_enter func124,ntmps124;go_wp2_with fail;generalize w.alloc (.cells #[.int .i64 x,.int .i64 y,.int .i64 z] 234)=W at*
  go_loopw [5] (λ i w'=>∃k q:Nat,k<=l.length/\i=.int .i64 (k:Int)/\w'=W.drewN q/\∀j,j<k->l[j]? ≠some (x,y,z)) (λ i _=>l.length-(QO i).toNat)
  case atStart=>exact⟨0,0,zL,rfl,rfl,λ j h=>absurd h (OE _)⟩
  case round=>
   obtain⟨k,q,hk,rfl,rfl,F⟩:=hrel;have HA:QP (∀j,j<k->l[j]? ≠some (x,y,z)):=F;clear F;by_cases Q:k<l.length
   ·obtain⟨⟨a,b,c⟩,X⟩:∃u,l[k]?=some u:=⟨_,LQ Q⟩
    obtain⟨k0,k1,k2⟩:=HC.o k _ X;have HU:QP (l[k]?=some (a,b,c)):=X;clear X;simp only at k0 k1 k2;have aL:(0:Int)<=(k:Int)/\(k:Int)<(l.length:Int):=by omega
    have D:((a==x)=true/\(b==y)=true/\(c==z)=true)\/(((a==x)=false)\/((a==x)=true/\(b==y)=false)\/((a==x)=true/\(b==y)=true/\(c==z)=false)):=by
     cases (a==x)<;>cases (b==y)<;>cases (c==z)<;>simp
    rcases D with⟨Y,e2,e3⟩|D
    ·have U:l.contains (x,y,z)=true:=by
      have Z:(a,b,c)=(x,y,z):=by rw[beq_iff_eq.1 Y,beq_iff_eq.1 e2,beq_iff_eq.1 e3]
      rw[NR,<-Z];exact List.mem_of_getElem? HU.o
     have HI:QP (sS l (x,y,z)=true):=U;clear U;go_wp2;go_quiet (fail);go_wp2;go_ret;exact⟨by rw[HI.o];rfl,_root_.Go.below_drewN (_root_.Go.below_drewN I _) _⟩
    ·have V:(a,b,c)≠(x,y,z):=by
      intro h;injection h with Z h2;injection h2 with h2 h3;subst Z h2 h3;simp at D
     have HN:QP ((a,b,c)≠(x,y,z)):=V;clear V;rcases D with Y|⟨Y,e2⟩|⟨Y,e2,e3⟩
     all_goals
      go_wp2;go_quiet (fail);go_wp2;go_roundw
      case rel=>
       refine⟨k+1,_,Q,by go_num,rfl,λ j hj=>?_⟩;by_cases ej:j=k
       ·rw[ej,HU.o];intro h;exact HN.o (Option.some.inj h)
       ·exact HA.o j (by omega)
      case measure=>simp[QO];omega
   ·have J:l.contains (x,y,z)=false:=by
     rw[Bool.eq_false_iff];intro h;rw[NR]at h;obtain⟨j,hj⟩:=List.mem_iff_getElem?.1 h;have:j<l.length:=(LI.1 hj).1;exact HA.o j (by omega) hj
    have HI:QP (sS l (x,y,z)=false):=J;clear J;go_wp2;go_ret;exact⟨by rw[HI.o];rfl,_root_.Go.below_drewN I _⟩
section
structure jG(w:tW)(cb aH top ib:Nat)(aI:tB)(c:Nat)(H:List (Int×Int×Int))(n:Nat)(T:List (Int×Int×Int))(vh vt:tV):Prop where
 c0:w.cell? ⟨cb,0,none⟩=some (.pointer (some ⟨ib,0,none⟩))
 c1:w.cell? ⟨cb,1,none⟩=some (.string aI)
 c2:w.cell? ⟨cb,2,none⟩=some (.int .i64 c)
 c3:w.cell? ⟨cb,3,none⟩=some vh
 c4:w.cell? ⟨cb,4,none⟩=some (.int .i64 n)
 c5:w.cell? ⟨cb,5,none⟩=some vt
 fz:∀i,w.frozen? ⟨cb,i,none⟩=false
 rh:w.ownsRow aH 234 3 vh H.length (hZ H)
 rt:w.ownsRow aH 79 3 vt T.length (hZ T)
 hb:cb<aH
 hz:top<=w.heap.size
 hbt:aH<=top
 lh:∀k,vh.ownBlock=some k->k<top
 lt:∀k,vt.ownBlock=some k->k<top
 ap:vh.ownBlock=none\/vh.ownBlock≠vt.ownBlock
variable {w w':tW}{cb aH top ib:Nat}{aI:tB}{c:Nat}{H:List (Int×Int×Int)}{n:Nat}{T:List (Int×Int×Int)}{vh vt:tV}
theorem jG.below(h:jG w cb aH top ib aI c H n T vh vt)(D:Below top w w'):jG w' cb aH top ib aI c H n T vh vt:=by
 have X:=h.hb;have V:=h.hbt;have o:cb<top:=by omega
 have cl:∀i,w'.cell? ⟨cb,i,none⟩=w.cell? ⟨cb,i,none⟩:=λ i=>D.cell (p:=⟨cb,i,none⟩) o
 have C:∀(v:tV)(m:Nat)(xs:List tV)(e:TypeId),w.ownsRow aH e 3 v m xs->(∀k,v.ownBlock=some k->k<top)->w'.ownsRow aH e 3 v m xs:=λ v m xs e J Q=>by
  refine⟨J.1,?_⟩;rcases J.2 with U|⟨g,aJ,I,rfl,F,hg,rest⟩
  ·exact .inl U
  ·exact .inr ⟨g,aJ,I,rfl,F,(D.block g (Q g rfl)).trans hg,rest⟩
 exact⟨(cl 0).trans h.c0,(cl 1).trans h.c1,(cl 2).trans h.c2,(cl 3).trans h.c3,(cl 4).trans h.c4,(cl 5).trans h.c5,
  λ i=>(D.frozen (p:=⟨cb,i,none⟩) o).trans (h.fz i),C _ _ _ _ h.rh h.lh,C _ _ _ _ h.rt h.lt,h.hb,NE h.hz D.size,h.hbt,h.lh,h.lt,h.ap⟩
theorem jG.drewN(h:jG w cb aH top ib aI c H n T vh vt)(q:Nat):jG (w.drewN q) cb aH top ib aI c H n T vh vt:=
 ⟨h.c0,h.c1,h.c2,h.c3,h.c4,h.c5,h.fz,h.rh,h.rt,h.hb,h.hz,h.hbt,h.lh,h.lt,h.ap⟩
theorem jG.other(h:jG w cb aH top ib aI c H n T vh vt)(i:Nat)(v:tV):∀j u,j≠i->w.cell? ⟨cb,j,none⟩=some u->(w.setCell ⟨cb,i,none⟩ v).cell? ⟨cb,j,none⟩=some u:=λ j u C o=>by
 have _:=h;rw[LD (h:=by intro e;injection e;omega)];exact o
theorem jG.steps(h:jG w cb aH top ib aI c H n T vh vt)(m:Nat):jG (w.setCell ⟨cb,4,none⟩ (.int .i64 m)) cb aH top ib aI c H m T vh vt:=by
 have o:=h.other 4 (.int .i64 m);refine⟨o 0 _ (by omega) h.c0,o 1 _ (by omega) h.c1,o 2 _ (by omega) h.c2,o 3 _ (by omega) h.c3,LH _ _ _ h.c4,o 5 _ (by omega) h.c5,
  λ i=>by rw[LG];exact h.fz i,QN h.rh h.hb _,QN h.rt h.hb _,h.hb,?_,h.hbt,h.lh,h.lt,h.ap⟩
 have:=h.hz;simp[LN];omega
theorem jG.bE(h:jG w cb aH top ib aI c H n T vh vt)(m:Nat):jG (w.setCell ⟨cb,2,none⟩ (.int .i64 m)) cb aH top ib aI m H n T vh vt:=by
 have o:=h.other 2 (.int .i64 m);refine⟨o 0 _ (by omega) h.c0,o 1 _ (by omega) h.c1,LH _ _ _ h.c2,o 3 _ (by omega) h.c3,o 4 _ (by omega) h.c4,o 5 _ (by omega) h.c5,
  λ i=>by rw[LG];exact h.fz i,QN h.rh h.hb _,QN h.rt h.hb _,h.hb,?_,h.hbt,h.lh,h.lt,h.ap⟩
 have:=h.hz;simp[LN];omega
theorem jG.raise(h:jG w cb aH top ib aI c H n T vh vt):jG w cb aH w.heap.size ib aI c H n T vh vt:=by
 have D:=h.hz;have C:=h.hbt;exact⟨h.c0,h.c1,h.c2,h.c3,h.c4,h.c5,h.fz,h.rh,h.rt,h.hb,lR,by omega,λ k o=>by have:=h.lh k o;omega,λ k o=>by have:=h.lt k o;omega,h.ap⟩
theorem jG.again3(h:jG w cb aH top ib aI c H n T vh vt):jG (w.setCell ⟨cb,3,none⟩ vh) cb aH top ib aI c H n T vh vt:=by
 have o:=h.other 3 vh;refine⟨o 0 _ (by omega) h.c0,o 1 _ (by omega) h.c1,o 2 _ (by omega) h.c2,LH _ _ _ h.c3,o 4 _ (by omega) h.c4,o 5 _ (by omega) h.c5,
  λ i=>by rw[LG];exact h.fz i,QN h.rh h.hb _,QN h.rt h.hb _,h.hb,?_,h.hbt,h.lh,h.lt,h.ap⟩
 have:=h.hz;simp[LN];omega
theorem jG.step1(h:jG w cb aH top ib aI c H n T vh vt):jG (w.setCell ⟨cb,4,none⟩ (.int .i64 ((n:Int)+1))) cb aH top ib aI c H (n+1) T vh vt:=
 h.steps (n+1)
theorem rD{w w':tW}{v:tV}{xs:List tV}(h:w.ownsRow aH e size v m xs)(I:Below B w w')(J:w.heap.size<=B):w'.ownsRow aH e size v m xs:=by
 refine⟨h.1,?_⟩;rcases h.2 with D|⟨g,aJ,o,rfl,C,hg,rest⟩
 ·exact .inl D
 ·have F:g<w.heap.size:=(NW.1 hg).1;exact .inr ⟨g,aJ,o,rfl,C,(I.block g (by omega)).trans hg,rest⟩
theorem sP(h:p):QP p:=h
theorem iL{w:tW}{v:tV}{xs:List tV}(h:w.ownsRow aH e size v m xs):v=.slice none 0 0\/∃g aJ,v=.slice (some ⟨g,0,none⟩) m aJ:=by
 rcases h.2 with⟨e,_⟩|⟨g,aJ,_,e,_⟩
 ·exact .inl e
 ·exact .inr ⟨g,aJ,e⟩
theorem zG(l:List (Int×Int×Int)):∀u∈hZ l,u.oneCell'=true:=by
 intro u o;unfold hZ at o;rw[List.mem_flatMap]at o;obtain⟨x,_,C⟩:=o;simp at C;rcases C with rfl|rfl|rfl<;>rfl
theorem jG.kept(h:jG w cb aH top ib aI c H n T vh vt){w1:tW}{o:Option Nat}(I:∀k,o=some k->aH<=k)(hg:w.grownBy w1 o):
  (∀i u,w.cell? ⟨cb,i,none⟩=some u->w1.cell? ⟨cb,i,none⟩=some u)/\∀i,w1.frozen? ⟨cb,i,none⟩=false:=by
 have J:=h.hb;have D:=h.hbt;have Q:=h.hz;have C:some cb≠o:=λ e=>by have:=I cb e.symm;omega
 exact⟨λ i u F=>hg.cell F C,λ i=>(hg.frozen_far ⟨cb,i,none⟩ (by show cb<_;omega) C).trans (h.fz i)⟩
theorem jG.hope(h:jG w cb aH top ib aI c H n T vh vt){w1:tW}{S:List (Int×Int×Int)}{g m aJ:Nat}(hm:m=H.length+S.length)
  (D:w1.ownsRow aH 234 3 (.slice (some ⟨g,0,none⟩) m aJ) m (hZ H++hZ S))
  (C:w.grownBy w1 vh.ownBlock) (Q:vh.ownBlock=some g\/g=w.heap.size) (X:g<w1.heap.size):
  jG (w1.setCell ⟨cb,3,none⟩ (.slice (some ⟨g,0,none⟩) m aJ)) cb aH w1.heap.size ib aI c (H++S) n T (.slice (some ⟨g,0,none⟩) m aJ) vt:=by
 have hb:=h.hb;have Y:=h.hbt;have hz:=h.hz;have Z:=C.size;obtain⟨U,V⟩:=h.kept (λ k F=>(h.rh.lt k F).1) C;have o:∀j u,j≠3->w.cell? ⟨cb,j,none⟩=some u->(w1.setCell ⟨cb,3,none⟩ (.slice (some ⟨g,0,none⟩) m aJ)).cell? ⟨cb,j,none⟩=some u:=λ j u hj hu=>by
  rw[LD (h:=by intro e;injection e;omega)];exact U j u hu
 refine⟨o 0 _ (by omega) h.c0,o 1 _ (by omega) h.c1,o 2 _ (by omega) h.c2,LH _ _ _ (U 3 _ h.c3),o 4 _ (by omega) h.c4,o 5 _ (by omega) h.c5,
  λ i=>by rw[LG];exact V i,?_,?_,h.hb,by simp[LN],by omega,?_,?_,?_⟩
 ·rw[LR,<-hm,Ep];exact QN D h.hb _
 ·refine QN (h.rt.kept C ?_) h.hb _;rcases h.ap with e|e
  ·cases hv:vt.ownBlock with
   | none=>exact .inl rfl
   | some k=>right;rw[e];simp
  ·exact .inr (Ne.symm e)
 ·intro k F;have:g=k:=by simpa[MF]using F
  omega
 ·intro k F;have:=h.lt k F;omega
 ·right;show some g≠vt.ownBlock;intro e;rcases Q with I|I
  ·rcases h.ap with J|J
   ·rw[J]at I;cases I
   ·exact J (I.trans e)
  ·have:=h.lt g e.symm;omega
theorem jG.tell(h:jG w cb aH top ib aI c H n T vh vt){w1:tW}{o:Obj}{x:Int×Int×Int}{g aJ:Nat}
  (F:w1.ownsRow aH 79 3 (.slice (some ⟨g,0,none⟩) (T.length+1) aJ) (T.length+1) (hZ T++[.int .i64 x.1,.int .i64 x.2.1,.int .i64 x.2.2]))
  (C:(w.alloc o).grownBy w1 vt.ownBlock) (U:vt.ownBlock=some g\/g=w.heap.size+1) (aL:g<w1.heap.size):
  jG (w1.setCell ⟨cb,5,none⟩ (.slice (some ⟨g,0,none⟩) (T.length+1) aJ)) cb aH w1.heap.size ib aI c H n (T++[x]) vh (.slice (some ⟨g,0,none⟩) (T.length+1) aJ):=by
 have D:jG (w.alloc o) cb aH top ib aI c H n T vh vt:=h.below (bR.alloc h.hz o);have hb:=h.hb;have aO:=h.hbt;have hz:=h.hz;have V:=C.size;simp at V;obtain⟨Y,Z⟩:=D.kept (λ k I=>(D.rt.lt k I).1) C;have J:∀j u,j≠5->(w.alloc o).cell? ⟨cb,j,none⟩=some u->(w1.setCell ⟨cb,5,none⟩ (.slice (some ⟨g,0,none⟩) (T.length+1) aJ)).cell? ⟨cb,j,none⟩=some u:=λ j u hj hu=>by
  rw[LD (h:=by intro e;injection e;omega)];exact Y j u hu
 refine⟨J 0 _ (by omega) D.c0,J 1 _ (by omega) D.c1,J 2 _ (by omega) D.c2,J 3 _ (by omega) D.c3,J 4 _ (by omega) D.c4,LH _ _ _ (Y 5 _ D.c5),
  λ i=>by rw[LG];exact Z i,?_,?_,h.hb,by simp[LN],by omega,?_,?_,?_⟩
 ·refine QN (D.rh.kept C ?_) h.hb _;exact h.ap
 ·rw[LR,MI,Y8];exact QN F h.hb _
 ·intro k I;have:=h.lh k I;omega
 ·intro k I;have:g=k:=by simpa[MF]using I
  omega
 ·right;show vh.ownBlock≠some g;intro e;rcases U with X|X
  ·rcases h.ap with Q|Q
   ·rw[Q]at e;cases e
   ·exact Q (e.trans X.symm)
  ·have:=h.lh g e;omega
end
section
structure CW(w:tW)(cb top:Nat)(s aI:tB)(bb vg aU:Nat)(yb:Nat->Nat)(zb:Nat->Nat->Nat)(vt:tV)(hg bH:Nat)(hbk:Nat->Nat)(HT:Nat->Nat->Bool)(c p n:Nat)(T:List (Int×Int×Int)):Prop where
 mem:IM w s bb vg yb zb cb
 im:w.rangeAt cb 0 (nT (.slice (some ⟨bb,0,none⟩) (iR s) (iR s)) (gM s) (.slice (some ⟨vg,0,none⟩) (iM s) aU))
 k1:w.cell? ⟨cb,258,none⟩=some (.string aI)
 k2:w.cell? ⟨cb,259,none⟩=some (.int .i64 c)
 k3:w.cell? ⟨cb,260,none⟩=some (.int .i64 p)
 k4:w.cell? ⟨cb,261,none⟩=some (.int .i64 n)
 k5:w.cell? ⟨cb,262,none⟩=some vt
 k6:w.cell? ⟨cb,263,none⟩=some (.slice (some ⟨hg,0,none⟩) (iM s) bH)
 fz:∀i,w.frozen? ⟨cb,i,none⟩=false
 rt:w.ownsRow (cb+1) 79 3 vt T.length (hZ T)
 hl:∀j,j<iM s->w.cell? ⟨hg,j,none⟩=some (.slice (some ⟨hbk j,0,none⟩) (qW s j*aI.size) (qW s j*aI.size))
 tb:∀j k,j<iM s->k<qW s j*aI.size->w.cell? ⟨hbk j,k,none⟩=some (.bool (HT j k))/\w.frozen? ⟨hbk j,k,none⟩=false
 b0:cb<top
 b1:cb<hg/\hg<top
 b2:∀j,j<iM s->cb<hbk j/\hbk j<top/\hbk j≠hg
 bi:∀i j,i<iM s->j<iM s->hbk i=hbk j->i=j
 bv:∀k,vt.ownBlock=some k->k<top/\k≠hg/\∀j,j<iM s->k≠hbk j
 hz:top<=w.heap.size
variable {w w':tW}{cb top:Nat}{s aI:tB}{bb vg aU:Nat}{yb:Nat->Nat}{zb:Nat->Nat->Nat}{vt:tV}{hg bH:Nat}{hbk:Nat->Nat}{HT:Nat->Nat->Bool}{c p n:Nat}{T:List (Int×Int×Int)}
theorem iH{v:tV}{xs:List tV}(D:w.ownsRow aH e size v m xs)(I:∀k,v.ownBlock=some k->w'.heap[k]?=w.heap[k]?):w'.ownsRow aH e size v m xs:=by
 refine⟨D.1,?_⟩;rcases D.2 with F|⟨g,aJ,o,rfl,C,hg,rest⟩
 ·exact .inl F
 ·exact .inr ⟨g,aJ,o,rfl,C,(I g rfl).trans hg,rest⟩
theorem CW.below(h:CW w cb top s aI bb vg aU yb zb vt hg bH hbk HT c p n T)(o:Below top w w'):CW w' cb top s aI bb vg aU yb zb vt hg bH hbk HT c p n T:=by
 have F:=h.b0;have cl:∀i,w'.cell? ⟨cb,i,none⟩=w.cell? ⟨cb,i,none⟩:=λ i=>o.cell (p:=⟨cb,i,none⟩) F
 exact⟨h.mem.below o (by omega),λ j v I=>(cl (0+j)).trans (h.im j v I),(cl _).trans h.k1,(cl _).trans h.k2,(cl _).trans h.k3,(cl _).trans h.k4,(cl _).trans h.k5,(cl _).trans h.k6,
  λ i=>(o.frozen (p:=⟨cb,i,none⟩) F).trans (h.fz i),iH h.rt (λ k D=>o.block k (h.bv k D).1),λ j C=>(o.cell (p:=⟨hg,j,none⟩) h.b1.2).trans (h.hl j C),
  λ j k C D=>⟨(o.cell (p:=⟨hbk j,k,none⟩) (h.b2 j C).2.1).trans (h.tb j k C D).1,(o.frozen (p:=⟨hbk j,k,none⟩) (h.b2 j C).2.1).trans (h.tb j k C D).2⟩,
  h.b0,h.b1,h.b2,h.bi,h.bv,NE h.hz o.size⟩
theorem CW.drewN(h:CW w cb top s aI bb vg aU yb zb vt hg bH hbk HT c p n T)(q:Nat):CW (w.drewN q) cb top s aI bb vg aU yb zb vt hg bH hbk HT c p n T:=
 ⟨h.mem.drewN q,h.im,h.k1,h.k2,h.k3,h.k4,h.k5,h.k6,h.fz,h.rt,h.hl,h.tb,h.b0,h.b1,h.b2,h.bi,h.bv,h.hz⟩
theorem CW.raise(h:CW w cb top s aI bb vg aU yb zb vt hg bH hbk HT c p n T):CW w cb w.heap.size s aI bb vg aU yb zb vt hg bH hbk HT c p n T:=by
 have D:=h.hz;have F:=h.b0;have I:=h.b1;exact⟨h.mem,h.im,h.k1,h.k2,h.k3,h.k4,h.k5,h.k6,h.fz,h.rt,h.hl,h.tb,by omega,by omega,λ j C=>by have:=h.b2 j C;exact⟨this.1,by omega,this.2.2⟩,h.bi,λ k o=>by have:=h.bv k o;exact⟨by omega,this.2⟩,lR⟩
theorem tN{v:tV}(h:B<=b):Below B w (w.setCell ⟨b,i,none⟩ v):=bR.setCell (p:=⟨b,i,none⟩) h v
theorem CW.setOwn(h:CW w cb top s aI bb vg aU yb zb vt hg bH hbk HT c p n T)(i:Nat)(v:tV)(hi:258<=i):
  (∀j u,j≠i->w.cell? ⟨cb,j,none⟩=some u->(w.setCell ⟨cb,i,none⟩ v).cell? ⟨cb,j,none⟩=some u)/\
  IM (w.setCell ⟨cb,i,none⟩ v) s bb vg yb zb cb/\(w.setCell ⟨cb,i,none⟩ v).rangeAt cb 0 (nT (.slice (some ⟨bb,0,none⟩) (iR s) (iR s)) (gM s) (.slice (some ⟨vg,0,none⟩) (iM s) aU))/\
  (∀i',(w.setCell ⟨cb,i,none⟩ v).frozen? ⟨cb,i',none⟩=false)/\(w.setCell ⟨cb,i,none⟩ v).ownsRow (cb+1) 79 3 vt T.length (hZ T)/\
  (∀j,j<iM s->(w.setCell ⟨cb,i,none⟩ v).cell? ⟨hg,j,none⟩=some (.slice (some ⟨hbk j,0,none⟩) (qW s j*aI.size) (qW s j*aI.size)))/\
  (∀j k,j<iM s->k<qW s j*aI.size->(w.setCell ⟨cb,i,none⟩ v).cell? ⟨hbk j,k,none⟩=some (.bool (HT j k))/\(w.setCell ⟨cb,i,none⟩ v).frozen? ⟨hbk j,k,none⟩=false)/\
  top<=(w.setCell ⟨cb,i,none⟩ v).heap.size:=by
 have o:∀j u,j≠i->w.cell? ⟨cb,j,none⟩=some u->(w.setCell ⟨cb,i,none⟩ v).cell? ⟨cb,j,none⟩=some u:=λ j u D C=>by
  rw[LD (h:=by intro e;injection e;omega)];exact C
 have F:∀j u,(nT (.slice (some ⟨bb,0,none⟩) (iR s) (iR s)) (gM s) (.slice (some ⟨vg,0,none⟩) (iM s) aU))[j]?=some u->j<258:=λ j u C=>by
  have:=(LI.1 C).1;rw[nY _ _ _ (by unfold gM;rw[lN];rfl)]at this;exact this
 refine⟨o,h.mem.below (tN lR) lR,λ j u C=>o _ _ (by have:=F j u C;omega) (h.im j u C),λ i'=>by rw[LG];exact h.fz i',
  QN h.rt (NZ _) _,λ j D=>?_,λ j k D I=>⟨?_,by rw[LG];exact(h.tb j k D I).2⟩,by have:=h.hz;simp[LN];omega⟩
 ·rw[LD (h:=by intro e;injection e;have:=h.b1;omega)];exact h.hl j D
 ·rw[LD (h:=by intro e;injection e;have:=h.b2 j D;omega)];exact(h.tb j k D I).1
theorem CW.stepN(h:CW w cb top s aI bb vg aU yb zb vt hg bH hbk HT c p n T):CW (w.setCell ⟨cb,261,none⟩ (.int .i64 ((n:Int)+1))) cb top s aI bb vg aU yb zb vt hg bH hbk HT c p (n+1) T:=by
 obtain⟨o,a1,C,J,D,F,Q,I⟩:=h.setOwn 261 (.int .i64 ((n:Int)+1)) (by omega);exact⟨a1,C,o _ _ (by omega) h.k1,o _ _ (by omega) h.k2,o _ _ (by omega) h.k3,LH _ _ _ h.k4,o _ _ (by omega) h.k5,o _ _ (by omega) h.k6,J,D,F,Q,h.b0,h.b1,h.b2,h.bi,h.bv,I⟩
theorem CW.setC(h:CW w cb top s aI bb vg aU yb zb vt hg bH hbk HT c p n T)(C:Nat):CW (w.setCell ⟨cb,259,none⟩ (.int .i64 (C:Int))) cb top s aI bb vg aU yb zb vt hg bH hbk HT C p n T:=by
 obtain⟨o,a1,D,Q,F,I,U,J⟩:=h.setOwn 259 (.int .i64 (C:Int)) (by omega);exact⟨a1,D,o _ _ (by omega) h.k1,LH _ _ _ h.k2,o _ _ (by omega) h.k3,o _ _ (by omega) h.k4,o _ _ (by omega) h.k5,o _ _ (by omega) h.k6,Q,F,I,U,h.b0,h.b1,h.b2,h.bi,h.bv,J⟩
theorem CW.setP(h:CW w cb top s aI bb vg aU yb zb vt hg bH hbk HT c p n T)(C:Nat):CW (w.setCell ⟨cb,260,none⟩ (.int .i64 (C:Int))) cb top s aI bb vg aU yb zb vt hg bH hbk HT c C n T:=by
 obtain⟨o,a1,D,Q,F,I,U,J⟩:=h.setOwn 260 (.int .i64 (C:Int)) (by omega);exact⟨a1,D,o _ _ (by omega) h.k1,o _ _ (by omega) h.k2,LH _ _ _ h.k3,o _ _ (by omega) h.k4,o _ _ (by omega) h.k5,o _ _ (by omega) h.k6,Q,F,I,U,h.b0,h.b1,h.b2,h.bi,h.bv,J⟩
theorem CW.mark(h:CW w cb top s aI bb vg aU yb zb vt hg bH hbk HT c p n T){i k:Nat}(hi:i<iM s)(U:k<qW s i*aI.size):
  CW (w.setCell ⟨hbk i,k,none⟩ (.bool true)) cb top s aI bb vg aU yb zb vt hg bH hbk (λ j m=>if j=i/\m=k then true else HT j m) c p n T:=by
 have b2:=h.b2 i hi;have o:∀b j u,b≠hbk i->w.cell? ⟨b,j,none⟩=some u->(w.setCell ⟨hbk i,k,none⟩ (.bool true)).cell? ⟨b,j,none⟩=some u:=λ b j u C F=>by
  rw[LD (h:=by intro e;injection e;omega)];exact F
 refine⟨h.mem.below (tN (by omega)) lR,λ j u F=>o _ _ _ (by omega) (h.im j u F),o _ _ _ (by omega) h.k1,o _ _ _ (by omega) h.k2,o _ _ _ (by omega) h.k3,o _ _ _ (by omega) h.k4,o _ _ _ (by omega) h.k5,o _ _ _ (by omega) h.k6,
  λ i'=>by rw[LG];exact h.fz i',iH h.rt (λ q J=>MQ _ _ _ _ (by have:=(h.bv q J).2.2 i hi;exact this)),λ j C=>o _ _ _ (by omega) (h.hl j C),λ j m C D=>⟨?_,by rw[LG];exact(h.tb j m C D).2⟩,
  h.b0,h.b1,h.b2,h.bi,h.bv,by have:=h.hz;simp[LN];omega⟩
 by_cases e:j=i
 ·subst e;by_cases I:m=k
  ·subst I;rw[aB ⟨rfl,rfl⟩];exact LH _ _ _ (h.tb j m C D).1
  ·rw[aA (λ q=>I q.2),LD (h:=by intro Q;injection Q;omega)];exact(h.tb j m C D).1
 ·rw[aA (λ q=>e q.1)];exact o _ _ _ (λ q=>e (h.bi j i C hi q)) (h.tb j m C D).1
end
def Tk(w:tW)(cb:Nat)(s aI:tB)(bb vg aU:Nat)(yb:Nat->Nat)(zb:Nat->Nat->Nat)(vt:tV)(hg bH:Nat)(hbk:Nat->Nat)(c p n:Nat)(H T:List (Int×Int×Int))(e:Ending)(w':tW):Prop:=
 e=.returned (.tuple #[.int .i64 ((Ni (nX s aI c H (aI.size-p) 0 p none):Nat):Int),.int .i64 ((KO p (nX s aI c H (aI.size-p) 0 p none):Nat):Int)])/\
 Below cb w w'/\∃o,CW w' cb w'.heap.size s aI bb vg aU yb zb vt hg bH hbk o c p (n+(iE s aI c H p).2) T/\J2 s aI (H++(iE s aI c H p).1) o
theorem AA{w:tW}{e:Nat}{xs:List tV}(h:w.ownsRow aH e 1 (.slice (some ⟨g,0,none⟩) n aJ) n xs):w.ownsRow aH e 1 (.slice (some ⟨g,0,none⟩) 0 aJ) 0 []:=by
 refine⟨rfl,?_⟩;rcases h.2 with⟨J,_⟩|⟨V,I,C,Q,F,hg,U,o,D,_⟩
 ·cases J
 ·cases Q
  exact .inr ⟨g,aJ,C,rfl,F,hg,zL,o,D,by simp⟩
theorem K5(w:tW)(e:TypeId):(w.alloc (.cells #[] e)).ownsRow w.heap.size e 1 (.slice (some ⟨w.heap.size,0,none⟩) 0 0) 0 []:=by
 refine⟨rfl,.inr ⟨w.heap.size,0, #[],rfl,lR,QV w _,lR,?_⟩⟩;simp
theorem Vq(s aI:tB)(cb bb vg aU:Nat)(yb:Nat->Nat)(zb:Nat->Nat->Nat)(vt:tV)(hg bH:Nat)(hbk:Nat->Nat)(HT:Nat->Nat->Bool)(c p n:Nat)(H T:List (Int×Int×Int))(w:tW)
  (hi:iF s=true) (O7:aI.size<=300) (hp:p<=aI.size) (hc:c<iM s) (hn:n<=100000) (hH:J2 s aI H HT)
  (F:CW w cb w.heap.size s aI bb vg aU yb zb vt hg bH hbk HT c p n T):
  RA LK 52 #[.pointer (some ⟨cb,0,none⟩)] w λ e w'=>Tk w cb s aI bb vg aU yb zb vt hg bH hbk c p n H T e w':=by
 have tO:=fV F;obtain⟨M,EM⟩:=xE (iM s)
 obtain⟨N,EN⟩:=xE (qW s c)
 obtain⟨NL,aT⟩:=xE (N*aI.size)
 have hM:=(lC hi).2.2.2.1;have X1:=iI c M (by omega)
 have bT:=fV (show(gM s).length=256 by unfold gM;rw[lN];rfl);have hT:w.cell? ⟨cb,257,none⟩=some (.slice (some ⟨vg,0,none⟩) M aU):=by have:=F.im 257 _ (yI _ _ _ bT.o);rw[LM,EM]at this;exact this
 have k2:=F.k2;have k3:=F.k3;have k6:=F.k6;rw[EM]at k6;have m1:=F.mem.co c hc;rw[EN]at m1;have m2:=F.hl c hc;rw[EN,aT]at m2;have HH:=fV hH;have HI:=fV hi;have hN:=L7 hi hc;rw[EN]at hN;have W9:NL<=30000:=by rw[<-aT];have:=NU hN.1 O7;omega
 have X2:c<M:=by omega
 replace hc:=fV hc;replace EM:=fV EM;replace EN:=fV EN;replace aT:=fV aT;clear F hH hM hi;go_enter func52,ntmps52;go_wp2;go_quiet (fail);have aL:=fV (tO.o.drewN nq);have A3:QP (Below cb w (w.drewN nq)):=_root_.Go.below_drewN bR nq;have tT:(w.drewN nq).heap.size=w.heap.size:=rfl;generalize w.drewN nq=wa at*;clear hT k2 k3 k6 m1 m2 tO;have k2:=aL.o.k2;have k6:=aL.o.k6;rw[EM.o]at k6;have m2:=aL.o.hl c hc.o;rw[EN.o,aT.o]at m2;go_wp2;go_quiet (fail);have aR:=fV (aL.o.drewN nq);have nL:QP (Below cb w (wa.drewN nq)):=_root_.Go.below_drewN A3.o nq;have M2:(wa.drewN nq).heap.size=w.heap.size:=tT;generalize wa.drewN nq=wb at*;clear k2 k6 m2 aL A3 tT;have k3:=aR.o.k3;go_upto_region 7 with fail;have bC:=fV (aR.o.below (bR.alloc aR.o.hz (.cells #[] 3)));have hP:QP (Below cb w (wb.alloc (.cells #[] 3))):=nL.o.alloc (by have:=aR.o.b0;omega) _;have hF:QP ((wb.alloc (.cells #[] 3)).ownsRow w.heap.size 3 1 (.slice (some ⟨w.heap.size,0,none⟩) 0 0) 0 []):=by
  rw[<-M2];exact K5 wb 3
 have W5:w.heap.size<(wb.alloc (.cells #[] 3)).heap.size:=by simp;omega
 clear k3;generalize wb.alloc (.cells #[] 3)=w0 at*;clear aR nL;have k3:=bC.o.k3;go_upto_block 0 with fail;clear k3;obtain⟨Q,EB⟩:=xE (nX s aI c H (aI.size-p) 0 p none)
 obtain⟨SF,bS⟩:=xE (iE s aI c H p)
 replace EB:=fV EB;replace bS:=fV bS
 go_cut [6,7,9] from 14 (λ tk hK sd wc=>∃(g aJ:Nat),tk=.int .i64 (Ni Q:Nat)/\hK=.int .i64 (KO p Q:Nat)/\sd=.slice (some ⟨g,0,none⟩) SF.1.length aJ/\KF s aI c SF.1/\SF.1.length<=300/\
  wc.ownsRow w.heap.size 3 1 (.slice (some ⟨g,0,none⟩) SF.1.length aJ) SF.1.length (Dd aI.size SF.1)/\CW wc cb w.heap.size s aI bb vg aU yb zb vt hg bH hbk HT c p (n+SF.2) T/\Below cb w wc)
 case rest=>
  obtain⟨g,aJ,rfl,rfl,rfl,eM,W6,U,F,hb⟩:=hcut;have eT:=fV eM;have nN:=fV U;have rO:=fV F;have lH:=fV hb;clear eM U F hb bC hP hF;obtain⟨S,kk⟩:=SF;simp only at*;go_wp2_with fail
  go_loopw [115] (λ x wr=>∃(k:Nat)(eS:Nat->Nat->Bool),x=.int .i64 (k:Int)/\k<=S.length/\CW wr cb w.heap.size s aI bb vg aU yb zb vt hg bH hbk eS c p (n+kk) T/\J2 s aI (H++S.take k) eS/\
   wr.ownsRow w.heap.size 3 1 (.slice (some ⟨g,0,none⟩) S.length aJ) S.length (Dd aI.size S)/\Below cb w wr) (λ x _=>S.length-(QO x).toNat)
  case atStart=>exact⟨0,HT,rfl,zL,rO.o,by rw[List.take_zero,OP];exact HH.o,nN.o,lH.o⟩
  case round=>
   obtain⟨k,eS,rfl,hk,F,sR,U,hb⟩:=hrel;have eN:=fV F;have iN:=fV sR;have B1:=fV U;have hV:=fV hb;clear F sR U hb rO nN lH;by_cases Z:k<S.length
   ·obtain⟨st,i,hx,aO,cN⟩:=eT.o _ (OI Z);have hm:=eN.o.tb c (st*aI.size+i) hc.o (C3 aO cN);have O8:wr.cell? ⟨g,k,none⟩=some (.int .i64 ((st*aI.size+i:Nat):Int)):=by
     have e:(Dd aI.size S)[k]?=some (.int .i64 ((st*aI.size+i:Nat):Int)):=by
      unfold Dd;rw[MC,LQ Z,hx];simp[uG]
     have:=nV B1.o k _ e;rw[LM]at this;exact this
    have HM:=fV (eN.o.mark hc.o (C3 aO cN));have HK:=fV (Vl iN.o (c:=c) (st:=st) cN);have O3:QP (H++S.take k++[uG c st i]=H++S.take (k+1)):=by
     unfold QP;rw[NS,<-hx,PZ,LQ Z];rfl
    have hy:st*aI.size+i<NL:=by have:=C3 aO cN;rw[EN.o,aT.o]at this;exact this
    generalize st*aI.size+i=Y at*;generalize eS c Y=old at*;clear hx aO cN;have B2:=hm.1;have O9:=hm.2;clear hm;have H0:=iI Y NL (by omega)
    have W7:(0:Int)<=(k:Int)/\(k:Int)<(S.length:Int):=by omega
    have H5:=fV (QN (a:=⟨hbk c,Y,none⟩) B1.o (eN.o.b2 c hc.o).2.1 (.bool true));have E6:=fV (hV.o.setCell (p:=⟨hbk c,Y,none⟩) (MU (eN.o.b2 c hc.o).1) (.bool true));go_wp2;go_roundw
    case rel=>exact⟨k+1,_,by go_num,Z,HM.o,by rw[<-O3.o];exact HK.o,H5.o,E6.o⟩
    case measure=>simp[QO];omega
   ·have e:k=S.length:=by omega
    subst e;go_wp2;go_ret2;refine⟨by rw[EB.o];rfl,hV.o,eS,?_,?_⟩
    ·rw[bS.o];exact eN.o.raise
    ·rw[bS.o];have:=iN.o;rw[List.take_length]at this;exact this
 case first=>
  go_wp2_with fail
  go_loopg [6,7,8,9,10] (aI.size-p) (λ gk tk hK sv sd iv wr=>∃(D:Option (Nat×Nat)) (st i k:Nat) (S:List (Int×Int×Int)) (g aJ:Nat),tk=.int .i64 (Ni D:Nat)/\hK=.int .i64 (KO p D:Nat)/\
   sv=.int .i64 (st:Int)/\sd=.slice (some ⟨g,0,none⟩) S.length aJ/\iv=.int .i64 (i:Int)/\st<N/\p<=i/\i+gk=aI.size/\k<=i-p/\S.length<=i-p/\KF s aI c S/\
   SF=pB s aI c H gk st i S k/\Q=nX s aI c H gk st i D/\
   wr.ownsRow w.heap.size 3 1 (.slice (some ⟨g,0,none⟩) S.length aJ) S.length (Dd aI.size S)/\CW wr cb w.heap.size s aI bb vg aU yb zb vt hg bH hbk HT c p (n+k) T/\Below cb w wr)
  case atStart=>exact⟨none,0,p,0,[],w.heap.size,0,rfl,rfl,rfl,rfl,rfl,by omega,lR,by omega,by omega,by simp,Tp _ _ _,bS.o.symm,EB.o.symm,hF.o,bC.o,hP.o⟩
  case round=>
   obtain⟨D,st,i,k,S,g,aJ,rfl,rfl,rfl,rfl,rfl,aO,W8,W1,hk,W0,eM,sW,hC,U,F,hb⟩:=hrel;have eO:=fV sW;have cP:=fV hC;have eT:=fV eM;have HO:=fV U;have HC:=fV F;have HB:=fV hb;clear sW hC eM U F hb bC hP hF;have k1:=HC.o.k1;by_cases Z:i<aI.size
   ·obtain⟨d,rfl⟩:∃d,gk=d+1:=⟨gk-1,by omega⟩
    have J:st<qW s c:=by rw[EN.o];exact aO
    have O6:st*aI.size+i<NL:=by have:=C3 J Z;rw[EN.o,aT.o]at this;exact this
    have cF:=fV (HH.o c st i hc.o J Z);have hJ:=HC.o.tb c (st*aI.size+i) hc.o (C3 J Z);obtain⟨X,hX⟩:∃X:Nat,X=st*aI.size:=⟨_,rfl⟩
    obtain⟨Y,hY⟩:∃Y:Nat,Y=X+i:=⟨_,rfl⟩
    have H6:(st:Int)*(aI.size:Int)=(X:Int):=by rw[hX];simp
    have H3:(X:Int)+(i:Int)=(Y:Int):=by rw[hY];simp
    rw[<-hX,<-hY]at O6 hJ cF;replace hX:=fV hX;have X0:X<=30000:=by omega
    replace hY:=fV hY;have H0:=iI Y NL (by omega)
    have hd:decide ((i:Int)<(aI.size:Int))=true:=by simp;omega
    have t1:=hJ.1;clear hJ J
    cases hkn:sS H (uG c st i)with
    | true=>
     rw[hkn]at cF;rw[cF.o]at t1;have C:QP (SF=(S,k)):=eO.o.trans (zV hkn);have V:QP (Q=D):=cP.o.trans (My hkn);clear hkn;go_wp2;go_meet
     case rel=>
      refine⟨g,aJ,by rw[V.o],by rw[V.o],by rw[C.o],by rw[C.o];exact eT.o,by rw[C.o];simp only;omega,by rw[C.o];exact HO.o,by rw[C.o];exact HC.o,HB.o⟩
    | false=>
     rw[hkn]at cF;rw[cF.o]at t1;have bO:=fV hkn;clear hkn;obtain⟨N1,hA⟩:=xE (n+k)
     rw[hA]at HC;have S5:N1<=101000:=by omega
     replace hA:=fV hA;have hR:=HC.o.hz;go_wp2_with (first|(at_builtin;refine gB wr rfl (.tmp 66) (.tmp 68) 59 rfl w.heap.size 3 (.int .i64 0) 1 8 ND bU rfl (by decide) (by decide) _ S.length (Dd aI.size S) [.int .i64 (Y:Int)] _ rfl HO.o _ rfl rfl rfl (by simp[MG]) (by omega) hR ?_;intro g4 cap4 w4 eR aW A2 qL;have hD:=lU (MZ w.heap.size wr) hR HO.o lR aW;have bM:=fV (HC.o.below hD);have r4:=bM.o.k4;have f4:=bM.o.fz 261;clear k1 t1));have bN:=fV bM.o.stepN;have hW:QP ((w4.setCell ⟨cb,261,none⟩ (.int .i64 ((N1:Int)+1))).ownsRow w.heap.size 3 1 (.slice (some ⟨g4,0,none⟩) (S.length+1) cap4) (S.length+1) (Dd aI.size (S++[uG c st i]))):=by
      rw[Yi];have e:(st:Int)*(aI.size:Int)+(i:Int)=(Y:Int):=by rw[H6,H3]
      rw[e];exact QN eR (by have:=bM.o.b0;exact this) _
     have A1:=fV ((HB.o.trans (hD.mono (by have:=bM.o.b0;omega))).setCell (p:=⟨cb,261,none⟩) lR (.int .i64 ((N1:Int)+1)));generalize w4.setCell ⟨cb,261,none⟩ (.int .i64 ((N1:Int)+1))=w5 at*;clear bM HC HO HB eR aW A2 qL hD r4 f4 hR;have J:st<qW s c:=by rw[EN.o];exact aO
     have W3:=kM aI i Z;have eX:=mT aI i;have q1:=bN.o.k1;have q2:=bN.o.mem.nx c st hc.o J;rw[PC 2 st]at q2;have q3:=bN.o.mem.ld c st (bt aI i) hc.o J eX;have q4:w5.cell? ⟨cb,1+bt aI i,none⟩=some (.int .i64 (tJ s (bt aI i):Int)):=by
      have e:(gM s)[bt aI i]'(by rw[bT.o];exact eX)=tJ s (bt aI i):=by simp only[(D5 HI.o).co];simp
      have:=bN.o.im (1+bt aI i) _ (b8 _ _ _ (bt aI i) (by rw[bT.o];exact eX));rw[LM,e]at this;exact this
     have T3:=wJ HI.o (bt aI i) eX;have hU:QP (Tv s c st (bt aI i)=oN (iA s c st (bt aI i))):=rfl;have hL:=Jf HI.o hc.o J eX;have A0:=fV (@xU s aI c d st i k H S bO.o);have tL:=fV (@C0 s aI c d st i k H S bO.o);have hS:=fV (@K6 s aI c d st i k H S bO.o);have rT:=fV (@En s aI c d st i H D bO.o);have qR:=fV (@Lo s aI c d st i H D bO.o);have rL:=fV (@Og s aI c d st i H D bO.o);generalize Tv s c st (bt aI i)=lj at*;generalize iA s c st (bt aI i)=ln at*;generalize tJ s (bt aI i)=q at*;generalize iK s=K at*;generalize bt aI i=v at*;rw[EN.o]at hL;have S2:=iI st N (by omega)
     have W2:=iI q K (by omega)
     have T2:(0:Int)<=(v:Int)/\(v:Int)<256:=by omega
     have W4:(0:Int)<=(i:Int)/\(i:Int)<(aI.size:Int):=by omega
     clear J;go_quiet (fail);have gL:=fV (bN.o.drewN nq);have hQ:QP ((w5.drewN nq).ownsRow w.heap.size 3 1 (.slice (some ⟨g4,0,none⟩) (S.length+1) cap4) (S.length+1) (Dd aI.size (S++[uG c st i]))):=hW.o;have hI:=fV (_root_.Go.below_drewN A1.o nq);generalize w5.drewN nq=w6 at*;clear bN hW A1 q1 q2 q3 q4;have bK:QP ((S++[uG c st i]).length=S.length+1):=by unfold QP;simp
     have hE:QP (n+(k+1)=N1+1):=by unfold QP;have:=hA.o;omega
     have hB:QP (KF s aI c (S++[uG c st i])):=q9 eT.o (by rw[EN.o];exact aO) Z;by_cases I:ln=255
     ·have hG:lj= -1:=by rw[hU.o,I];rfl
      subst hG;have C:QP (SF=(S++[uG c st i],k+1)):=eO.o.trans (A0.o I);have V:QP (Q=D):=cP.o.trans (rT.o I);clear hL I;go_wp2;go_meet
      case rel=>
       refine⟨g4,cap4,by rw[V.o],by rw[V.o],by rw[C.o];simp only;rw[bK.o],by rw[C.o];exact hB.o,by rw[C.o];simp only;rw[bK.o];omega,by rw[C.o];simp only;rw[bK.o];exact hQ.o,by rw[C.o];simp only;rw[hE.o];exact gL.o,hI.o⟩
     ·have hG:lj=(ln:Int):=by rw[hU.o];unfold oN;rw[aA I]
      subst hG;have eL:ln<N:=by omega
      have X4:((ln:Int)== -1)=false:=by rw[aC];omega
      have q5:=gL.o.mem.tk c ln hc.o (by rw[EN.o];exact eL);rw[PC 2 ln]at q5;have H1:=fV (tL.o I);have O5:=fV (hS.o I);have L1:=fV (qR.o I);have H4:=fV (rL.o I);generalize jO s c ln=m at*;have P0:=iI ln N (by omega)
      clear hL I A0 tL hS rT qR rL;by_cases hm:m=0
      ·have C:QP (SF=pB s aI c H d ln (i+1) (S++[uG c st i]) (k+1)):=eO.o.trans (O5.o hm);have V:QP (Q=nX s aI c H d ln (i+1) D):=cP.o.trans (H4.o hm);have N0:((m:Int) !=0)=false:=by rw[hm];rfl
       clear hm;go_wp2;go_roundg d
       case measure=>omega
       case rel=>
        refine⟨D,ln,i+1,k+1,S++[uG c st i],g4,cap4,rfl,rfl,rfl,by rw[bK.o],by go_num,eL,by omega,by omega,by omega,by rw[bK.o];omega,hB.o,C.o,V.o,by rw[bK.o];exact hQ.o,by rw[hE.o];exact gL.o,hI.o⟩
      ·have C:QP (SF=pB s aI c H d ln (i+1) [] (k+1)):=eO.o.trans (H1.o (by omega));have V:QP (Q=nX s aI c H d ln (i+1) (some (m-1,i+1))):=cP.o.trans (L1.o (by omega));have N0:((m:Int) !=0)=true:=by rw[aD];omega
       have H2:QP (Ni (some (m-1,i+1))=m):=by unfold QP Ni;simp only;omega
       have O0:=fV (AA hQ.o);clear hm;go_wp2;go_roundg d
       case measure=>omega
       case rel=>
        refine⟨some (m-1,i+1),ln,i+1,k+1,[],g4,cap4,by rw[H2.o],by simp[KO],rfl,rfl,by go_num,eL,by omega,by omega,by omega,by simp,Tp _ _ _,C.o,V.o,O0.o,by rw[hE.o];exact gL.o,hI.o⟩
   ·have e:gk=0:=by omega
    subst e;have C:QP (SF=(S,k)):=eO.o;have V:QP (Q=D):=cP.o;have hd:decide ((i:Int)<(aI.size:Int))=false:=by simp;omega
    go_wp2;go_meet
    case rel=>
     refine⟨g,aJ,by rw[V.o],by rw[V.o],by rw[C.o],by rw[C.o];exact eT.o,by rw[C.o];simp only;omega,by rw[C.o];exact HO.o,by rw[C.o];exact HC.o,HB.o⟩
section
theorem cH:(Tryz.prog.info? 79).map (λ i=>(i.zero,i.size,i.bytes))=some (some (.agg #[.int .i64 0,.int .i64 0,.int .i64 0]),3,24):=by kernel_rfl
variable {w w':tW}{cb top:Nat}{s aI:tB}{bb vg aU:Nat}{yb:Nat->Nat}{zb:Nat->Nat->Nat}{vt:tV}{hg bH:Nat}{hbk:Nat->Nat}{HT:Nat->Nat->Bool}{c p n:Nat}{T:List (Int×Int×Int)}
theorem CW.told{W w4:tW}(h:CW W cb W.heap.size s aI bb vg aU yb zb vt hg bH hbk HT c p n T){o:Obj}{x:Int×Int×Int}{g aJ:Nat}
  (V:w4.ownsRow (cb+1) 79 3 (.slice (some ⟨g,0,none⟩) (T.length+1) aJ) (T.length+1) (hZ T++[.int .i64 x.1,.int .i64 x.2.1,.int .i64 x.2.2]))
  (C:(W.alloc o).grownBy w4 vt.ownBlock) (Z:vt.ownBlock=some g\/g=W.heap.size+1) (bC:g<w4.heap.size):
  CW (w4.setCell ⟨cb,262,none⟩ (.slice (some ⟨g,0,none⟩) (T.length+1) aJ)) cb w4.heap.size s aI bb vg aU yb zb (.slice (some ⟨g,0,none⟩) (T.length+1) aJ) hg bH hbk HT c p n (T++[x]):=by
 have b0:=h.b0;have b1:=h.b1;have aR:=C.size;simp at aR;have F:∀k,k<W.heap.size->vt.ownBlock≠some k->w4.heap[k]?=W.heap[k]? :=λ k I hv=>(C.block k (by simp;omega) (λ e=>hv e.symm)).trans (MA W o k I)
 have U:vt.ownBlock≠some cb:=λ e=>by have:=(h.rt.lt cb e).1;omega
 have aT:∀k,k<cb->vt.ownBlock≠some k:=λ k I e=>by have:=(h.rt.lt k e).1;omega
 have aL:vt.ownBlock≠some hg:=λ e=>(h.bv hg e).2.1 rfl
 have Y:∀j,j<iM s->vt.ownBlock≠some (hbk j):=λ j D e=>(h.bv _ e).2.2 j D rfl
 have aW:Below cb W w4:=⟨C.os,C.tape,C.output,by omega,λ k I=>F k (by omega) (aT k I)⟩
 have cc:∀i,w4.cell? ⟨cb,i,none⟩=W.cell? ⟨cb,i,none⟩:=λ i=>LC (w:=W) (a:=⟨cb,i,none⟩) (F cb b0 U)
 have cf:∀i,w4.frozen? ⟨cb,i,none⟩=W.frozen? ⟨cb,i,none⟩:=λ i=>LP (w:=W) (a:=⟨cb,i,none⟩) (F cb b0 U)
 have ch:∀i,w4.cell? ⟨hg,i,none⟩=W.cell? ⟨hg,i,none⟩:=λ i=>LC (w:=W) (a:=⟨hg,i,none⟩) (F hg b1.2 aL)
 have ct:∀j i,j<iM s->w4.cell? ⟨hbk j,i,none⟩=W.cell? ⟨hbk j,i,none⟩:=λ j i D=>LC (w:=W) (a:=⟨hbk j,i,none⟩) (F _ (h.b2 j D).2.1 (Y j D))
 have aO:∀j i,j<iM s->w4.frozen? ⟨hbk j,i,none⟩=W.frozen? ⟨hbk j,i,none⟩:=λ j i D=>LP (w:=W) (a:=⟨hbk j,i,none⟩) (F _ (h.b2 j D).2.1 (Y j D))
 have X:∀j u,(nT (.slice (some ⟨bb,0,none⟩) (iR s) (iR s)) (gM s) (.slice (some ⟨vg,0,none⟩) (iM s) aU))[j]?=some u->j<258:=λ j u Q=>by
  have:=(LI.1 Q).1;rw[nY _ _ _ (by unfold gM;rw[lN];rfl)]at this;exact this
 have J:∀j u,j≠262->W.cell? ⟨cb,j,none⟩=some u->(w4.setCell ⟨cb,262,none⟩ (.slice (some ⟨g,0,none⟩) (T.length+1) aJ)).cell? ⟨cb,j,none⟩=some u:=λ j u D Q=>by
  rw[LD (h:=by intro e;injection e;omega),cc];exact Q
 refine⟨(h.mem.below aW lR).below (tN lR) lR,λ j u Q=>J _ _ (by have:=X j u Q;omega) (h.im j u Q),J _ _ (by omega) h.k1,J _ _ (by omega) h.k2,J _ _ (by omega) h.k3,J _ _ (by omega) h.k4,
  LH (u:=vt) _ _ _ ((cc 262).trans h.k5),J _ _ (by omega) h.k6,λ i=>by rw[LG,cf];exact h.fz i,?_,λ j D=>?_,λ j k D I=>⟨?_,?_⟩,by omega,⟨b1.1,by omega⟩,λ j D=>?_,h.bi,λ k I=>?_,by simp[LN]⟩
 ·rw[show(T++[x]).length=T.length+1 by simp,show hZ (T++[x])=hZ T++[.int .i64 x.1,.int .i64 x.2.1,.int .i64 x.2.2] by simp[hZ]];exact QN V (NZ _) _
 ·rw[LD (h:=by intro e;injection e;omega),ch];exact h.hl j D
 ·rw[LD (h:=by intro e;injection e;have:=h.b2 j D;omega),ct j k D];exact(h.tb j k D I).1
 ·rw[LG,aO j k D];exact(h.tb j k D I).2
 ·have:=h.b2 j D;exact⟨this.1,by omega,this.2.2⟩
 ·have e:g=k:=by simpa[MF]using I
  subst e;rcases Z with h1|h1
  ·have:=h.bv g h1;exact⟨by omega,this.2⟩
  ·exact⟨by omega,by omega,λ j D=>by have:=h.b2 j D;omega⟩
theorem CW.drew(h:CW w cb top s aI bb vg aU yb zb vt hg bH hbk HT c p n T):CW w.drew cb top s aI bb vg aU yb zb vt hg bH hbk HT c p n T:=h.drewN 1
theorem U0(s aI:tB)(cb bb vg aU:Nat)(yb:Nat->Nat)(zb:Nat->Nat->Nat)(vt:tV)(hg bH:Nat)(hbk:Nat->Nat)(HT:Nat->Nat->Bool)(c p n:Nat)(T:List (Int×Int×Int))(r q:Int)(w:tW)
  (hT:T.length<=100000) (h:CW w cb w.heap.size s aI bb vg aU yb zb vt hg bH hbk HT c p n T):
  RA LK 53 #[.pointer (some ⟨cb,0,none⟩),.int .i64 r,.int .i64 q] w λ e w'=>e=.returned (.tuple #[])/\Below cb w w'/\
   ∃V,CW w' cb w'.heap.size s aI bb vg aU yb zb V hg bH hbk HT c p n (T++[(r,(p:Int),q)]):=by
 have Q:=fV h;have k3:=h.k3;have k5:=h.k5;have Z:=h.fz 262;obtain⟨va,X,hv⟩:=gA h.rt;subst hv;have aL:=h.b0;clear h;go_enter func53,ntmps53;go_wp2_with fail;have D:some cb≠(MY va T.length X).ownBlock:=λ e=>by have:=(Q.o.rt.lt cb e.symm).1;omega
 go_region_law ((refine qJ w.drew rfl (.tmp 10) (.tmp 18) 29 rfl (cb+1) 79 (.agg #[.int .i64 0,.int .i64 0,.int .i64 0]) 3 24 MW cH rfl (by decide) (by decide) _ T.length (hZ T) [.int .i64 r,.int .i64 (p:Int),.int .i64 q] _ (by simp[Act.eval]) Q.o.rt _ rfl (by simp[Act.eval]) rfl (by simp[MG]) (by omega) (by show cb+1<=w.heap.size;omega) ?_;intro g4 cap4 w4 F C I J;have m3:=((gH C (k:=cb) (by show cb<w.heap.size;omega) D).1 262).trans k5;have n3:=((gH C (k:=cb) (by show cb<w.heap.size;omega) D).2 262).trans Z;have Y:=fV (Q.o.drew.told (x:=(r,(p:Int),q)) F C I J);have U:QP (Below cb w w4):=(lU (o:= .cells #[.int .i64 r,.int .i64 (p:Int),.int .i64 q] 79) (_root_.Go.below_drewN (MZ cb w) 1) (by show cb<=w.heap.size;omega) Q.o.rt (NJ _) C)))
 all_goals
  go_wp2
  go_end0
  exact⟨rfl,U.o.setCell (p:=⟨cb,262,none⟩) lR _,_,Y.o.raise⟩
end
theorem Ut(s aI:tB)(cb bb vg aU:Nat)(yb:Nat->Nat)(zb:Nat->Nat->Nat)(vt:tV)(hg bH:Nat)(hbk:Nat->Nat)(HT:Nat->Nat->Bool)(c p n:Nat)(T:List (Int×Int×Int))(r q:Nat)(w:tW)
  (hi:iF s=true) (hr:r<iR s) (hT:T.length<=100000) (h:CW w cb w.heap.size s aI bb vg aU yb zb vt hg bH hbk HT c p n T):
  RA LK 54 #[.pointer (some ⟨cb,0,none⟩),.int .i64 r,.int .i64 q] w λ e w'=>e=.returned (.tuple #[])/\Below cb w w'/\
   ∃aO,CW w' cb w'.heap.size s aI bb vg aU yb zb aO hg bH hbk HT (if 1<nA s r then nA s r-2 else c) q n (if nA s r=1 then T else T++[((r:Int),(p:Int),(q:Int))]):=by
 have V:=fV h;have k0:=h.im 0 _ (So _ _ _);have m0:=h.mem.be r hr;have Z:=vV hi hr;have hM:=(lC hi).2.2.2.1;obtain⟨R,ER⟩:=xE (iR s)
 rw[ER]at k0 hr;obtain⟨b,EB⟩:=xE (nA s r)
 rw[EB]at m0 Z ⊢;have bC:b<=5:=by omega
 have aR:=iI r R (by omega)
 have aT:=h.b0;replace ER:=fV ER;replace EB:=fV EB;clear h hi Z hM;rcases(show b=1\/b=0\/2<=b by omega)with Q|Q|Q
 ·have Y:((b:Int) !=1)=false:=by rw[Q];rfl
  have aL:decide ((2:Int)<=(b:Int))=false:=by simp;omega
  rw[aA (show¬1<b by omega),aB Q];clear Q;have q3:=V.o.k3;have f3:=V.o.fz 260;go_enter func54,ntmps54;go_wp2
  go_end0
  exact⟨rfl,bR.setCell (p:=⟨cb,260,none⟩) lR _,vt,(V.o.setP q).raise⟩
 ·have Y:((b:Int) !=1)=true:=by rw[Q];rfl
  have aL:decide ((2:Int)<=(b:Int))=false:=by simp;omega
  rw[aA (show¬1<b by omega),aA (show¬b=1 by omega)];clear Q;go_enter func54,ntmps54;go_wp2_with fail;refine(U0 s aI cb bb vg aU yb zb vt hg bH hbk HT c p n T (r:Int) (q:Int) _ hT V.o).mono ?_;rintro e w1 ⟨rfl,D,F,C⟩;have J:=fV C;have I:=fV D;have q3:=C.k3;have f3:=C.fz 260;clear C D k0 m0;go_wp2
  go_end0
  exact⟨rfl,I.o.setCell (p:=⟨cb,260,none⟩) lR _,F,(J.o.setP q).raise⟩
 ·have Y:((b:Int) !=1)=true:=by rw[aD];omega
  have aL:decide ((2:Int)<=(b:Int))=true:=by simp;omega
  rw[aB (show 1<b by omega),aA (show¬b=1 by omega)];obtain⟨U,X⟩:∃U:Nat,b-2=U:=⟨_,rfl⟩
  have aW:(b:Int)-2=(U:Int):=by omega
  rw[X];clear X;go_enter func54,ntmps54;go_wp2_with fail;refine(U0 s aI cb bb vg aU yb zb vt hg bH hbk HT c p n T (r:Int) (q:Int) _ hT V.o).mono ?_;rintro e w1 ⟨rfl,D,F,C⟩;have J:=fV C;have I:=fV D;have q2:=C.k2;have f2:=C.fz 259;have q3:=(C.setC U).k3;have f3:=(C.setC U).fz 260;clear C D k0 m0;go_wp2
  go_end0
  exact⟨rfl,(I.o.setCell (p:=⟨cb,259,none⟩) lR _).setCell (p:=⟨cb,260,none⟩) lR _,F,((J.o.setC U).setP q).raise⟩
theorem fR:((Tryz.prog.info? 141).map (·.zero))=some (some (.agg LZ)):=by kernel_rfl
theorem dR:(MH 6).map (λ k=>LZ[258+k]?)=[some (.string QG),some (.int .i64 0),some (.int .i64 0),some (.int .i64 0),some (.slice none 0 0),some (.slice none 0 0)]:=by kernel_rfl
theorem dB:Tryz.zeroCells141.size=264:=by kernel_rfl
theorem fO:(Tryz.prog.info? 141).map (·.size)=some 264:=by kernel_rfl
theorem dV:Tryz.zeroCells141.all (·.oneCell')=true:=by kernel_rfl
theorem fA:(match Tryz.prog.underlying 141 with
  | some (.struct fs)=>fs.toList.mapM (λ f=>(Tryz.prog.info? f.type).map λ i=>(f.offset,i.size))
  | _=>none)=some [(0,258),(258,1),(259,1),(260,1),(261,1),(262,1),(263,1)]:=by kernel_rfl
theorem fN(bA:List (Nat×tV)):Tryz.prog.built 141 bA=Instr.fill ([(0,258),(258,1),(259,1),(260,1),(261,1),(262,1),(263,1)].toArray[·]?) LZ bA:=by
 have C:=fR;have o:=fA;generalize LZ=Z at*;unfold Program.built
 cases hi:Tryz.prog.info? 141 with
 | none=>rw[hi]at C;cases C
 | some it=>
  rw[hi]at C;have D:it.zero=some (.agg Z):=by simpa using C
  cases hu:Tryz.prog.underlying 141 with
  | none=>rw[hu]at o;cases o
  | some d=>
   rw[hu]at o
   cases d with
   | struct fs=>
    simp only at o;simp only[D,o,PU]
   | _=>cases o
theorem Uz(A:Array tV)(hA:A.size=258)(V:A.all (·.oneCell')=true)(aI:tB)(c0:Int):∃C:Array tV,Tryz.prog.built 141 [(0,.agg A),(1,.string aI),(2,.int .i64 c0)]=some C/\C.size=264/\C.all (·.oneCell')=true/\
  (∀k,k<258->C[k]?=A[k]?)/\C[258]?=some (.string aI)/\C[259]?=some (.int .i64 c0)/\C[260]?=some (.int .i64 0)/\C[261]?=some (.int .i64 0)/\C[262]?=some (.slice none 0 0)/\C[263]?=some (.slice none 0 0):=by
 have I:=dB;have ht:=dR;have ho:=dV;rw[fN];generalize LZ=Z at*;have D:∀k v,[some (NI QG),some (.int .i64 0),some (.int .i64 0),some (.int .i64 0),some (.slice none 0 0),some (.slice none 0 0)][k]?=some v->k<6->Z[258+k]?=v:=λ k v hk h6=>by
  rw[<-ht,MC,MM h6]at hk;simpa using hk
 obtain⟨U,Q⟩:=R9 0 A Z;obtain⟨X,J⟩:=R9 258 #[NI aI] (A.zipIdx.foldl (λ cs x=>cs.setIfInBounds (0+x.2) x.1) Z);obtain⟨s3,F⟩:=R9 259 #[ML .i64 c0] (#[NI aI].zipIdx.foldl (λ cs x=>cs.setIfInBounds (258+x.2) x.1) (A.zipIdx.foldl (λ cs x=>cs.setIfInBounds (0+x.2) x.1) Z));refine⟨#[ML .i64 c0].zipIdx.foldl (λ cs x=>cs.setIfInBounds (259+x.2) x.1) (#[NI aI].zipIdx.foldl (λ cs x=>cs.setIfInBounds (258+x.2) x.1) (A.zipIdx.foldl (λ cs x=>cs.setIfInBounds (0+x.2) x.1) Z)),?_,by rw[s3,X,U,I],?_,λ k hk=>?_,?_,?_,?_,?_,?_,?_⟩
 ·have e1:(QM A).cells=A:=rfl;have e2:(NI aI).cells= #[NI aI]:=rfl;have e3:(ML .i64 c0).cells= #[ML .i64 c0]:=rfl;unfold Instr.fill;simp only[PT,NK,e1,hA,I];rw[aA (by decide)];unfold Instr.fill;simp only[NC,NK,e2];rw[aA (by rw[U,I];simp)];unfold Instr.fill;simp only[NC,NK,e3];rw[aA (by rw[X,U,I];simp)];unfold Instr.fill
  rfl
 ·rw[OX];intro i hi;have o:=OV hi;have aL:=hi;rw[s3,X,U,I]at aL;rw[F,J,Q]at o;generalize (#[ML .i64 c0].zipIdx.foldl (λ cs x=>cs.setIfInBounds (259+x.2) x.1) (#[NI aI].zipIdx.foldl (λ cs x=>cs.setIfInBounds (258+x.2) x.1) (A.zipIdx.foldl (λ cs x=>cs.setIfInBounds (0+x.2) x.1) Z)))[i]=u at*;split at o
  ·rename_i hc;have e:i-259=0:=by have:=hc.2.1;simp at this;omega
   rw[e]at o;have Y:(#[ML .i64 c0]:Array tV).all (·.oneCell')=true:=by simp[MG]
   exact D9 Y o
  ·split at o
   ·rename_i hc;have e:i-258=0:=by have:=hc.2.1;simp at this;omega
    rw[e]at o;have Y:(#[NI aI]:Array tV).all (·.oneCell')=true:=by simp[MG]
    exact D9 Y o
   ·split at o
    ·exact D9 V o
    ·exact D9 ho o
 ·rw[F,aA (by omega),J,aA (by omega),Q,aB (by omega)];rfl
 ·rw[F,aA (by omega),J,aB ⟨by omega,by simp,by rw[U,I];omega⟩];rfl
 ·rw[F,aB ⟨by omega,by simp,by rw[X,U,I];omega⟩];rfl
 ·rw[F,aA (by simp),J,aA (by simp),Q,aA (by omega)];exact D 2 _ rfl (by omega)
 ·rw[F,aA (by simp),J,aA (by simp),Q,aA (by omega)];exact D 3 _ rfl (by omega)
 ·rw[F,aA (by simp),J,aA (by simp),Q,aA (by omega)];exact D 4 _ rfl (by omega)
 ·rw[F,aA (by simp),J,aA (by simp),Q,aA (by omega)];exact D 5 _ rfl (by omega)
section
def Rc(s aI:tB)(hbk:Nat->Nat)(m:Nat):List tV:=(MH m).map λ j=>MY (some ⟨hbk j,0,none⟩) (qW s j*aI.size) (qW s j*aI.size)
structure o6(w:tW)(cb:Nat)(s aI:tB)(bb vg aU:Nat)(yb:Nat->Nat)(zb:Nat->Nat->Nat)(vh:tV)(hbk:Nat->Nat)(c0 m:Nat):Prop where
 mem:IM w s bb vg yb zb cb
 im:w.rangeAt cb 0 (nT (.slice (some ⟨bb,0,none⟩) (iR s) (iR s)) (gM s) (.slice (some ⟨vg,0,none⟩) (iM s) aU))
 k1:w.cell? ⟨cb,258,none⟩=some (.string aI)
 k2:w.cell? ⟨cb,259,none⟩=some (.int .i64 c0)
 k3:w.cell? ⟨cb,260,none⟩=some (.int .i64 0)
 k4:w.cell? ⟨cb,261,none⟩=some (.int .i64 0)
 k5:w.cell? ⟨cb,262,none⟩=some (.slice none 0 0)
 k6:w.cell? ⟨cb,263,none⟩=some vh
 fz:∀i,w.frozen? ⟨cb,i,none⟩=false
 rh:w.ownsRow (cb+1) 80 1 vh m (Rc s aI hbk m)
 tb:∀j k,j<m->k<qW s j*aI.size->w.cell? ⟨hbk j,k,none⟩=some (.bool false)/\w.frozen? ⟨hbk j,k,none⟩=false
 hb:cb<w.heap.size
 b2:∀j,j<m->cb<hbk j/\hbk j<w.heap.size/\vh.ownBlock≠some (hbk j)
 bi:∀i j,i<m->j<m->hbk i=hbk j->i=j
variable {w w':tW}{cb:Nat}{s aI:tB}{bb vg aU:Nat}{yb:Nat->Nat}{zb:Nat->Nat->Nat}{vh:tV}{hbk:Nat->Nat}{c0 m:Nat}
theorem Nm(n k:Nat)(h:k<n):(QU #[QL false] n)[k]?=some (.bool false):=by
 unfold QU;rw[Array.getElem?_map,Array.getElem?_range,aB h];simp[QK]
theorem o6.more(h:o6 w cb s aI bb vg aU yb zb vh hbk c0 m){V:TypeId}{o:Obj}{w4:tW}{Q g aJ:Nat}(aW:qW s m*aI.size=Q)
  (aR:w4.ownsRow (cb+1) 80 1 (.slice (some ⟨g,0,none⟩) (m+1) aJ) (m+1) (Rc s aI hbk m++[.slice (some ⟨w.heap.size,0,none⟩) Q Q]))
  (C:((w.alloc (.cells (QU #[.bool false] Q) V)).alloc o).grownBy w4 vh.ownBlock) (aL:vh.ownBlock=some g\/g=w.heap.size+2):
  o6 (w4.setCell ⟨cb,263,none⟩ (.slice (some ⟨g,0,none⟩) (m+1) aJ)) cb s aI bb vg aU yb zb (.slice (some ⟨g,0,none⟩) (m+1) aJ) (λ j=>if j=m then w.heap.size else hbk j) c0 (m+1):=by
 have b0:=h.hb;have bC:=C.size;simp at bC;have F:∀k,vh.ownBlock=some k->cb<k/\k<w.heap.size:=λ k D=>by have:=h.rh.lt k D;omega
 have I:∀k,k<w.heap.size->vh.ownBlock≠some k->w4.heap[k]?=w.heap[k]? :=λ k D hv=>((C.block k (by simp;omega) (λ e=>hv e.symm)).trans (MA _ o k (by simp;omega))).trans (MA w _ k D)
 have J:w4.heap[w.heap.size]?=some (.cells (QU #[.bool false] Q) V (0,0)):=((C.block _ (by simp;omega) (λ e=>by have:=F _ e.symm;omega)).trans (MA _ o _ (by simp))).trans (QV w _);have aO:vh.ownBlock≠some cb:=λ e=>by have:=F cb e;omega
 have bK:Below cb w w4:=⟨C.os,C.tape,C.output,by omega,λ k D=>I k (by omega) (λ e=>by have:=F k e;omega)⟩
 have cc:∀i,w4.cell? ⟨cb,i,none⟩=w.cell? ⟨cb,i,none⟩:=λ i=>LC (w:=w) (a:=⟨cb,i,none⟩) (I cb b0 aO)
 have cf:∀i,w4.frozen? ⟨cb,i,none⟩=w.frozen? ⟨cb,i,none⟩:=λ i=>LP (w:=w) (a:=⟨cb,i,none⟩) (I cb b0 aO)
 have aT:∀j u,(nT (.slice (some ⟨bb,0,none⟩) (iR s) (iR s)) (gM s) (.slice (some ⟨vg,0,none⟩) (iM s) aU))[j]?=some u->j<258:=λ j u Y=>by
  have:=(LI.1 Y).1;rw[nY _ _ _ (by unfold gM;rw[lN];rfl)]at this;exact this
 have X:∀j u,j≠263->w.cell? ⟨cb,j,none⟩=some u->(w4.setCell ⟨cb,263,none⟩ (.slice (some ⟨g,0,none⟩) (m+1) aJ)).cell? ⟨cb,j,none⟩=some u:=λ j u hj Y=>by
  rw[LD (h:=by intro e;injection e;omega),cc];exact Y
 have bM:∀k,k<w.heap.size->vh.ownBlock≠some k->(MY (some ⟨g,0,none⟩) (m+1) aJ).ownBlock≠some k:=λ k D hv e=>by
  have e':g=k:=by simpa[MF]using e
  subst e';rcases aL with h1|h1
  ·exact hv h1
  ·omega
 refine⟨(h.mem.below bK lR).below (tN lR) lR,λ j u Y=>X _ _ (by have:=aT j u Y;omega) (h.im j u Y),X _ _ (by omega) h.k1,X _ _ (by omega) h.k2,X _ _ (by omega) h.k3,X _ _ (by omega) h.k4,X _ _ (by omega) h.k5,
  LH (u:=vh) _ _ _ ((cc 263).trans h.k6),λ i=>by rw[LG,cf];exact h.fz i,?_,λ j k hj D=>?_,by simp[LN];omega,λ j hj=>?_,λ i j hi hj he=>?_⟩
 ·have e:Rc s aI (λ j=>if j=m then w.heap.size else hbk j) (m+1)=Rc s aI hbk m++[.slice (some ⟨w.heap.size,0,none⟩) Q Q]:=by
   unfold Rc;rw[PM,OD,PX];congr 1
   ·refine MN (λ j hj=>?_);simp only;rw[aA (by have:=OS.1 hj;omega)]
   ·simp only[aB];rw[aW]
  rw[e];exact QN aR (NZ _) _
 ·by_cases e:j=m
  ·subst e;rw[aB rfl];rw[aW]at D;refine⟨?_,?_⟩
   ·rw[LD (h:=by intro e;injection e;omega)];unfold World.cell?;simp only[J];exact Nm Q k D
   ·rw[LG];unfold World.frozen?;simp only[J];simp
  ·rw[aA e];have U:j<m:=by omega
   have b:=h.b2 j U;have bq:=I _ b.2.1 b.2.2;refine⟨?_,?_⟩
   ·rw[LD (h:=by intro e;injection e;omega),LC (w:=w) (a:=⟨hbk j,k,none⟩) bq];exact(h.tb j k U D).1
   ·rw[LG,LP (w:=w) (a:=⟨hbk j,k,none⟩) bq];exact(h.tb j k U D).2
 ·by_cases e:j=m
  ·subst e;simp only[aB];refine⟨b0,by simp[LN];omega,λ e'=>?_⟩;have Z:g=w.heap.size:=by simpa[MF]using e'
   rcases aL with h1|h1
   ·have:=F g h1;omega
   ·omega
  ·simp only[aA e];have b:=h.b2 j (by omega);exact⟨b.1,by simp[LN];omega,bM _ b.2.1 b.2.2⟩
 ·by_cases V:i=m
  ·by_cases Z:j=m
   ·omega
   ·simp only[aB V,aA Z]at he;have:=(h.b2 j (by omega)).2.1;omega
  ·by_cases Z:j=m
   ·simp only[aA V,aB Z]at he;have:=(h.b2 i (by omega)).2.1;omega
   ·simp only[aA V,aA Z]at he;exact h.bi i j (by omega) (by omega) he
theorem o6.drew(h:o6 w cb s aI bb vg aU yb zb vh hbk c0 m):o6 w.drew cb s aI bb vg aU yb zb vh hbk c0 m:=⟨h.mem.drewN 1,h.im,h.k1,h.k2,h.k3,h.k4,h.k5,h.k6,h.fz,h.rh,h.tb,h.hb,h.b2,h.bi⟩
theorem o6.done(h:o6 w cb s aI bb vg aU yb zb vh hbk c0 (iM s))(X:1<=iM s):∃hg bH,CW w cb w.heap.size s aI bb vg aU yb zb (.slice none 0 0) hg bH hbk (λ _ _=>false) c0 0 0 []:=by
 have C:=h.rh.lt;have F:=h.rh;obtain⟨g,aJ,V,Q,J⟩:=h.rh.form (by omega);have D:=h.k6;have o:=h.b2;rw[V]at C F D o;refine⟨g,aJ,h.mem,h.im,h.k1,h.k2,h.k3,h.k4,h.k5,D,h.fz,LS _ _ _ _,λ j I=>?_,h.tb,h.hb,?_,λ j I=>?_,h.bi,λ k U=>?_,lR⟩
 ·have:=nV F j (.slice (some ⟨hbk j,0,none⟩) (qW s j*aI.size) (qW s j*aI.size)) (by unfold Rc;rw[MC,MM I];rfl);rw[LM]at this;exact this
 ·have:=C g rfl;omega
 ·have b:=o j I;refine⟨b.1,b.2.1,λ e=>b.2.2 ?_⟩;rw[e];rfl
 ·cases U
theorem BK(s aI:tB):J2 s aI [] (λ _ _=>false):=λ _ _ _ _ _ _=>by simp[sS]
end
section
theorem fI:(Tryz.prog.info? 4).map (λ i=>(i.zero,i.size,i.bytes))=some (some (.bool false),1,1):=by kernel_rfl
theorem eH:(Tryz.prog.info? 80).map (λ i=>(i.zero,i.size,i.bytes))=some (some (.slice none 0 0),1,24):=by kernel_rfl
def Vb:tV->Nat
 | .int _ z=>z.toNat
 | _=>0
def IH(v:tV):Prop:=∃z:Nat,v=.int .i64 (z:Int)/\z<=30000
theorem dM{d:Option Tmp}{p:String}{C:Array Edge}{X:tW}{K:Act->tW->Prop}{Q:Exit->Act->tW->Prop}
  (h:IH (a.eval x)):
  Oper.wp LK {dst:=d,op:= .makeSlice 80 x x,type:=ty,pos:=p,after:=C,guard:=gd} a X K Q=K (a.put d (.slice (some ⟨X.heap.size,0,none⟩) (Vb (a.eval x)) (Vb (a.eval x)))) (X.alloc (.cells (QU #[.bool false] (Vb (a.eval x))) 4)):=by
 obtain⟨z,D,F⟩:=h;have o:=run_make_row' (P:=LK) 80 4 (.bool false) 1 underlying80 fI rfl .i64 .i64 z (by omega) (by omega) X;unfold Oper.wp execOp;simp only[D,Sem.run_bind,o,Result.andThen_ok,Vb,Int.toNat_natCast]
 rfl
theorem uV:∀(vs:List tV)(o:Nat)(w:tW)(b:Nat)(a:Addr),(w.setCells b o vs).frozen? a=w.frozen? a:=by
 intro vs
 induction vs with
 | nil=>intro o w b a;rfl
 | cons v r ih=>intro o w b a;exact(ih (o+1) _ b a).trans (LG _ _ _ _)
theorem Ez{a w:tW}(h:Below B a w):Below B a w.drew:=⟨h.os,h.tape,h.output,h.size,h.block⟩
def KA(w:tW)(s aI:tB)(c0:Nat)(e:Ending)(w':tW):Prop:=
 ∃vt,e=.returned (.tuple #[vt,.int .i64 ((pU s aI c0).2.1:Nat),.int .i64 ((pU s aI c0).2.2:Nat)])/\w'.ownsRow (w.heap.size+1+1) 79 3 vt (pU s aI c0).1.length (hZ (pU s aI c0).1)/\Bl w w'
attribute [local go_sem ↓] Go.wp_at_zero Go.wp_at_succ dM
theorem Kp(s aI:tB)(c0 bb vg aU:Nat)(yb:Nat->Nat)(zb:Nat->Nat->Nat)(A:Array tV)(w:tW)(hi:iF s=true)(A1:aI.size<=300)(H2:c0<iM s)
  (hA:A.toList=nT (.slice (some ⟨bb,0,none⟩) (iR s) (iR s)) (gM s) (.slice (some ⟨vg,0,none⟩) (iM s) aU)) (hm:IM w s bb vg yb zb w.heap.size):
  RA LK 25 #[.agg A,.int .i64 (c0:Int),.string aI] w λ e w'=>KA w s aI c0 e w':=by
 have eR:=nY (.slice (some ⟨bb,0,none⟩) (iR s) (iR s)) (gM s) (.slice (some ⟨vg,0,none⟩) (iM s) aU) (by unfold gM;rw[lN];rfl);have cN:=yD (vb:= .slice (some ⟨bb,0,none⟩) (iR s) (iR s)) (vc:= .slice (some ⟨vg,0,none⟩) (iM s) aU) (cs:=gM s) rfl rfl;have hC:A.size=258:=by rw[<-LU,hA];exact eR
 have hW:A.all (·.oneCell')=true:=by
  rw[<-hA]at cN;have:=QS cN;simpa using this
 obtain⟨C,nN,hB,hQ,sW,qR,tO,A0,hU,hS,nL⟩:=Uz A hC hW aI (c0:Int);have hD:QP ((w.alloc (.cells A 72)).rangeAt w.heap.size 0 A.toList):=mA w A _;have HT:=fV (iD (w.alloc (.cells A 72)) LZ 141 (w.heap.size+1) 264 dB (by simp));have hH:QP (Below (w.heap.size+1) (w.alloc (.cells A 72)) (((w.alloc (.cells A 72)).alloc (.cells LZ 141)).setCells (w.heap.size+1) 0 C.toList)):=
  fX _ 0 _ (w.heap.size+1) (bR.alloc (by simp) _) lR
 have hI:QP (Bl w (((w.alloc (.cells A 72)).alloc (.cells LZ 141)).setCells (w.heap.size+1) 0 C.toList)):=
  ((MZ w.heap.size w).alloc lR _).trans (hH.o.mono (by omega))
 have hX:QP ((((w.alloc (.cells A 72)).alloc (.cells LZ 141)).setCells (w.heap.size+1) 0 C.toList).rangeAt (w.heap.size+1) 0 C.toList):=
  LY _ _ _ _ (by rw[LU,hB];exact HT.o)
 have M2:QP ((((w.alloc (.cells A 72)).alloc (.cells LZ 141)).setCells (w.heap.size+1) 0 C.toList).there (w.heap.size+1) 0 264):=OL HT.o _ _ _;have hN:QP ((((w.alloc (.cells A 72)).alloc (.cells LZ 141)).setCells (w.heap.size+1) 0 C.toList).cell? ⟨w.heap.size,257,none⟩=some (.slice (some ⟨vg,0,none⟩) (iM s) aU)):=by
  unfold QP;rw[hH.o.cell (p:=⟨w.heap.size,257,none⟩) (NZ _)];have:=hD.o 257 (.slice (some ⟨vg,0,none⟩) (iM s) aU) (by rw[hA];exact yI _ _ _ (by unfold gM;rw[lN];rfl));rw[LM]at this;exact this
 have lH:QP (w.heap.size+1<(((w.alloc (.cells A 72)).alloc (.cells LZ 141)).setCells (w.heap.size+1) 0 C.toList).heap.size):=by
  unfold QP;have:=(fX C.toList 0 ((w.alloc (.cells A 72)).alloc (.cells LZ 141)) (w.heap.size+1) (MZ 0 _) zL).size;simp at this;omega
 have hY:=fV nN;have hV:=fV hC;have gL:=fV hB;have tT:=fV hQ;have hR:QP ((∀k,k<258->C[k]?=A[k]?)/\C[258]?=some (.string aI)/\C[259]?=some (.int .i64 (c0:Int))/\C[260]?=some (.int .i64 0)/\C[261]?=some (.int .i64 0)/\C[262]?=some (.slice none 0 0)/\C[263]?=some (.slice none 0 0)):=⟨sW,qR,tO,A0,hU,hS,nL⟩
 have A2:QP (A.toList.toArray=A):=by unfold QP;simp
 have HM:=fV hm;have HI:=fV hi;have HA:=fV hA;clear nN hC hB hQ sW qR tO A0 hU hS nL eR cN hW hm hi hA;go_enter func25,ntmps25;go_upto_region 2 with(first
  | (refine wpList_boxTo rfl 72 (.tmp 0) rfl _ rfl w.heap.size rfl A rfl ?_)
  | (refine QQ rfl 72 (.tmp 3) rfl w.heap.size 0 rfl A.toList _ hD.o MO rfl ?_ ?_;(rw[LU,hV.o];exact bP);rw[A2.o])
  | (refine wpList_buildTo rfl 141 _ rfl _ rfl C ?_ ?_;(simp only[OZ,NO,PY];exact hY.o))
  | (refine QR rfl 141 (.tmp 9) (.tmp 17) rfl (w.heap.size+1) 0 C rfl rfl ?_ ?_ tT.o ?_;(rw[gL.o];exact HT.o);(rw[gL.o];exact fO)))
 have qL:QP (∀i,(((w.alloc (.cells A 72)).alloc (.cells LZ 141)).setCells (w.heap.size+1) 0 C.toList).frozen? ⟨w.heap.size+1,i,none⟩=false):=λ i=>by
  rw[uV];have e:w.heap.size+1=(w.alloc (.cells A 72)).heap.size:=by simp
  rw[e,MJ]
 generalize ((w.alloc (.cells A 72)).alloc (.cells LZ 141)).setCells (w.heap.size+1) 0 C.toList=W0 at*;have J:∀k v,C[k]?=some v->W0.cell? ⟨w.heap.size+1,k,none⟩=some v:=λ k v hk=>by
  have:=hX.o k v (by simpa using hk);rw[LM]at this;exact this
 have iN:QP (o6 W0 (w.heap.size+1) s aI bb vg aU yb zb (.slice none 0 0) (λ _=>0) c0 0):=by
  obtain⟨h0,h1,h2,h3,h4,h5,h6⟩:=hR.o;refine⟨(HM.o.below hI.o lR).mono (NJ _),λ j u hu=>?_,J _ _ h1,J _ _ h2,J _ _ h3,J _ _ h4,J _ _ h5,J _ _ h6,qL.o,LS _ _ _ _,λ j k hj=>by omega,lH.o,λ j hj=>by omega,λ i j hi=>by omega⟩;have hj:j<258:=by
   have:=(LI.1 hu).1;rw[nY _ _ _ (by unfold gM;rw[lN];rfl)]at this;exact this
  rw[LM];refine J j u ((h0 j hj).trans ?_);rw[<-HA.o]at hu;simpa using hu
 have hM:=(lC HI.o).2.2;obtain⟨M,EM⟩:=xE (iM s)
 have eO:=hN.o;rw[EM]at eO hM H2;have O0:1<=M/\M<=4:=⟨hM.1,hM.2.1⟩
 replace EM:=fV EM;clear hM J hX M2 qL hR hY tT gL hV A2 HA HT hH hD hN lH;go_wp2_with fail;clear eO
 go_loopw [21] (λ x wr=>∃(m:Nat)(vh:tV)(hbk:Nat->Nat),x=.int .i64 (m:Int)/\m<=M/\o6 wr (w.heap.size+1) s aI bb vg aU yb zb vh hbk c0 m/\Bl w wr) (λ x _=>M-(QO x).toNat)
 case atStart=>exact⟨0,_,_,rfl,zL,iN.o,hI.o⟩
 case round=>
  obtain⟨m,vh,hbk,rfl,S5,X,hb⟩:=hrel;have D:=fV X;have aW:=fV hb;clear X hb iN hI;by_cases bC:m<M
  ·have eX:m<iM s:=by rw[EM.o];exact bC
   have m1:=D.o.mem.co m eX;have rL:=L7 HI.o eX;obtain⟨N,EN⟩:=xE (qW s m)
   rw[EN]at m1 rL;obtain⟨Z,cP⟩:=xE (N*aI.size)
   have H6:Z<=30000:=by rw[<-cP];have:=NU rL.1 A1;omega
   have H3:(N:Int)*(aI.size:Int)=(Z:Int):=by rw[<-cP];simp
   have T3:IntKind.i64.wrap ((N:Int)*(aI.size:Int))=(Z:Int):=by rw[H3];exact IntWalk.i64_in _ (by omega)
   have O5:IntKind.i64.wrap (Z:Int)=(Z:Int):=IntWalk.i64_in _ (by omega);have B1:QP (qW s m*aI.size=Z):=by unfold QP;rw[EN,cP]
   replace EN:=fV EN;replace cP:=fV cP;obtain⟨va,aL,hv⟩:=gA D.o.rh;subst hv;have k6:=D.o.k6;have f6:=D.o.fz 263;have hJ:=D.o.hb;have T2:IH (.int .i64 (Z:Int)):=⟨Z,rfl,H6⟩
   have H5:Vb (.int .i64 (Z:Int))=Z:=by simp[Vb]
   have S2:=iI m M (by omega)
   clear eX;have hd:=dT m M (by omega)
   go_wp2_with fail;have x1:(wr.alloc (.cells (QU #[.bool false] Z) 4)).cell? ⟨w.heap.size+1,263,none⟩=some (.slice va m aL):=(LC (w:=wr) (a:=⟨w.heap.size+1,263,none⟩) (MA _ _ _ hJ)).trans k6;have x2:((wr.alloc (.cells (QU #[.bool false] Z) 4)).alloc (.cells #[.slice (some ⟨wr.heap.size,0,none⟩) Z Z] 80)).cell? ⟨w.heap.size+1,263,none⟩=some (.slice va m aL):=(LC (w:=wr) (a:=⟨w.heap.size+1,263,none⟩) ((MA _ _ _ (by simp;omega)).trans (MA _ _ _ hJ))).trans k6;have rT:∀q,(MY va m aL).ownBlock=some q->w.heap.size+2<=q/\q<wr.heap.size:=λ q hq=>D.o.rh.lt q hq
   go_region_law ((refine qJ (wr.drew.alloc (.cells (QU #[.bool false] Z) 4)) rfl (.tmp 26) (.tmp 33) 129 rfl (w.heap.size+1+1) 80 (.slice none 0 0) 1 24 underlying129 eH rfl (by decide) (by decide) _ m (Rc s aI hbk m) [.slice (some ⟨wr.heap.size,0,none⟩) Z Z] _ (by simp[Act.eval]) (D.o.rh.drew.alloc _) (wr.heap.size+1) (by simp) (by simp[Act.eval]) rfl (by simp[MG]) (by omega) (by simp;omega) ?_;intro g4 cap4 w4 hG I A3 O7;have e4:w4.heap[w.heap.size+1]?=wr.heap[w.heap.size+1]? :=((I.block (w.heap.size+1) (by simp;omega) (λ e=>by have:=rT _ e.symm;omega)).trans (MA _ _ _ (by simp;omega))).trans (MA _ _ _ hJ);have m3:=(LC (w:=wr) (a:=⟨w.heap.size+1,263,none⟩) e4).trans k6;have n3:=(LP (w:=wr) (a:=⟨w.heap.size+1,263,none⟩) e4).trans f6;have N1:=fV (D.o.drew.more B1.o hG I (A3.imp id (λ h=>h.trans (by simp))));have H4:QP (Bl w w4):=(((Ez aW.o).alloc (by have:=aW.o.size;show w.heap.size<=wr.heap.size;omega) _).alloc (by have:=aW.o.size;simp;omega) _).grown I (by have:=aW.o.size;simp;omega) (λ q hq=>by have:=rT q hq;omega)))
   all_goals
    go_wp2;go_roundw
    case rel=>exact⟨m+1,_,_,by go_num,bC,N1.o,H4.o.setCell (p:=⟨w.heap.size+1,263,none⟩) (NJ _) _⟩
    case measure=>simp[QO];omega
  ·have e:m=M:=by omega
   subst e;have hd:=dF m m (by omega)
   obtain⟨hg,bH,X⟩:=o6.done (by rw[EM.o];exact D.o) (by rw[EM.o];exact O0.1);have tL:=fV X;clear X D;go_wp2_with fail
   go_loopg [12] (aI.size+1) (λ gk _ wr=>∃(p c n:Nat)(H T:List (Int×Int×Int)) (HT:Nat->Nat->Bool) (vt:tV),p<=aI.size/\aI.size-p<gk/\c<m/\n<=p*300/\T.length<=p/\pU s aI c0=yP s aI gk p c H n T/\
    CW wr (w.heap.size+1) wr.heap.size s aI bb vg aU yb zb vt hg bH hbk HT c p n T/\J2 s aI H HT/\zB s aI H/\Bl w wr)
   case atStart=>exact⟨0,c0,0,[],[],λ _ _=>false,.slice none 0 0,zL,by omega,by omega,by omega,by simp,rfl,tL.o,BK _ _,λ _ _ _ h=>absurd h (OH),aW.o⟩
   case round=>
    obtain⟨p,c,n,H,T,HT,vt,hp,O9,hc,hn,hT,eS,X,rO,bS,hb⟩:=hrel;have eT:=fV eS;have V:=fV X;have E6:=fV rO;have sR:=fV bS;have F:=fV hb;clear eS X rO bS hb tL aW;have k3:=V.o.k3;by_cases bC:p<aI.size
    ·have hP:c<iM s:=by rw[EM.o];exact hc
     have bM:=Vq s aI (w.heap.size+1) bb vg aU yb zb vt hg bH hbk HT c p n H T wr HI.o A1 hp hP (by omega) E6.o V.o;have U:=Sh (c:=c) sR.o hp;have hE:=Wo (c:=c) sR.o hp;have H5:= @Q7 s aI c p H;have hK:=yC HI.o hP hp (aI:=aI);obtain⟨f,rfl⟩:∃f,gk=f+1:=⟨gk-1,by omega⟩
     have eL:= @vX s aI f p c n H T bC;have bT:=λ r q=> @wB s aI f p c n r q H T bC
     unfold Tk at bM;generalize iE s aI c H p=SF at*;obtain⟨SL,kk⟩:=SF;generalize nX s aI c H (aI.size-p) 0 p none=best at*;simp only at*;have H0:decide ((p:Int)<(aI.size:Int))=true:=by simp;omega
     have H1:=fV hE
     cases best with
     | none=>
      simp only at U;have HE:QP (pU s aI c0=(T++[(-1,(p:Int),(p:Int))],n+kk,c)):=eT.o.trans (eL U);clear U hE hK eL bT;go_wp2_with fail;refine bM.mono ?_;rintro e w1 ⟨rfl,bO,eN,Y,aT⟩;have bK:=fV Y;have bN:=fV (F.o.trans (bO.mono (NJ _)));clear Y aT bO bM k3 V F;have k3:=bK.o.k3;go_wp2_with fail;refine(U0 s aI (w.heap.size+1) bb vg aU yb zb vt hg bH hbk eN c p (n+kk) T (-1) (p:Int) _ (by omega) bK.o).mono ?_;rintro e w2 ⟨rfl,cF,hL,Q⟩;have aO:=fV Q;have aR:=fV (bN.o.trans (cF.mono (NJ _)));clear Q cF bK bN k3;have k2:=aO.o.k2;have k4:=aO.o.k4;have k5:=aO.o.k5;go_wp2;go_quiet (fail);go_wp2;go_ret3;refine⟨hL,by rw[HE.o];rfl,by rw[HE.o];exact aO.o.rt,⟨aR.o.os,aR.o.tape,aR.o.output,aR.o.size,aR.o.block⟩⟩
     | some x=>
      obtain⟨r,q⟩:=x;simp only at U;have hx:r<iR s/\p<q/\q<=aI.size:=by
       rcases hK with h1|⟨r',q',h1,h2,h3,h4⟩
       ·rw[U]at h1;injection h1 with h1 _;omega
       ·rw[U]at h1;injection h1 with h5 h6;have h7:r=r':=by omega
        rw[h7,h6];exact⟨h2,h3,h4⟩
      have HE:=fV (eT.o.trans (bT r q U));have B2:=vV HI.o hx.1;rw[EM.o]at B2;clear U hE hK eL bT;obtain⟨tk,eM⟩:∃tk:Nat,tk=Ni (some (r,q)):=⟨_,rfl⟩
      obtain⟨tq,hF⟩:∃tq:Nat,tq=KO p (some (r,q)):=⟨_,rfl⟩
      rw[<-eM,<-hF]at bM;have O3:(tk:Int)-1=(r:Int):=by rw[eM];simp[Ni]
      have O6:((tk:Int)==0)=false:=by rw[aC,eM];simp only[Ni];omega
      have L1:QP (tq=q):=hF;have P0:r<=8:=by have:=(lC HI.o).1;omega
      clear eM hF;have O8:tk<=9:=by omega
      go_wp2_with fail;refine bM.mono ?_;rintro e w1 ⟨rfl,bO,eN,Y,aT⟩;have bK:=fV Y;have N0:=fV aT;have bN:=fV (F.o.trans (bO.mono (NJ _)));clear Y aT bO bM k3 V F;go_wp2_with fail;refine(Ut s aI (w.heap.size+1) bb vg aU yb zb vt hg bH hbk eN c p (n+kk) T r tq _ HI.o hx.1 (by omega) bK.o).mono ?_;rintro e w2 ⟨rfl,cF,hL,Q⟩;have aO:=fV Q;have aR:=fV (bN.o.trans (cF.mono (NJ _)));clear Q cF bK bN;rw[L1.o]at aO;go_wp2;go_roundg f
      case measure=>omega
      case rel=>
       refine⟨q,_,_,_,_,eN,hL,hx.2.2,by omega,?_,?_,?_,HE.o,aO.o,N0.o,H1.o,aR.o⟩
       ·split<;>omega
       ·omega
       ·split
        ·omega
        ·simp;omega
    ·have HE:QP (pU s aI c0=(T,n,c)):=by
      obtain⟨f,rfl⟩:∃f,gk=f+1:=⟨gk-1,by omega⟩
      exact eT.o.trans (yS bC)
     have H0:decide ((p:Int)<(aI.size:Int))=false:=by simp;omega
     have k2:=V.o.k2;have k4:=V.o.k4;have k5:=V.o.k5;go_wp2;go_quiet (fail);go_wp2;go_ret3;refine⟨vt,by rw[HE.o];rfl,by rw[HE.o];exact V.o.rt,⟨F.o.os,F.o.tape,F.o.output,F.o.size,F.o.block⟩⟩
end
structure CT(w:tW)(cb lo:Nat)(s:tB)(c bb vg aU:Nat)(yb:Nat->Nat)(zb:Nat->Nat->Nat):Prop where
 ok:iF s=true
 sz:s.size<=120000
 hc:c<iM s
 mem:IM w s bb vg yb zb cb
 il:KZ s bb vg yb zb lo
 im:w.rangeAt cb 0 (nT (.slice (some ⟨bb,0,none⟩) (iR s) (iR s)) (gM s) (.slice (some ⟨vg,0,none⟩) (iM s) aU))
 k1:w.cell? ⟨cb,258,none⟩=some (.int .i64 c)
 fz:∀i,w.frozen? ⟨cb,i,none⟩=false
 b0:cb<w.heap.size
 b1:lo<=cb
theorem CT.blocks{w w':tW}{s:tB}{yb:Nat->Nat}{zb:Nat->Nat->Nat}(h:CT w cb lo s c bb vg aU yb zb)(o:∀k,lo<=k->k<=cb->w'.heap[k]?=w.heap[k]?)(I:w.heap.size<=w'.heap.size):CT w' cb lo s c bb vg aU yb zb:=
 ⟨h.ok,h.sz,h.hc,h.mem.blocks h.il (λ k C F=>o k C (MU F)),h.il,λ j v D=>(LC (w:=w) (a:=⟨cb,0+j,none⟩) (o cb h.b1 lR)).trans (h.im j v D),
  (LC (w:=w) (a:=⟨cb,258,none⟩) (o cb h.b1 lR)).trans h.k1,λ i=>(LP (w:=w) (a:=⟨cb,i,none⟩) (o cb h.b1 lR)).trans (h.fz i),LJ h.b0 I,h.b1⟩
theorem fP:((Tryz.prog.info? 154).map (·.zero))=some (some (.agg NT)):=by kernel_rfl
theorem dP:Tryz.zeroCells154.size=259:=by kernel_rfl
theorem dO:NT[258]?=some (.int .i64 0):=by kernel_rfl
theorem dU:Tryz.zeroCells154.all (·.oneCell')=true:=by kernel_rfl
theorem eI:(match Tryz.prog.underlying 154 with
  | some (.struct fs)=>fs.toList.mapM (λ f=>(Tryz.prog.info? f.type).map λ i=>(f.offset,i.size))
  | _=>none)=some [(0,258),(258,1)]:=by kernel_rfl
theorem fJ(bA:List (Nat×tV)):Tryz.prog.built 154 bA=Instr.fill ([(0,258),(258,1)].toArray[·]?) NT bA:=by
 have C:=fP;have o:=eI;generalize NT=Z at*;unfold Program.built
 cases hi:Tryz.prog.info? 154 with
 | none=>rw[hi]at C;cases C
 | some it=>
  rw[hi]at C;have D:it.zero=some (.agg Z):=by simpa using C
  cases hu:Tryz.prog.underlying 154 with
  | none=>rw[hu]at o;cases o
  | some d=>
   rw[hu]at o
   cases d with
   | struct fs=>
    simp only at o;simp only[D,o,PU]
   | _=>cases o
theorem Vg(A:Array tV)(Q:A.size=258)(o:A.all (·.oneCell')=true):∃C:Array tV,Tryz.prog.built 154 [(0,.agg A)]=some C/\C.size=259/\C.all (·.oneCell')=true/\
  (∀k,k<258->C[k]?=A[k]?)/\C[258]?=some (.int .i64 0):=by
 have I:=dP;have U:=dO;have X:=dU;rw[fJ];generalize NT=Z at*;obtain⟨V,F⟩:=R9 0 A Z;refine⟨A.zipIdx.foldl (λ cs x=>cs.setIfInBounds (0+x.2) x.1) Z,?_,by rw[V,I],?_,λ k Y=>?_,?_⟩
 ·have J:(QM A).cells=A:=rfl;unfold Instr.fill;simp only[PT,NK,J,Q,I];rw[aA (by decide)];unfold Instr.fill
  rfl
 ·rw[OX];intro i hi;have D:=OV hi;rw[F]at D;generalize (A.zipIdx.foldl (λ cs x=>cs.setIfInBounds (0+x.2) x.1) Z)[i]=u at*;split at D
  ·exact D9 o D
  ·exact D9 X D
 ·rw[F,aB (by omega)];rfl
 ·rw[F,aA (by omega)];exact U
def GF(w:tW)(s:tB)(e:Ending)(w':tW):Prop:=
 Bl w w'/\((¬(s.size<=120000/\iF s=true)/\e=.returned (.tuple #[.pointer none,.int .i64 (G5 s)]))\/(s.size<=120000/\iF s=true/\
  ∃(cb bb vg aU:Nat)(yb:Nat->Nat)(zb:Nat->Nat->Nat),e=.returned (.tuple #[.pointer (some ⟨cb,0,none⟩),.int .i64 0])/\CT w' cb w.heap.size s 0 bb vg aU yb zb))
theorem Fz(s:tB)(w:tW):
  RA LK 90 #[.string s] w λ e w'=>GF w s e w':=by
 go_enter func90,ntmps90;go_wp2_with fail;refine(E2 s _).mono ?_;by_cases D:s.size<=120000/\iF s=true
 ·rintro e w1 ⟨U,⟨eR,_⟩|⟨_,hi,bb,vc,ys,rfl,hn,ho,hm,hc,hk⟩⟩
  ·exact absurd D eR
  obtain⟨vg,aJ,yb,zb,rfl,bS,bM⟩:=Mw hi hn ho hm hc hk;have Q:=nY (.slice (some ⟨bb,0,none⟩) (jU s) (jU s)) (gM s) (.slice (some ⟨vg,0,none⟩) (iM s) aJ) (by unfold gM;rw[lN];rfl);have Y:=yD (vb:= .slice (some ⟨bb,0,none⟩) (jU s) (jU s)) (vc:= .slice (some ⟨vg,0,none⟩) (iM s) aJ) (cs:=gM s) rfl rfl;obtain⟨IL,aT⟩:=xE (nT (.slice (some ⟨bb,0,none⟩) (jU s) (jU s)) (gM s) (.slice (some ⟨vg,0,none⟩) (iM s) aJ))
  rw[aT]at Q Y ⊢;have aW:QP (IL.toArray.toList=IL):=by unfold QP;simp
  have F:QP (IL.toArray.size=258):=by unfold QP;simpa using Q
  have X:QP (IL.toArray.all (·.oneCell')=true):=QS Y;obtain⟨A,EA⟩:=xE (IL.toArray)
  rw[EA]at aW F X ⊢;have HA:QP (A.toList=nT (.slice (some ⟨bb,0,none⟩) (iR s) (iR s)) (gM s) (.slice (some ⟨vg,0,none⟩) (iM s) aJ)):=by
   unfold QP;rw[aW.o,<-aT,(D5 hi).ru]
  have eL:=fV bS;have eM:=fV bM;have HI:=fV hi;have I:=fV U;have aO:=fV D;obtain⟨C,bT,bN,bK,cP,cF⟩:=Vg A F.o X.o;have eS:=fV bT;have hA:=fV bN;have hB:=fV bK;clear aT Q Y EA aW bS hi U hn ho hm hc D bM hk bT bN bK;have aL:=fV (iD w1 LF 72 w1.heap.size 258 bL rfl);have J:QP (Bl w1 ((w1.alloc (.cells LF 72)).setCells w1.heap.size 0 A.toList)):=fX _ 0 _ w1.heap.size (bR.alloc lR _) lR;have gL:QP (((w1.alloc (.cells LF 72)).setCells w1.heap.size 0 A.toList).rangeAt w1.heap.size 0 A.toList):=LY _ _ _ _ (by rw[LU,F.o];exact aL.o);have cN:QP (IM ((w1.alloc (.cells LF 72)).setCells w1.heap.size 0 A.toList) s bb vg yb zb ((w1.alloc (.cells LF 72)).setCells w1.heap.size 0 A.toList).heap.size):=(eL.o.below J.o lR).mono J.o.size;have bC:QP (Bl w ((w1.alloc (.cells LF 72)).setCells w1.heap.size 0 A.toList)):=I.o.trans (J.o.mono I.o.size);generalize aR:(w1.alloc (.cells LF 72)).setCells w1.heap.size 0 A.toList=w2 at*;replace aR:=fV aR;clear eL I J;have eT:=fV cP;have eX:=fV cF;clear cP cF;go_wp2_with (first
   | (refine QR rfl 72 (.tmp 4) (.tmp 9) rfl w1.heap.size 0 A rfl rfl ?_ ?_ X.o ?_;(rw[F.o];exact aL.o);(rw[F.o];exact bP);rw[aR.o])
   | (refine QQ rfl 72 (.tmp 4) rfl w1.heap.size 0 rfl A.toList _ gL.o MO rfl ?_ ?_;(rw[LU,F.o];exact bP);rw[Array.toArray_toList])
   | (refine wpList_buildTo rfl 154 _ rfl _ rfl C ?_ ?_;(simp only[OZ,NO,PY];exact eS.o))
   | (refine wpList_boxTo rfl 154 (.tmp 15) rfl _ rfl w2.heap.size rfl C rfl ?_)
   | fail)
  go_ret2;have hr:=mA w2 C 154;have bO:Bl w2 (w2.alloc (.cells C 154)):=bR.alloc lR _;have hz:=bC.o.size;have V:∀k v,C[k]?=some v->(w2.alloc (.cells C 154)).cell? ⟨w2.heap.size,k,none⟩=some v:=λ k v hv=>by
   have:=hr k v (by simpa using hv);rw[LM]at this;exact this
  refine⟨bC.o.trans (bO.mono hz),.inr ⟨aO.o.1,aO.o.2,w2.heap.size,bb,vg,aJ,yb,zb,rfl,aO.o.2,aO.o.1,(lC HI.o).2.2.1,cN.o.below bO lR,eM.o,?_,V _ _ eX.o,λ i=>by rw[MJ],by simp,hz⟩⟩;intro j u hu;have hj:j<258:=by
   have:=(LI.1 hu).1;rw[nY _ _ _ (by unfold gM;rw[lN];rfl)]at this;exact this
  rw[LM];refine V j u ((eT.o j hj).trans ?_);rw[<-HA.o]at hu;simpa using hu
 ·have eN:((G5 s:Int) !=0)=true:=by
   rw[aD];unfold G5;by_cases h1:120000<s.size
   ·rw[aB h1];decide
   ·have h2:¬iF s=true:=λ h=>D ⟨by omega,h⟩
    rw[aA h1,aA h2];decide
  have eO:=fV D;rintro e w1 ⟨U,⟨_,rfl⟩|⟨h1,h2,_⟩⟩
  ·have I:=fV U;have aL:=fV (iD w1 LF 72 w1.heap.size 258 bL rfl);have J:QP (Bl w1 ((w1.alloc (.cells LF 72)).setCells w1.heap.size 0 Tryz.zeroCells72.toList)):=fX _ 0 _ w1.heap.size (bR.alloc lR _) lR;clear U D;obtain⟨ck,Z⟩:=xE (G5 s)
   rw[Z]at eN ⊢;replace Z:=fV Z;go_wp2_with (first
    | (refine QR rfl 72 (.tmp 4) (.tmp 9) rfl w1.heap.size 0 LF rfl rfl ?_ ?_ bZ ?_;(rw[bL];exact aL.o);(rw[bL];exact bP))
    | fail)
   go_ret2;exact⟨I.o.trans (J.o.mono I.o.size),.inl ⟨eO.o,by rw[Z.o];rfl⟩⟩
  ·exact absurd ⟨h1,h2⟩ D
theorem cJ:(Tryz.prog.info? 234).map (λ i=>(i.zero,i.size,i.bytes))=some (some (.agg #[.int .i64 0,.int .i64 0,.int .i64 0]),3,24):=by kernel_rfl
theorem CC(s aI:tB)(B b g aJ c p cb aH n:Nat)(H T:List (Int×Int×Int))(vh vt:tV)(w:tW)(hi:iF s=true)(hs:s.size<=120000)(A0:aI.size<=300)(hp:p<=aI.size)(hc:c<iM s)
  (hH:H.length<=100000) (hn:n<=100000)
  (hw:sF w B b g aJ s) (hB:B<=cb) (hcut:jG w cb aH w.heap.size b aI c H n T vh vt):
  RA LK 119 #[.pointer (some ⟨cb,0,none⟩),.int .i64 p] w λ e w'=>
   e=.returned (.tuple #[])/\Below cb w w'/\∃qL,jG w' cb aH w'.heap.size b aI c (H++(iE s aI c H p).1) (n+(iE s aI c H p).2) T qL vt:=by
 have HL:QP (iE s aI c H p=pB s aI c H (aI.size-p) 0 p [] 0):=rfl;have hX:=hcut.hb;have tL:=hcut.hbt;go_enter func119,ntmps119;go_wp2_with fail
 go_loopw [4,5,6] (λ x y z wr=>∃(st i k:Nat)(S:List (Int×Int×Int)) (sv:tV),sv=y/\x=.int .i64 st/\z=.int .i64 i/\st<qW s c/\p<=i/\i<=aI.size/\k<=i-p/\S.length<=i-p/\
   iE s aI c H p=pB s aI c H (aI.size-i) st i S k/\(S=[]->sv=.slice none 0 0)/\wr.ownsRow w.heap.size 234 3 sv S.length (hZ S)/\
   jG wr cb aH w.heap.size b aI c H (n+k) T vh vt/\Below cb w wr)
  (λ _ _ z _=>aI.size-(QO z).toNat)
 case atStart=>exact⟨0,p,0,[],_,rfl,rfl,rfl,(L7 hi hc).2,lR,hp,by omega,by simp,HL.o,λ _=>rfl,LS _ _ _ _,hcut,bR⟩
 case round=>
  obtain⟨st,i,k,S,sv,rfl,rfl,rfl,hL,tT,sR,hk,hS,cN,eX,bO,I,bM⟩:=hrel;have HK:QP (iE s aI c H p=pB s aI c H (aI.size-i) st i S k):=cN;have HN:QP (S=[]->sv=.slice none 0 0):=eX;clear cN eX;have k1:=I.c1;have k2:=I.c2;have k3:=I.c3;have rL:=I.hz;by_cases hG:i<aI.size
  ·have cF:QP (jG (wr.alloc (.cells #[.int .i64 (c:Int),.int .i64 (st:Int),.int .i64 (i:Int)] 234)) cb aH w.heap.size b aI c H (n+k) T vh vt):=I.below (bR.alloc rL _);have eN:QP ((wr.alloc (.cells #[.int .i64 (c:Int),.int .i64 (st:Int),.int .i64 (i:Int)] 234)).ownsRow w.heap.size 234 3 sv S.length (hZ S)):=bO.alloc _;have eR:QP (Below cb w (wr.alloc (.cells #[.int .i64 (c:Int),.int .i64 (st:Int),.int .i64 (i:Int)] 234))):=bM.alloc (by omega) _;have g0:(wr.alloc (.cells #[.int .i64 (c:Int),.int .i64 (st:Int),.int .i64 (i:Int)] 234)).cell? ⟨wr.heap.size,0,none⟩=some (.int .i64 (c:Int)):=by rw[LO];rfl
   have g1:(wr.alloc (.cells #[.int .i64 (c:Int),.int .i64 (st:Int),.int .i64 (i:Int)] 234)).cell? ⟨wr.heap.size,1,none⟩=some (.int .i64 (st:Int)):=by rw[LO];rfl
   have g2:(wr.alloc (.cells #[.int .i64 (c:Int),.int .i64 (st:Int),.int .i64 (i:Int)] 234)).cell? ⟨wr.heap.size,2,none⟩=some (.int .i64 (i:Int)):=by rw[LO];rfl
   have gz:(wr.alloc (.cells #[.int .i64 (c:Int),.int .i64 (st:Int),.int .i64 (i:Int)] 234)).heap.size=wr.heap.size+1:=by simp
   go_wp2_with fail;generalize wr.alloc (.cells #[.int .i64 (c:Int),.int .i64 (st:Int),.int .i64 (i:Int)] 234)=W at*;clear k1 k2 k3 I bO bM;have k3:=cF.o.c3;have HR:QP (AZ W W.heap.size vh H):=mZ cF.o.rh;have eS:cb<W.heap.size:=by omega
   have bT:wr.heap.size<W.heap.size:=by omega
   cases hkn:sS H ((c:Int),(st:Int),(i:Int))with
   | true=>
    go_region_held3 (λ w'=>w'.cell? ⟨cb,3,none⟩=some vh/\w'.cell? ⟨wr.heap.size,0,none⟩=some (.int .i64 (c:Int))/\w'.cell? ⟨wr.heap.size,1,none⟩=some (.int .i64 (st:Int))/\w'.cell? ⟨wr.heap.size,2,none⟩=some (.int .i64 (i:Int))) (go_keep)
     (first|(go_at_call 124;refine(Tu H vh _ _ _ _ (by omega) ?_).mono ?_;exact⟨HR.o.sh⟩;rintro e w2 ⟨rfl,F⟩;replace F:=G8 F;have j3:=(F.cell (p:=⟨cb,3,none⟩) eS).trans k3;have j0:=(F.cell (p:=⟨wr.heap.size,0,none⟩) bT).trans g0;have j1:=(F.cell (p:=⟨wr.heap.size,1,none⟩) bT).trans g1;have j2:=(F.cell (p:=⟨wr.heap.size,2,none⟩) bT).trans g2))
    have HX:QP (iE s aI c H p=(S,k)):=by
     have e:aI.size-i=(aI.size-i-1)+1:=by omega
     unfold QP;rw[HK.o,e];exact zV hkn
    have C:QP (jG w2 cb aH w.heap.size b aI c H (n+k) T vh vt):=cF.o.below (F.mono (by show w.heap.size<=W.heap.size;omega));have eM:QP (w2.ownsRow w.heap.size 234 3 sv S.length (hZ S)):=rD eN.o F lR;have aW:QP (Below cb w w2):=eR.o.trans (F.mono (by show cb<=W.heap.size;omega));have hJ:QP (S=[]->sv=.slice none 0 0):=HN;clear cF eN eR g0 g1 g2 k3 j0 j1 j2 j3 HR F HK;have qR:=hX;rcases(show S=[]\/0<S.length from by cases S with
     | nil=>exact .inl rfl
     | cons a r=>exact .inr (by simp))with U|U
    ·have hK:=hJ.o U;subst hK;rcases iL C.o.rh with rfl|⟨gv,cv,rfl⟩
     all_goals
      have t3:=C.o.c3;have lH:=C.o.fz 3;go_wp2_with (first|(at_builtin;refine Ai w2 rfl (.tmp 80) (.tmp 81) 222 rfl aH 234 (.agg #[.int .i64 0,.int .i64 0,.int .i64 0]) 3 24 NH cJ _ H.length (hZ H) rfl C.o.rh rfl ?_))
      go_end0
      have J:=C.o.again3.raise;refine⟨rfl,aW.o.setCell (p:=⟨cb,3,none⟩) lR _,?_⟩;rw[HX.o,U,OP];exact⟨_,J⟩
    ·have t3:=C.o.c3;have hW:=C.o.hz;go_wp2_with (first|(at_builtin;refine xS w2 rfl (.tmp 80) (.tmp 81) 222 rfl aH w.heap.size 234 (.agg #[.int .i64 0,.int .i64 0,.int .i64 0]) 3 24 NH cJ rfl (by decide) (by decide) vh H.length (hZ H) sv S.length (hZ S) rfl C.o.rh rfl eM.o (zG _) U (by omega) (by omega) ?_;intro g3 eT w3 Q D X Z;obtain⟨Y,aL⟩:=C.o.kept (λ k hk=>(C.o.rh.lt k hk).1) D;have m3:=Y 3 _ t3;have hU:=aL 3;clear Y aL))
     go_end0
     refine⟨rfl,(aW.o.grown D (by omega) (λ k hk=>by have:=(C.o.rh.lt k hk).1;omega)).setCell (p:=⟨cb,3,none⟩) lR _,?_⟩;rw[HX.o];have J:=C.o.hope rfl Q D X Z;exact⟨_,J.raise⟩
   | false=>
    go_region_held3 (λ w'=>w'.cell? ⟨cb,3,none⟩=some vh/\w'.cell? ⟨wr.heap.size,0,none⟩=some (.int .i64 (c:Int))/\w'.cell? ⟨wr.heap.size,1,none⟩=some (.int .i64 (st:Int))/\w'.cell? ⟨wr.heap.size,2,none⟩=some (.int .i64 (i:Int))) (go_keep)
     (first|(go_at_call 124;refine(Tu H vh _ _ _ _ (by omega) ?_).mono ?_;exact⟨HR.o.sh⟩;rintro e w2 ⟨rfl,F⟩;replace F:=G8 F;have j3:=(F.cell (p:=⟨cb,3,none⟩) eS).trans k3;have j0:=(F.cell (p:=⟨wr.heap.size,0,none⟩) bT).trans g0;have j1:=(F.cell (p:=⟨wr.heap.size,1,none⟩) bT).trans g1;have j2:=(F.cell (p:=⟨wr.heap.size,2,none⟩) bT).trans g2))
    have cP:QP (jG w2 cb aH w.heap.size b aI c H (n+k) T vh vt):=cF.o.below (F.mono (by show w.heap.size<=W.heap.size;omega));have hD:QP (w2.ownsRow w.heap.size 234 3 sv S.length (hZ S)):=rD eN.o F lR;have hQ:QP (Below cb w w2):=eR.o.trans (F.mono (by show cb<=W.heap.size;omega));have hR:=cP.o.hz;clear cF eN eR g0 g1 g2 k3 j3 HR F;obtain⟨N,hN⟩:=xE (n+k)
    rw[hN]at cP;have hA:QP (n+k=N):=hN;have rO:N<=101000:=by omega
    clear hN;have q4:=cP.o.c4;go_wp2_with (first|(at_builtin;refine gB w2 rfl (.tmp 34) (.tmp 36) 222 rfl w.heap.size 234 (.agg #[.int .i64 0,.int .i64 0,.int .i64 0]) 3 24 NH cJ rfl (by decide) (by decide) sv S.length (hZ S) [.int .i64 (c:Int),.int .i64 (st:Int),.int .i64 (i:Int)] _ rfl hD.o _ rfl rfl rfl (by simp[MG]) (by omega) (by omega) ?_;intro g4 cap4 w4 eL bN hY hT;have gL:=lU (MZ w.heap.size w2) hR hD.o lR bN;have eO:QP (jG w4 cb aH w.heap.size b aI c H N T vh vt):=cP.o.below gL;have r4:=eO.o.c4;have f4:=eO.o.fz 4;clear j0 j1 j2 q4));have V:QP (jG (w4.setCell ⟨cb,4,none⟩ (.int .i64 ((N:Int)+1))) cb aH w.heap.size b aI c H (N+1) T vh vt):=eO.o.step1;have bS:QP ((w4.setCell ⟨cb,4,none⟩ (.int .i64 ((N:Int)+1))).ownsRow w.heap.size 234 3 (.slice (some ⟨g4,0,none⟩) (S.length+1) cap4) (S.length+1) (hZ (S++[uG c st i]))):=by
     rw[Y8];exact QN eL (by show cb<w.heap.size;omega) _
    have bC:QP (Below cb w (w4.setCell ⟨cb,4,none⟩ (.int .i64 ((N:Int)+1)))):=(hQ.o.trans (gL.mono (by omega))).setCell (p:=⟨cb,4,none⟩) lR _;generalize w4.setCell ⟨cb,4,none⟩ (.int .i64 ((N:Int)+1))=w5 at*;clear eO cP hD hQ eL bN hY hT gL r4 f4 hR;have aT:=hw.below bC.o hB;have q0:=V.o.c0;have q1:=V.o.c1;have q2:=V.o.c2;have sW:=kM aI i hG;have hM:=mT aI i;have tO:(0:Int)<=(i:Int)/\(i:Int)<(aI.size:Int):=by omega
    have hP:QP (aI.size-i=(aI.size-i-1)+1):=by unfold QP;omega
    by_cases aO:iA s c st (bt aI i)=255
    ·have hC:I2 s c st (bt aI i)= -1:=by unfold I2;rw[aB aO]
     have HX:QP (iE s aI c H p=(S++[uG c st i],k+1)):=by
      unfold QP;rw[HK.o,hP.o];exact xU hkn aO
     have bK:QP (∀q,RA LK 125 #[.pointer (some ⟨b,0,none⟩),.int .i64 c,.int .i64 st,.int .u8 (bt aI i)] (w5.drewN q) λ e w'=>e=.returned (.int .i64 (I2 s c st (bt aI i)))/\∃m,w'=(w5.drewN q).drewN m):=λ q=>Cg s B b g aJ c st (bt aI i) (w5.drewN q) hi hs hc hL hM (aT.drewN q)
     go_quiet ((go_at_call 125;exact RA.quiet_of (bK.o _)));have C:QP (jG (w5.drewN nq) cb aH w.heap.size b aI c H (n+(k+1)) T vh vt):=by
      have e:n+(k+1)=N+1:=by have:=hA.o;omega
      rw[e];exact V.o.drewN nq
     have eM:QP ((w5.drewN nq).ownsRow w.heap.size 234 3 (.slice (some ⟨g4,0,none⟩) (S.length+1) cap4) (S++[uG c st i]).length (hZ (S++[uG c st i]))):=by
      rw[LR];exact bS.o
     have aW:QP (Below cb w (w5.drewN nq)):=_root_.Go.below_drewN bC.o nq;have U:0<(S++[uG c st i]).length:=by simp
     have rT:(S++[uG c st i]).length<=301:=by simp;omega
     generalize S++[uG c st i]=S5 at*;generalize w5.drewN nq=w6 at*;clear V bS bC aT q0 q1 q2 bK HK;have t3:=C.o.c3;have hW:=C.o.hz;go_wp2_with (first|(at_builtin;refine xS w6 rfl (.tmp 80) (.tmp 81) 222 rfl aH w.heap.size 234 (.agg #[.int .i64 0,.int .i64 0,.int .i64 0]) 3 24 NH cJ rfl (by decide) (by decide) vh H.length (hZ H) _ S5.length (hZ S5) rfl C.o.rh rfl eM.o (zG _) U (by omega) (by omega) ?_;intro g3 eT w3 Q D X Z;obtain⟨Y,aL⟩:=C.o.kept (λ k hk=>(C.o.rh.lt k hk).1) D;have m3:=Y 3 _ t3;have hU:=aL 3;clear Y aL))
     go_end0
     refine⟨rfl,(aW.o.grown D (by omega) (λ k hk=>by have:=(C.o.rh.lt k hk).1;omega)).setCell (p:=⟨cb,3,none⟩) lR _,?_⟩;rw[HX.o];have J:=C.o.hope rfl Q D X Z;exact⟨_,J.raise⟩
    ·have hC:I2 s c st (bt aI i)=(iA s c st (bt aI i):Int):=by unfold I2;rw[aA aO]
     have bK:QP (∀q,RA LK 125 #[.pointer (some ⟨b,0,none⟩),.int .i64 c,.int .i64 st,.int .u8 (bt aI i)] (w5.drewN q) λ e w'=>e=.returned (.int .i64 (iA s c st (bt aI i):Int))/\∃m,w'=(w5.drewN q).drewN m):=λ q=>by
      rw[<-hC];exact Cg s B b g aJ c st (bt aI i) (w5.drewN q) hi hs hc hL hM (aT.drewN q)
     clear hC;have ht:=Jf hi hc hL hM;have nN:QP (0<jO s c (iA s c st (bt aI i))->iE s aI c H p=pB s aI c H (aI.size-(i+1)) (iA s c st (bt aI i)) (i+1) [] (k+1)):=by
      intro hm;rw[HK.o,hP.o];exact C0 hkn aO hm
     have nL:QP (jO s c (iA s c st (bt aI i))=0->iE s aI c H p=pB s aI c H (aI.size-(i+1)) (iA s c st (bt aI i)) (i+1) (S++[uG c st i]) (k+1)):=by
      intro hm;rw[HK.o,hP.o];exact K6 hkn aO hm
     generalize iA s c st (bt aI i)=t at*;have ht:t<qW s c:=by omega
     by_cases hm:0<jO s c t
     ·go_quiet ((go_at_call 125;exact RA.quiet_of (bK.o _)));have aR:QP (jG (w5.drewN nq) cb aH w.heap.size b aI c H (N+1) T vh vt):=V.o.drewN nq;have hV:QP ((w5.drewN nq).ownsRow w.heap.size 234 3 (.slice (some ⟨g4,0,none⟩) (S.length+1) cap4) (S.length+1) (hZ (S++[uG c st i]))):=bS.o;have hE:QP (Below cb w (w5.drewN nq)):=_root_.Go.below_drewN bC.o nq;have hF:QP (sF (w5.drewN nq) B b g aJ s):=aT.drewN nq;generalize w5.drewN nq=w6 at*;clear V bS bC aT q0 q1 q2 bK HK;have q0:=aR.o.c0;have q2:=aR.o.c2;have hI:QP (∀q,RA LK 126 #[.pointer (some ⟨b,0,none⟩),.int .i64 c,.int .i64 t] (w6.drewN q) λ e w'=>e=.returned (.int .i64 (jO s c t:Int))/\∃m,w'=(w6.drewN q).drewN m):=λ q=>
       M6 s B b g aJ c t (w6.drewN q) hi hs hc ht (hF.o.drewN q)
      go_wp2_with fail;go_quiet ((go_at_call 126;exact RA.quiet_of (hI.o _)));go_wp2;go_roundw
      case rel=>
       refine⟨t,i+1,k+1,[],.slice none 0 0,rfl,rfl,by go_num,ht,by omega,hG,by omega,by simp,nN.o hm,λ _=>rfl,LS _ _ _ _,?_,?_⟩
       ·have e:n+(k+1)=N+1:=by have:=hA.o;omega
        rw[e];exact aR.o.drewN _
       ·exact _root_.Go.below_drewN hE.o _
      case measure=>simp[QO];omega
     ·have iN:jO s c t=0:=by omega
      go_quiet ((go_at_call 125;exact RA.quiet_of (bK.o _)));have aR:QP (jG (w5.drewN nq) cb aH w.heap.size b aI c H (N+1) T vh vt):=V.o.drewN nq;have hV:QP ((w5.drewN nq).ownsRow w.heap.size 234 3 (.slice (some ⟨g4,0,none⟩) (S.length+1) cap4) (S.length+1) (hZ (S++[uG c st i]))):=bS.o;have hE:QP (Below cb w (w5.drewN nq)):=_root_.Go.below_drewN bC.o nq;have hF:QP (sF (w5.drewN nq) B b g aJ s):=aT.drewN nq;generalize w5.drewN nq=w6 at*;clear V bS bC aT q0 q1 q2 bK HK;have q0:=aR.o.c0;have q2:=aR.o.c2;have hI:QP (∀q,RA LK 126 #[.pointer (some ⟨b,0,none⟩),.int .i64 c,.int .i64 t] (w6.drewN q) λ e w'=>e=.returned (.int .i64 (jO s c t:Int))/\∃m,w'=(w6.drewN q).drewN m):=λ q=>
       M6 s B b g aJ c t (w6.drewN q) hi hs hc ht (hF.o.drewN q)
      go_wp2_with fail;go_quiet ((go_at_call 126;exact RA.quiet_of (hI.o _)));go_wp2;go_roundw
      case rel=>
       refine⟨t,i+1,k+1,S++[uG c st i],_,rfl,rfl,by go_num,ht,by omega,hG,by omega,by simp;omega,nL.o iN,λ h=>by simp at h,?_,?_,?_⟩
       ·rw[LR];exact hV.o
       ·have e:n+(k+1)=N+1:=by have:=hA.o;omega
        rw[e];exact aR.o.drewN _
       ·exact _root_.Go.below_drewN hE.o _
      case measure=>simp[QO];omega
  ·have HX:QP (iE s aI c H p=(S,k)):=by
    have e:aI.size-i=0:=by omega
    unfold QP;rw[HK.o,e];rfl
   have C:QP (jG wr cb aH w.heap.size b aI c H (n+k) T vh vt):=I;have eM:QP (wr.ownsRow w.heap.size 234 3 sv S.length (hZ S)):=bO;have aW:QP (Below cb w wr):=bM;have hJ:QP (S=[]->sv=.slice none 0 0):=HN;clear I bO bM HK k2 k3;have qR:=hX;rcases(show S=[]\/0<S.length from by cases S with
    | nil=>exact .inl rfl
    | cons a r=>exact .inr (by simp))with U|U
   ·have hK:=hJ.o U;subst hK;rcases iL C.o.rh with rfl|⟨gv,cv,rfl⟩
    all_goals
     have t3:=C.o.c3;have lH:=C.o.fz 3;go_wp2_with (first|(at_builtin;refine Ai wr rfl (.tmp 80) (.tmp 81) 222 rfl aH 234 (.agg #[.int .i64 0,.int .i64 0,.int .i64 0]) 3 24 NH cJ _ H.length (hZ H) rfl C.o.rh rfl ?_))
     go_end0
     have J:=C.o.again3.raise;refine⟨rfl,aW.o.setCell (p:=⟨cb,3,none⟩) lR _,?_⟩;rw[HX.o,U,OP];exact⟨_,J⟩
   ·have t3:=C.o.c3;have hW:=C.o.hz;go_wp2_with (first|(at_builtin;refine xS wr rfl (.tmp 80) (.tmp 81) 222 rfl aH w.heap.size 234 (.agg #[.int .i64 0,.int .i64 0,.int .i64 0]) 3 24 NH cJ rfl (by decide) (by decide) vh H.length (hZ H) sv S.length (hZ S) rfl C.o.rh rfl eM.o (zG _) U (by omega) (by omega) ?_;intro g3 eT w3 Q D X Z;obtain⟨Y,aL⟩:=C.o.kept (λ k hk=>(C.o.rh.lt k hk).1) D;have m3:=Y 3 _ t3;have hU:=aL 3;clear Y aL))
    go_end0
    refine⟨rfl,(aW.o.grown D (by omega) (λ k hk=>by have:=(C.o.rh.lt k hk).1;omega)).setCell (p:=⟨cb,3,none⟩) lR _,?_⟩;rw[HX.o];have J:=C.o.hope rfl Q D X Z;exact⟨_,J.raise⟩
theorem Ub(s aI:tB)(B b g aJ c cb aH:Nat)(vh vt:tV)(w:tW)(hi:iF s=true)(hs:s.size<=120000)(hC:aI.size<=300)(hc:c<iM s)
  (hw:sF w B b g aJ s) (hB:B<=cb) (hcut:jG w cb aH w.heap.size b aI c [] 0 [] vh vt):
  RA LK 112 #[.pointer (some ⟨cb,0,none⟩)] w λ e w'=>
   e=.returned (.tuple #[])/\Below cb w w'/\(pU s aI c).2.2<iM s/\∃H hG hE,jG w' cb aH w'.heap.size b aI (pU s aI c).2.2 H (pU s aI c).2.1 (pU s aI c).1 hG hE:=by
 have HL:QP (pU s aI c=yP s aI (aI.size+1) 0 c [] 0 []):=rfl;have hU:=hcut.hb;have hQ:=hcut.hbt;go_enter func112,ntmps112;go_wp2_with fail
 go_loopw [2] (λ x wr=>∃(p F n:Nat)(H T:List (Int×Int×Int)) (vh vt:tV),x=.int .i64 p/\p<=aI.size/\F<iM s/\H.length<=300*p/\n<=300*p/\T.length<=p/\
   pU s aI c=yP s aI (aI.size-p+1) p F H n T/\jG wr cb aH wr.heap.size b aI F H n T vh vt/\Below cb w wr)
  (λ x _=>aI.size-(QO x).toNat)
 case atStart=>exact⟨0,c,0,[],[],vh,vt,rfl,zL,hc,by simp,by omega,by simp,HL.o,hcut,bR⟩
 case round=>
  obtain⟨p,F,n,H,T,eS,Y,rfl,hp,bK,hH,hn,hT,eL,aW,cP⟩:=hrel;have HR:QP (pU s aI c=yP s aI (aI.size-p+1) p F H n T):=eL;have HC:QP (jG wr cb aH wr.heap.size b aI F H n T eS Y):=aW;have cN:QP (Below cb w wr):=cP;have k1:=aW.c1;clear eL aW cP;by_cases eN:p<aI.size
  ·go_wp2_with fail;refine(CC s aI B b g aJ F p cb aH n H T eS Y _ hi hs hC hp bK (by omega) (by omega) (hw.below cN.o hB) hB HC.o).mono ?_;rintro e w2 ⟨rfl,eX,aT,bO⟩;have V:QP (jG w2 cb aH w2.heap.size b aI F (H++(iE s aI F H p).1) (n+(iE s aI F H p).2) T aT Y):=bO;have aL:QP (Below cb w w2):=cN.o.trans eX;clear bO eX HC cN k1;have hI:=Q7 (s:=s) (aI:=aI) (c:=F) (p:=p) (H:=H);have aO:QP (sF w2 B b g aJ s):=hw.below aL.o hB;have q0:=V.o.c0;have q1:=V.o.c1;have q2:=V.o.c2;have Z:QP (∀q,RA LK 120 #[.pointer (some ⟨b,0,none⟩),.string aI,.int .i64 p,.int .i64 F] (w2.drewN q) λ e w'=>e=.returned (.tuple #[.int .i64 (Fk s aI F p).1,.int .i64 (Fk s aI F p).2])/\∃m,w'=(w2.drewN q).drewN m):=λ q=>
    Ki s aI B b g aJ F p (w2.drewN q) hi hs hC hp bK (aO.o.drewN q)
   rcases yC hi bK hp with eM|⟨r,q,cF,hr,hR,hq⟩
   ·have HX:QP (pU s aI c=(T++[(-1,(p:Int),(p:Int))],n+(iE s aI F H p).2,F)):=by
     unfold QP;rw[HR.o];exact vX eN eM
    rw[eM]at Z;clear eM HR;go_wp2_with fail;go_quiet ((go_at_call 120;exact RA.quiet_of (Z.o _)));have C:QP (jG (w2.drewN nq) cb aH (w2.drewN nq).heap.size b aI F (H++(iE s aI F H p).1) (n+(iE s aI F H p).2) T aT Y):=(V.o.drewN nq).raise;have bC:QP (Below cb w (w2.drewN nq)):=_root_.Go.below_drewN aL.o nq;have bM:QP (sF (w2.drewN nq) B b g aJ s):=aO.o.drewN nq;generalize w2.drewN nq=w3 at*;clear V aL aO q0 q1 q2 Z;have bS:=C.o.hbt;have r5:=C.o.c5;go_wp2_with (first|(at_builtin;refine gB w3 rfl (.tmp 39) (.tmp 43) 29 rfl aH 79 (.agg #[.int .i64 0,.int .i64 0,.int .i64 0]) 3 24 MW cH rfl (by decide) (by decide) Y T.length (hZ T) [.int .i64 (-1),.int .i64 (p:Int),.int .i64 (p:Int)] _ rfl C.o.rt _ rfl rfl rfl (by simp[MG]) (by omega) (by omega) ?_;intro g4 cap4 w4 I D J aR;have X:=C.o.tell (x:=(-1,(p:Int),(p:Int))) I D J aR;have X:=sP X;obtain⟨Q,U⟩:=(C.o.below (bR.alloc C.o.hz _)).kept (λ k hk=>(C.o.rt.lt k hk).1) D;have m5:=Q 5 _ ((C.o.below (bR.alloc C.o.hz _)).c5);have eO:=U 5;have m2:=Q 2 _ ((C.o.below (bR.alloc C.o.hz _)).c2);have gL:=U 2;have bT:=sP ((lU bC.o (by omega) C.o.rt (by omega) D).setCell (p:=⟨cb,5,none⟩) lR (.slice (some ⟨g4,0,none⟩) (T.length+1) cap4));clear Q U I D J r5));refine bodyPost_ret (results_none rfl _ _ _) rfl ?_;rw[HX.o];exact⟨rfl,bT.o,bK,_,_,_,X.o.raise⟩
   ·have HX:QP (pU s aI c=yP s aI (aI.size-q+1) q (if 1<nA s r then nA s r-2 else F) (H++(iE s aI F H p).1) (n+(iE s aI F H p).2) (if nA s r=1 then T else T++[((r:Int),(p:Int),(q:Int))])):=by
     unfold QP;rw[HR.o,wB eN cF];exact Ym hi _ _ (by have:=vV hi hr;split<;>omega) (by omega) (by omega)
    rw[cF]at Z;have hD:=vV hi hr;have hN:=(lC hi).1;have hK:=(lC hi).2.2.2.2;have hM:=(lC hi).2.2.2.1;have hP:(s[4+r]).toNat=nA s r:=kM s (4+r) (by omega);have hJ:((r:Int)== -1)=false:=aC.2 (by omega);clear cF HR;generalize nA s r=t at*;by_cases hA:t=1
    ·subst hA;go_wp2_with fail;go_quiet ((go_at_call 120;exact RA.quiet_of (Z.o _)));have C:QP (jG (w2.drewN nq) cb aH (w2.drewN nq).heap.size b aI F (H++(iE s aI F H p).1) (n+(iE s aI F H p).2) T aT Y):=(V.o.drewN nq).raise;have bC:QP (Below cb w (w2.drewN nq)):=_root_.Go.below_drewN aL.o nq;have bM:QP (sF (w2.drewN nq) B b g aJ s):=aO.o.drewN nq;generalize w2.drewN nq=w3 at*;clear V aL aO q0 q1 q2 Z;have bS:=C.o.hbt;have r5:=C.o.c5;have x0:=C.o.c0;have i0:=bM.o.c0;go_wp2;go_roundw
     case rel=>
      refine⟨q,F,_,_,T,aT,Y,rfl,hq,bK,?_,?_,by omega,HX.o,C.o,bC.o⟩
      ·rw[LR];omega
      ·omega
     case measure=>simp[QO];omega
    ·have hL:((t:Int) !=1)=true:=by rw[aD];omega
     have eT:(if t=1 then T else T++[((r:Int),(p:Int),(q:Int))])=T++[((r:Int),(p:Int),(q:Int))]:=aA hA;rw[eT]at HX;clear eT;by_cases eR:1<t
     ·obtain⟨u,hu⟩:∃u,t=u+2:=⟨t-2,by omega⟩
      have bN:(if 1<t then t-2 else F)=u:=by rw[aB eR];omega
      rw[bN]at HX;clear bN;have hS:((t:Int)-2)=(u:Int):=by omega
      have hF:u<iM s:=by omega
      clear hu;go_wp2_with fail;go_quiet ((go_at_call 120;exact RA.quiet_of (Z.o _)));have C:QP (jG (w2.drewN nq) cb aH (w2.drewN nq).heap.size b aI F (H++(iE s aI F H p).1) (n+(iE s aI F H p).2) T aT Y):=(V.o.drewN nq).raise;have bC:QP (Below cb w (w2.drewN nq)):=_root_.Go.below_drewN aL.o nq;have bM:QP (sF (w2.drewN nq) B b g aJ s):=aO.o.drewN nq;generalize w2.drewN nq=w3 at*;clear V aL aO q0 q1 q2 Z;have bS:=C.o.hbt;have r5:=C.o.c5;have x0:=C.o.c0;have i0:=bM.o.c0;go_wp2_with (first|(at_builtin;refine gB w3 rfl (.tmp 63) (.tmp 68) 29 rfl aH 79 (.agg #[.int .i64 0,.int .i64 0,.int .i64 0]) 3 24 MW cH rfl (by decide) (by decide) Y T.length (hZ T) [.int .i64 (r:Int),.int .i64 (p:Int),.int .i64 (q:Int)] _ rfl C.o.rt _ rfl rfl rfl (by simp[MG]) (by omega) (by omega) ?_;intro g4 cap4 w4 I D J aR;have X:=C.o.tell (x:=((r:Int),(p:Int),(q:Int))) I D J aR;have X:=sP X;obtain⟨Q,U⟩:=(C.o.below (bR.alloc C.o.hz _)).kept (λ k hk=>(C.o.rt.lt k hk).1) D;have m5:=Q 5 _ ((C.o.below (bR.alloc C.o.hz _)).c5);have eO:=U 5;have m2:=Q 2 _ ((C.o.below (bR.alloc C.o.hz _)).c2);have gL:=U 2;have bT:=sP ((lU bC.o (by omega) C.o.rt (by omega) D).setCell (p:=⟨cb,5,none⟩) lR (.slice (some ⟨g4,0,none⟩) (T.length+1) cap4));clear Q U I D J r5));go_roundw
      case rel=>
       refine⟨q,u,_,_,T++[((r:Int),(p:Int),(q:Int))],aT,_,rfl,hq,hF,?_,?_,?_,HX.o,(X.o.bE u).raise,bT.o.setCell (p:=⟨cb,2,none⟩) lR _⟩
       ·rw[LR];omega
       ·omega
       ·simp;omega
      case measure=>simp[QO];omega
     ·have bN:(if 1<t then t-2 else F)=F:=aA eR;rw[bN]at HX;clear bN;go_wp2_with fail;go_quiet ((go_at_call 120;exact RA.quiet_of (Z.o _)));have C:QP (jG (w2.drewN nq) cb aH (w2.drewN nq).heap.size b aI F (H++(iE s aI F H p).1) (n+(iE s aI F H p).2) T aT Y):=(V.o.drewN nq).raise;have bC:QP (Below cb w (w2.drewN nq)):=_root_.Go.below_drewN aL.o nq;have bM:QP (sF (w2.drewN nq) B b g aJ s):=aO.o.drewN nq;generalize w2.drewN nq=w3 at*;clear V aL aO q0 q1 q2 Z;have bS:=C.o.hbt;have r5:=C.o.c5;have x0:=C.o.c0;have i0:=bM.o.c0;go_wp2_with (first|(at_builtin;refine gB w3 rfl (.tmp 63) (.tmp 68) 29 rfl aH 79 (.agg #[.int .i64 0,.int .i64 0,.int .i64 0]) 3 24 MW cH rfl (by decide) (by decide) Y T.length (hZ T) [.int .i64 (r:Int),.int .i64 (p:Int),.int .i64 (q:Int)] _ rfl C.o.rt _ rfl rfl rfl (by simp[MG]) (by omega) (by omega) ?_;intro g4 cap4 w4 I D J aR;have X:=C.o.tell (x:=((r:Int),(p:Int),(q:Int))) I D J aR;have X:=sP X;obtain⟨Q,U⟩:=(C.o.below (bR.alloc C.o.hz _)).kept (λ k hk=>(C.o.rt.lt k hk).1) D;have m5:=Q 5 _ ((C.o.below (bR.alloc C.o.hz _)).c5);have eO:=U 5;have m2:=Q 2 _ ((C.o.below (bR.alloc C.o.hz _)).c2);have gL:=U 2;have bT:=sP ((lU bC.o (by omega) C.o.rt (by omega) D).setCell (p:=⟨cb,5,none⟩) lR (.slice (some ⟨g4,0,none⟩) (T.length+1) cap4));clear Q U I D J r5));go_roundw
      case rel=>
       refine⟨q,F,_,_,T++[((r:Int),(p:Int),(q:Int))],aT,_,rfl,hq,bK,?_,?_,?_,HX.o,X.o.raise,bT.o⟩
       ·rw[LR];omega
       ·omega
       ·simp;omega
      case measure=>simp[QO];omega
  ·have HX:QP (pU s aI c=(T,n,F)):=by
    unfold QP;rw[HR.o];exact yS eN
   go_wp2
   go_end0
   rw[HX.o];exact⟨rfl,cN.o,bK,_,_,_,HC.o⟩
theorem oX{w:tW}{base':Nat}{v:tV}{xs:List tV}(h:w.ownsRow aH e size v n xs)(I:base'<=aH):w.ownsRow base' e size v n xs:=by
 refine⟨h.1,?_⟩;rcases h.2 with C|⟨g,aJ,o,D,F,rest⟩
 ·exact .inl C
 ·exact .inr ⟨g,aJ,o,D,by omega,rest⟩
theorem jG.start(w:tW)(ib:Nat)(aI:tB)(c:Nat):
  jG (w.alloc (.cells #[.pointer (some ⟨ib,0,none⟩),.string aI,.int .i64 c,.slice none 0 0,.int .i64 0,.slice none 0 0] 224)) w.heap.size (w.heap.size+1) (w.alloc (.cells #[.pointer (some ⟨ib,0,none⟩),.string aI,.int .i64 c,.slice none 0 0,.int .i64 0,.slice none 0 0] 224)).heap.size ib aI c [] 0 [] (.slice none 0 0) (.slice none 0 0):=by
 have o:∀i v, #[Value.pointer (some ⟨ib,0,none⟩),.string aI,.int .i64 c,.slice none 0 0,.int .i64 0,.slice none 0 0][i]?=some v->
   (w.alloc (.cells #[.pointer (some ⟨ib,0,none⟩),.string aI,.int .i64 c,.slice none 0 0,.int .i64 0,.slice none 0 0] 224)).cell? ⟨w.heap.size,i,none⟩=some v:=λ i v h=>by
  rw[LO];exact h
 refine⟨o 0 _ rfl,o 1 _ rfl,o 2 _ rfl,o 3 _ rfl,o 4 _ rfl,o 5 _ rfl,λ i=>by rw[MJ],LS _ _ _ _,LS _ _ _ _,by omega,lR,by simp,λ k C=>by simp[MF]at C,λ k C=>by simp[MF]at C,.inl rfl⟩
theorem Zw(s aI:tB)(w:tW)(hs:s.size<=QZ)(aR:aI.size<=QZ):
  RA LK 88 #[.string s,.string aI] w λ e w'=>
   ∃v,e=.returned (.tuple #[v,.int .i64 (pE s aI).2.1,.int .i64 (pE s aI).2.2])/\w'.ownsRow w.heap.size 79 3 v (pE s aI).1.length (hZ (pE s aI).1)/\Bl w w':=by
 unfold QZ at hs aR;by_cases Q:120000<s.size\/300<aI.size
 ·have J:pE s aI=([],0,1):=by unfold pE;rw[aB Q]
  rw[J];clear J;by_cases F:120000<s.size
  ·clear Q;go_enter func88,PH;go_wp2;go_ret3;exact⟨_,rfl,LS _ _ _ _,bR⟩
  ·have Y:300<aI.size:=by omega
   clear Q;go_enter func88,PH;go_wp2;go_ret3;exact⟨_,rfl,LS _ _ _ _,bR⟩
 ·have F:s.size<=120000:=by omega
  have Y:aI.size<=300:=by omega
  cases hi:iF s with
  | false=>
   have J:pE s aI=([],0,5):=by unfold pE;rw[aA Q,aA (by rw[hi];decide)]
   rw[J];clear J Q;go_enter func88,PH;go_wp2_with (go_at_call 111;refine(yM s _ F).mono ?_;rintro e w1 ⟨v,rfl,Z,_⟩);go_ret3;exact⟨_,rfl,LS _ _ _ _,Z⟩
  | true=>
   have J:pE s aI=((pU s aI 0).1,(pU s aI 0).2.1,0):=by unfold pE;rw[aA Q,aB hi]
   rw[J];clear J Q;have hm:=(lC hi).2.2.1;go_enter func88,PH;go_wp2_with fail;refine(yM s _ F).mono ?_;rintro e w1 ⟨v,rfl,Z,D⟩;obtain⟨rfl,va,vs,D⟩:=D hi;obtain⟨g,aJ,X⟩:=D.rd hm;have U:=sP Z;clear D Z;rw[hi];go_wp2_with fail;have hcut:=jG.start w1 w.heap.size aI 0;have I:=X.below ((MZ w1.heap.size w1).alloc lR (.cells #[.pointer (some ⟨w.heap.size,0,none⟩),.string aI,.int .i64 0,.slice none 0 0,.int .i64 0,.slice none 0 0] 224)) lR;refine(Ub s aI w1.heap.size w.heap.size g aJ 0 w1.heap.size (w1.heap.size+1) (.slice none 0 0) (.slice none 0 0) _ hi F Y (by omega) I lR hcut).mono ?_;rintro e w2 ⟨rfl,aO,_,H,vh,vt,C⟩;have k4:=C.c4;have k5:=C.c5;have aL:=sP C;have V:=U.o.size;clear hcut X I C;go_wp2_with fail;go_quiet (fail);go_wp2;go_ret3;refine⟨vt,rfl,oX aL.o.rt (by omega),_root_.Go.below_drewN ?_ _⟩;have h1:=(U.o.alloc V (.cells #[.pointer (some ⟨w.heap.size,0,none⟩),.string aI,.int .i64 0,.slice none 0 0,.int .i64 0,.slice none 0 0] 224))
   exact h1.trans (aO.mono V)
section
def Ig(X:tW)(v:tV):Array tV:=match v with
 | .pointer (some a)=>((MH 258).map λ i=>(X.cell? ⟨a.block,i,none⟩).getD undef).toArray
 | _=> #[]
def Na(X:tW)(v:tV):Prop:=∃B cs,v=.pointer (some ⟨B,0,none⟩)/\cs.length=258/\X.rangeAt B 0 cs
theorem Dl{X:tW}{cs:List tV}(D:cs.length=258)(o:X.rangeAt B 0 cs):Ig X (.pointer (some ⟨B,0,none⟩))=cs.toArray:=by
 have e:((MH 258).map λ i=>(X.cell? ⟨B,i,none⟩).getD undef)=cs:=by
  refine List.ext_getElem (by simp[D]) (λ i F C=>?_);have:=o i cs[i] (LQ C);rw[LM]at this;simp[this]
 show((MH 258).map λ i=>(X.cell? ⟨B,i,none⟩).getD undef).toArray=cs.toArray;rw[e]
theorem eW{d:Option Tmp}{p:String}{I:Array Edge}{X:tW}{K:Act->tW->Prop}{Q:Exit->Act->tW->Prop}
  (h:Na X (a.eval x)):
  Oper.wp LK {dst:=d,op:= .load 72 x,type:=ty,pos:=p,after:=I,guard:=gd} a X K Q=K (a.put d (.agg (Ig X (a.eval x)))) X:=by
 obtain⟨B,cs,F,C,o⟩:=h;have D:=QY (P:=LK) X B 0 72 cs _ o MO rfl (by rw[C];exact bP);unfold Oper.wp execOp;simp only[F,Instr.loadAt,Instr.sureAddr,Sem.run_bind,Sem.run_pure,Result.andThen_ok,D,Dl C o]
 rfl
theorem Gh{w:tW}{s:tB}{yb:Nat->Nat}{zb:Nat->Nat->Nat}(h:CT w cb lo s c bb vg aU yb zb):
  RA LK 32 #[.pointer (some ⟨cb,0,none⟩)] w λ e w'=>e=.returned (.int .i64 c)/\w'=w:=by
 have o:=h.k1;clear h;go_enter func32,ntmps32;go_wp2;go_ret;exact⟨rfl,rfl⟩
theorem CT.setC{w:tW}{s:tB}{yb:Nat->Nat}{zb:Nat->Nat->Nat}(h:CT w cb lo s c bb vg aU yb zb)(C:Nat)(I:C<iM s):CT (w.setCell ⟨cb,258,none⟩ (.int .i64 (C:Int))) cb lo s C bb vg aU yb zb:=by
 have o:(nT (.slice (some ⟨bb,0,none⟩) (iR s) (iR s)) (gM s) (.slice (some ⟨vg,0,none⟩) (iM s) aU)).length=258:=nY _ _ _ (by unfold gM;rw[lN];rfl);refine⟨h.ok,h.sz,I,h.mem.blocks h.il (λ k _ F=>MQ w ⟨cb,258,none⟩ _ k (by intro e;subst e;exact Nat.lt_irrefl _ F)),h.il,λ j v D=>?_,LH _ _ _ h.k1,λ i=>by rw[LG];exact h.fz i,by have:=h.b0;simp[LN];omega,h.b1⟩;have J:j<258:=by rw[<-o];exact(LI.1 D).1
 rw[LD (h:=by intro e;injection e;omega)];exact h.im j v D
def EF(w:tW)(cb lo:Nat)(s aI:tB)(c bb vg aU:Nat)(yb:Nat->Nat)(zb:Nat->Nat->Nat)(e:Ending)(w':tW):Prop:=
 ∃vt,e=.returned (.tuple #[vt,.int .i64 0])/\w'.ownsRow w.heap.size 79 3 vt (pU s aI c).1.length (hZ (pU s aI c).1)/\
  CT w' cb lo s (pU s aI c).2.2 bb vg aU yb zb/\w.grownBy w' (some cb)
theorem Rw{w:tW}{aI:tB}(C:300<aI.size):
  RA LK 92 #[.pointer (some ⟨cb,0,none⟩),.string aI] w λ e w'=>e=.returned (.tuple #[.slice none 0 0,.int .i64 1])/\w'=w:=by
 have o:decide ((300:Int)<(aI.size:Int))=true:=by simp;omega
 go_enter func92,ntmps92;go_wp2;go_ret2;exact⟨rfl,rfl⟩
attribute [local go_sem ↓] Go.wp_at_zero Go.wp_at_succ eW
theorem Xb{w:tW}{s aI:tB}{yb:Nat->Nat}{zb:Nat->Nat->Nat}(h:CT w cb lo s c bb vg aU yb zb)(hl:aI.size<=300):
  RA LK 92 #[.pointer (some ⟨cb,0,none⟩),.string aI] w λ e w'=>EF w cb lo s aI c bb vg aU yb zb e w':=by
 have hd:decide ((300:Int)<(aI.size:Int))=false:=by simp;omega
 have Q:=fV h;have k1:=h.k1;have X:=h.b0;have D:(nT (.slice (some ⟨bb,0,none⟩) (iR s) (iR s)) (gM s) (.slice (some ⟨vg,0,none⟩) (iM s) aU)).length=258:=nY _ _ _ (by unfold gM;rw[lN];rfl);have Y:Na w.drew (.pointer (some ⟨cb,0,none⟩)):=⟨cb,_,rfl,D,h.im⟩
 have Z:Ig w.drew (.pointer (some ⟨cb,0,none⟩))=(nT (.slice (some ⟨bb,0,none⟩) (iR s) (iR s)) (gM s) (.slice (some ⟨vg,0,none⟩) (iM s) aU)).toArray:=Dl D h.im;have HA:QP ((nT (.slice (some ⟨bb,0,none⟩) (iR s) (iR s)) (gM s) (.slice (some ⟨vg,0,none⟩) (iM s) aU)).toArray.toList=nT (.slice (some ⟨bb,0,none⟩) (iR s) (iR s)) (gM s) (.slice (some ⟨vg,0,none⟩) (iM s) aU)):=by unfold QP;simp
 generalize (nT (.slice (some ⟨bb,0,none⟩) (iR s) (iR s)) (gM s) (.slice (some ⟨vg,0,none⟩) (iM s) aU)).toArray=A at*;clear D h;go_enter func92,ntmps92;go_wp2_with fail;go_region_with (go_at_call 25;refine(Kp s aI c bb vg aU yb zb A w.drew Q.o.ok hl Q.o.hc HA.o ((Q.o.mem.mono (MU X)).drewN 1)).mono ?_;rintro e w1 ⟨vt,rfl,F,C⟩)
 all_goals
  have I:QP (Bl w w1):=⟨C.os,C.tape,C.output,C.size,C.block⟩
  have aL:=fV F;have J:=fV (Q.o.blocks (w':=w1) (λ k _ hk=>I.o.block k (by omega)) I.o.size);have k2:=J.o.k1;have f2:=J.o.fz 258;have U:=Xo (aI:=aI) Q.o.ok Q.o.hc;have V:=fV U;clear F C U k1 Y Z;go_wp2;go_ret2;refine⟨vt,rfl,?_,J.o.setC _ V.o,lO (iQ I.o lR _) _ _⟩;exact oX (QN aL.o (by show cb<w.heap.size+1+1;omega) _) (by show w.heap.size<=w.heap.size+1+1;omega)
end
section
structure RF(w:tW)(rb lo ib g aJ:Nat)(s:tB)(c:Nat):Prop where
 rd:sF w rb ib g aJ s
 c0:w.cell? ⟨rb,0,none⟩=some (.pointer (some ⟨ib,0,none⟩))
 c1:w.cell? ⟨rb,1,none⟩=some (.int .i64 (c:Int))
 fz:w.frozen? ⟨rb,1,none⟩=false
 b0:rb<w.heap.size
 b1:lo<=ib/\lo<=g/\lo<=rb
theorem RF.blocks{w w':tW}{s:tB}(h:RF w rb lo ib g aJ s c)(C:∀k,lo<=k->k<=rb->w'.heap[k]?=w.heap[k]?)(Q:w.heap.size<=w'.heap.size):RF w' rb lo ib g aJ s c:=by
 obtain⟨J,I,V⟩:=h.b1;have D:=h.rd.hb;have hg:=h.rd.hg;have o:=C ib J (by omega);have U:=C g I (by omega);have F:=C rb V lR;exact⟨⟨(LC (w:=w) (a:=⟨ib,0,none⟩) o).trans h.rd.c0,(LC (w:=w) (a:=⟨ib,3,none⟩) o).trans h.rd.c3,(LC (w:=w) (a:=⟨ib,4,none⟩) o).trans h.rd.c4,(LC (w:=w) (a:=⟨ib,5,none⟩) o).trans h.rd.c5,λ i hi=>(LC (w:=w) (a:=⟨g,i,none⟩) U).trans (h.rd.at_ i hi),D,hg⟩,
  (LC (w:=w) (a:=⟨rb,0,none⟩) F).trans h.c0,(LC (w:=w) (a:=⟨rb,1,none⟩) F).trans h.c1,(LP (w:=w) (a:=⟨rb,1,none⟩) F).trans h.fz,LJ h.b0 Q,h.b1⟩
structure wV where
 cb:Nat
 lo:Nat
 bb:Nat
 vg:Nat
 aU:Nat
 yb:Nat->Nat
 zb:Nat->Nat->Nat
 rb:Nat
 lo2:Nat
 ib:Nat
 g:Nat
 aJ:Nat
 s:tB
 c:Nat
def wV.cells(t:wV):List tV:= [.pointer (some ⟨t.cb,0,none⟩),.pointer (some ⟨t.rb,0,none⟩)]
def Nu(l:List wV):List tV:=l.flatMap wV.cells
structure TW(w:tW)(O:Nat->Nat)(j:Nat)(t:wV):Prop where
 ct:CT w t.cb t.lo t.s t.c t.bb t.vg t.aU t.yb t.zb
 rf:RF w t.rb t.lo2 t.ib t.g t.aJ t.s t.c
 o1:∀k,t.lo<=k->k<=t.cb->O k=19+4*j
 o2:∀k,t.lo2<=k->k<=t.rb->O k=19+4*j
 ne:t.cb<t.lo2
def MK(w:tW)(O:Nat->Nat)(i:Nat)(v:tV):Prop:=
 ∃a n aJ,v=.slice a n aJ/\n<=2000/\(0<n->∃g,a=some ⟨g,0,none⟩/\g<w.heap.size/\O g=16+4*i/\
  ∀k,k<n->w.cell? ⟨g,k*3,none⟩=some (.int .i64 (-9))/\w.cell? ⟨g,k*3+1,none⟩=some (.int .i64 (i:Int))/\w.cell? ⟨g,k*3+2,none⟩=some (.int .i64 (-9)))
structure OT(w:tW)(O:Nat->Nat)(B t:Nat)(v:tV)(T:List (Int×Int×Int)):Prop where
 ro:w.ownsRow (B+1) 79 3 v T.length (hZ T)
 tg:∀k,v.ownBlock=some k->O k=t
 ln:T.length<=1000
variable {w w':tW}{O O':Nat->Nat}
theorem TW.keep{j:Nat}{t:wV}(h:TW w O j t)(F:w.heap.size<=w'.heap.size)(D:∀k,k<w.heap.size->O k=19+4*j->w'.heap[k]?=w.heap[k]? /\O' k=O k):TW w' O' j t:=by
 have I:=h.ct.b0;have J:=h.rf.b0;exact⟨h.ct.blocks (λ k o C=>(D k (by omega) (h.o1 k o C)).1) F,h.rf.blocks (λ k o C=>(D k (by omega) (h.o2 k o C)).1) F,
  λ k o C=>(D k (by omega) (h.o1 k o C)).2.trans (h.o1 k o C),λ k o C=>(D k (by omega) (h.o2 k o C)).2.trans (h.o2 k o C),h.ne⟩
theorem MK.keep{v:tV}(h:MK w O i v)(F:w.heap.size<=w'.heap.size)(V:∀k,k<w.heap.size->O k=16+4*i->w'.heap[k]?=w.heap[k]? /\O' k=O k):MK w' O' i v:=by
 obtain⟨a,n,aJ,e,J,Q⟩:=h;refine⟨a,n,aJ,e,J,λ D=>?_⟩;obtain⟨g,Y,hg,C,X⟩:=Q D;obtain⟨o,I⟩:=V g hg C;refine⟨g,Y,LJ hg F,I.trans C,λ k U=>?_⟩;obtain⟨x,y,z⟩:=X k U;exact⟨(LC (w:=w) (a:=⟨g,k*3,none⟩) o).trans x,(LC (w:=w) (a:=⟨g,k*3+1,none⟩) o).trans y,(LC (w:=w) (a:=⟨g,k*3+2,none⟩) o).trans z⟩
theorem OT.keep{t:Nat}{v:tV}{T:List (Int×Int×Int)}(h:OT w O B t v T)(C:∀k,k<w.heap.size->O k=t->w'.heap[k]?=w.heap[k]? /\O' k=O k):OT w' O' B t v T:=
 ⟨iH h.ro (λ k o=>(C k (h.ro.lt k o).2 (h.tg k o)).1),λ k o=>(C k (h.ro.lt k o).2 (h.tg k o)).2.trans (h.tg k o),h.ln⟩
structure PI(B p:Nat)(w:tW)(O:Nat->Nat)(cs:List wV)(vb:Nat->tV)(bc:Nat->List tV)(q:Nat)(T:Nat->List (Int×Int×Int)):Prop where
 wb:∀f,f<7->w.cell? ⟨B,f,none⟩=some (vb f)
 wz:∀i,w.frozen? ⟨B,i,none⟩=false
 wt:O B=1/\B<w.heap.size
 b0:w.ownsRow (B+1) 96 2 (vb 0) cs.length (Nu cs)
 bk:∀f,1<=f->f<7->w.ownsRow (B+1) 29 1 (vb f) (bc f).length (bc f)
 bt:∀f k,f<7->(vb f).ownBlock=some k->O k=2+f
 mm:∀f i v,1<=f->f<=4->i<p->(bc f)[i]?=some v->MK w O i v
 wa:∀j v,q<=j->(bc 5)[j]?=some v->OT w O B (17+4*j) v (T j)
 we:∀j v,q<=j->(bc 6)[j]?=some v->OT w O B (18+4*j) v (T j)
 cu:∀j t,cs[j]?=some t->TW w O j t
 fr:∀k,w.heap.size<=k->O k=0
 cl:∀(j:Nat)(t:wV),cs[j]?=some t->B<t.lo/\B<t.lo2
variable {B p q:Nat}{cs:List wV}{vb:Nat->tV}{bc:Nat->List tV}{T:Nat->List (Int×Int×Int)}
theorem PI.own(h:PI B p w O cs vb bc q T){f k:Nat}(C:f<7)(o:(vb f).ownBlock=some k):B+1<=k/\k<w.heap.size:=by
 by_cases e:f=0
 ·subst e;exact h.b0.lt k o
 ·exact(h.bk f (by omega) C).lt k o
theorem PI.keep(h:PI B p w O cs vb bc q T)(Q:w.heap.size<=w'.heap.size)(C:∀k,k<w.heap.size->O k≠0->w'.heap[k]?=w.heap[k]? /\O' k=O k)(D:∀k,w'.heap.size<=k->O' k=0):PI B p w' O' cs vb bc q T:=by
 obtain⟨o1,Y⟩:=h.wt;obtain⟨X,Z⟩:=C B Y (by omega);exact⟨λ f D=>(LC (w:=w) (a:=⟨B,f,none⟩) X).trans (h.wb f D),λ i=>(LP (w:=w) (a:=⟨B,i,none⟩) X).trans (h.wz i),⟨Z.trans o1,LJ Y Q⟩,
  iH h.b0 (λ k o=>(C k (h.own (by omega) o).2 (by have:=h.bt 0 k (by omega) o;omega)).1),
  λ f V I=>iH (h.bk f V I) (λ k o=>(C k (h.own I o).2 (by have:=h.bt f k I o;omega)).1),
  λ f k D o=>(C k (h.own D o).2 (by have:=h.bt f k D o;omega)).2.trans (h.bt f k D o),
  λ f i v V I hi J=>(h.mm f i v V I hi J).keep Q (λ k o U=>C k o (by omega)),
  λ j v F J=>(h.wa j v F J).keep (λ k o U=>C k o (by omega)),
  λ j v F J=>(h.we j v F J).keep (λ k o U=>C k o (by omega)),
  λ j t F=>(h.cu j t F).keep Q (λ k o U=>C k o (by omega)),D,h.cl⟩
theorem PI.below(h:PI B p w O cs vb bc q T)(C:Bl w w'):PI B p w' O cs vb bc q T:=
 h.keep C.size (λ k o _=>⟨C.block k o,rfl⟩) (λ k o=>h.fr k (NE C.size o))
theorem PI.draw(h:PI B p w O cs vb bc q T)(n:Nat):PI B p (w.drewN n) O cs vb bc q T:=h.below ⟨rfl,rfl,rfl,lR,λ _ _=>rfl⟩
theorem PI.push(h:PI B p w O cs vb bc q T){f:Nat}(h1:1<=f)(h2:f<7){w4:tW}{o:Obj}{g aJ:Nat}{v:tV}
  (Q:w4.ownsRow (B+1) 29 1 (.slice (some ⟨g,0,none⟩) ((bc f).length+1) aJ) ((bc f).length+1) (bc f++[v]))
  (Y:(w.alloc o).grownBy w4 (vb f).ownBlock) (bM:(vb f).ownBlock=some g\/g=w.heap.size+1)
  (hm:f<=4->(bc f).length<p->MK w O (bc f).length v) (h5:f=5->OT w O B (17+4*(bc 5).length) v (T (bc 5).length)) (h6:f=6->OT w O B (18+4*(bc 6).length) v (T (bc 6).length)):
  PI B p (w4.setCell ⟨B,f,none⟩ (.slice (some ⟨g,0,none⟩) ((bc f).length+1) aJ)) (λ k=>if k=g then 2+f else O k) cs (U7 vb f (.slice (some ⟨g,0,none⟩) ((bc f).length+1) aJ)) (U7 bc f (bc f++[v])) q T:=by
 obtain⟨o1,b1⟩:=h.wt;have bS:=Y.size;have ez:(w.alloc o).heap.size=w.heap.size+1:=by simp
 have bT:=(Q.lt g rfl).2;have bO:(w4.setCell ⟨B,f,none⟩ (.slice (some ⟨g,0,none⟩) ((bc f).length+1) aJ)).heap.size=w4.heap.size:=by simp[LN]
 have aW:g<w.heap.size->O g=2+f:=λ hg=>by
  rcases bM with e|e
  ·exact h.bt f g h2 e
  ·omega
 have F:∀k,k<w.heap.size->O k≠1->O k≠2+f->(w4.setCell ⟨B,f,none⟩ (.slice (some ⟨g,0,none⟩) ((bc f).length+1) aJ)).heap[k]?=w.heap[k]? /\(if k=g then 2+f else O k)=O k:=λ k D bC aO=>by
  have bK:k≠B:=λ e=>bC (by rw[e];exact o1)
  have aR:k≠g:=λ e=>aO (by rw[e];exact aW (by omega))
  refine⟨(iC w4 B f _ bK).trans ((Y.block k (by omega) (λ e=>aO (h.bt f k h2 e.symm))).trans (MA w o k D)),aA aR⟩
 have aL:w4.heap[B]?=w.heap[B]? :=(Y.block B (by omega) (λ e=>by have:=h.bt f B h2 e.symm;omega)).trans (MA w o B b1);have aT:g≠B:=by have:=(Q.lt g rfl).1;omega
 refine⟨λ f' J=>?_,λ i=>by rw[LG];exact(LP (w:=w) (a:=⟨B,i,none⟩) aL).trans (h.wz i),⟨(aA (Ne.symm aT)).trans o1,by omega⟩,?_,λ f' a1 V=>?_,λ f' k J D=>?_,λ f' i u a1 V Z C=>?_,λ j u X C=>?_,λ j u X C=>?_,λ j t X=>?_,λ k D=>?_,h.cl⟩
 ·by_cases e:f'=f
  ·subst e;rw[iX];exact LH _ _ _ ((LC (w:=w) (a:=⟨B,f',none⟩) aL).trans (h.wb f' J))
  ·rw[gZ _ _ e,LD (h:=by intro e';injection e';omega)];exact(LC (w:=w) (a:=⟨B,f',none⟩) aL).trans (h.wb f' J)
 ·rw[gZ _ _ (show 0≠f by omega)];exact iH h.b0 (λ k D=>(F k (h.own (by omega) D).2 (by have:=h.bt 0 k (by omega) D;omega) (by have:=h.bt 0 k (by omega) D;omega)).1)
 ·by_cases e:f'=f
  ·subst e;rw[iX,iX,LR,MI];exact QN Q (show B<B+1 by omega) _
  ·rw[gZ _ _ e,gZ _ _ e];exact iH (h.bk f' a1 V) (λ k D=>(F k (h.own V D).2 (by have:=h.bt f' k V D;omega) (by have:=h.bt f' k V D;omega)).1)
 ·by_cases e:f'=f
  ·subst e;rw[iX]at D;have bN:g=k:=by simpa[MF]using D
   rw[aB bN.symm]
  ·rw[gZ _ _ e]at D;have:=h.bt f' k J D;rw[(F k (h.own J D).2 (by omega) (by omega)).2];exact this
 ·have I:∀i u,MK w O i u->MK (w4.setCell ⟨B,f,none⟩ (.slice (some ⟨g,0,none⟩) ((bc f).length+1) aJ)) (λ k=>if k=g then 2+f else O k) i u:=λ i u U=>U.keep (by omega) (λ k D ho=>F k D (by omega) (by omega))
  by_cases e:f'=f
  ·subst e;rw[iX]at C;by_cases hi:i<(bc f').length
   ·rw[MS hi]at C;exact I i u (h.mm f' i u a1 V Z C)
   ·have hl:=(LI.1 C).1;rw[LR,MI]at hl;have ei:i=(bc f').length:=by omega
    subst ei;rw[MB lR,OF]at C;have eu:=sJ C
    subst eu;exact I _ _ (hm V Z)
  ·rw[gZ _ _ e]at C;exact I i u (h.mm f' i u a1 V Z C)
 ·have I:∀u j,OT w O B (17+4*j) u (T j)->OT (w4.setCell ⟨B,f,none⟩ (.slice (some ⟨g,0,none⟩) ((bc f).length+1) aJ)) (λ k=>if k=g then 2+f else O k) B (17+4*j) u (T j):=λ u j U=>U.keep (λ k D ho=>F k D (by omega) (by omega))
  by_cases e:5=f
  ·subst e;rw[iX]at C;by_cases hi:j<(bc 5).length
   ·rw[MS hi]at C;exact I u j (h.wa j u X C)
   ·have hl:=(LI.1 C).1;rw[LR,MI]at hl;have ei:j=(bc 5).length:=by omega
    subst ei;rw[MB lR,OF]at C;have eu:=sJ C
    subst eu;exact I _ _ (h5 rfl)
  ·rw[gZ _ _ e]at C;exact I u j (h.wa j u X C)
 ·have I:∀u j,OT w O B (18+4*j) u (T j)->OT (w4.setCell ⟨B,f,none⟩ (.slice (some ⟨g,0,none⟩) ((bc f).length+1) aJ)) (λ k=>if k=g then 2+f else O k) B (18+4*j) u (T j):=λ u j U=>U.keep (λ k D ho=>F k D (by omega) (by omega))
  by_cases e:6=f
  ·subst e;rw[iX]at C;by_cases hi:j<(bc 6).length
   ·rw[MS hi]at C;exact I u j (h.we j u X C)
   ·have hl:=(LI.1 C).1;rw[LR,MI]at hl;have ei:j=(bc 6).length:=by omega
    subst ei;rw[MB lR,OF]at C;have eu:=sJ C
    subst eu;exact I _ _ (h6 rfl)
  ·rw[gZ _ _ e]at C;exact I u j (h.we j u X C)
 ·exact(h.cu j t X).keep (by omega) (λ k D ho=>F k D (by omega) (by omega))
 ·rw[aA (by omega)];exact h.fr k (by omega)
end
section
theorem cM:(Tryz.prog.info? 29).map (λ i=>(i.zero,i.size,i.bytes))=some (some (.slice none 0 0),1,24):=by kernel_rfl
theorem yV{w w4:tW}{o:Obj}{D:Option Nat}(C:(w.alloc o).grownBy w4 D)(F:∀k,D=some k->B<=k)(Q:B<=w.heap.size):Below B w w4:=by
 have U:=C.size;have J:(w.alloc o).heap.size=w.heap.size+1:=by simp
 exact⟨C.os,C.tape,C.output,by omega,λ k I=>(C.block k (by omega) (λ e=>by have:=F k e.symm;omega)).trans (MA w o k (by omega))⟩
variable {B p q:Nat}{w w':tW}{O:Nat->Nat}{cs:List wV}{vb:Nat->tV}{bc:Nat->List tV}{T:Nat->List (Int×Int×Int)}
theorem PI.setT(h:PI B p w O cs vb bc q T){F:Nat->List (Int×Int×Int)}(D:∀j,j<(bc 5).length\/j<(bc 6).length->F j=T j):PI B p w O cs vb bc q F:=
 ⟨h.wb,h.wz,h.wt,h.b0,h.bk,h.bt,h.mm,λ j v C o=>by rw[D j (.inl (LI.1 o).1)];exact h.wa j v C o,λ j v C o=>by rw[D j (.inr (LI.1 o).1)];exact h.we j v C o,h.cu,h.fr,h.cl⟩
theorem PI.tag(h:PI B p w O cs vb bc q T){v:tV}(t:Nat)(o:∀k,v.ownBlock=some k->O k=0/\k<w.heap.size):PI B p w (λ k=>if v.ownBlock=some k then t else O k) cs vb bc q T:=
 h.keep lR (λ k _ D=>⟨rfl,aA (λ e=>D (o k e).1)⟩) (λ k C=>by
  have:¬v.ownBlock=some k:=λ e=>by have:=(o k e).2;omega
  simp only[aA this];exact h.fr k C)
theorem Sj(w:tW){ops:Array Oper}{o:Oper}{a:Act}{K:Act->tW->Prop}{Q:Exit->Act->tW->Prop}{E:Prop}(U:o.guard=none)(x:Operand)
  (ho:o.op=.call {callee:= .builtin .append,args:= #[.const (.slice none 0 0),x],argTypes:= #[29,29]})
  (aH:Nat) (v:tV) (n:Nat) (xs:List tV) (hx:a.eval x=v) (C:w.ownsRow aH 79 3 v n xs) (h1:∀u∈xs,u.oneCell'=true) (hn:n<=1000) (hb:aH<=w.heap.size)
  (h:∀u w',w'.ownsRow aH 79 3 u n xs->w.grownBy w' none->(∀k,u.ownBlock=some k->w.heap.size<=k)->K (a.put o.dst u) w'):
  if Region.wanted o (yielded ops a.tmps)=true then Oper.wp LK o a w K Q else E:=by
 obtain⟨i,hi,hz,D,aL⟩:=QT cH;have I:=C.1;by_cases h0:n=0
 ·subst h0;have hw:Region.wanted o (yielded ops a.tmps)=true:=by simp[Region.wanted,U]
  rw[aB hw];obtain⟨va,vc,hv⟩:=gA C;have V:xs=[]:=List.length_eq_zero_iff.1 (by omega);subst V;have J:(Builtin.append_ #[29,29] o.type #[.slice none 0 0,v]).run LK w=.ok (.slice none 0 0) w:=by
   subst hv;have hs:Src LK i.size 29 (.slice va 0 vc) 0 [] w:=by
    cases va with
    | none=>exact Src.ofNil w MW vc
    | some ad=>exact Src.ofSlice w MW ad 0 vc [] (by simp) (λ j u hu=>by simp at hu) (λ u hu=>by cases hu)
   have hc:=hs.cells;simp[Builtin.append_,run_underlying MW,sizeOf,typeInfo,hi,hs.len,hc]
  unfold Oper.wp;have he:a.eval (.const (.slice none 0 0))=.slice none 0 0:=rfl;simp[execOp,ho,resolve,invoke,builtin,he,hx,J,Result.andThen];exact h _ _ (LS _ _ _ _) (World.grownBy.refl _ _) (λ k Y=>by simp[MF]at Y)
 ·obtain⟨g,aJ,hv,aO,aT⟩:=C.form (by omega);subst hv;refine step_append_lies w U (.const (.slice none 0 0)) x 29 ho aH 79 i _ 3 24 MW hi hz D aL rfl (by decide) (.slice none 0 0) 0 [] rfl (LS _ _ _ _) ⟨g,0,none⟩ n aJ xs hx I (λ j u hj=>C.cells rfl j u hj) h1 (by omega) (by unfold QZ;omega) (by omega) hb w.heap.size rfl ?_;intro g4 cap4 w4 F Z X aR;rw[LM,OM]at F;rw[LM];refine h _ w4 F Z (λ k Y=>?_);rcases X with e|e
  ·cases e
  ·have:g4=k:=by simpa[MF]using Y
   omega
end
theorem JL{w:tW}{s aI:tB}{yb:Nat->Nat}{zb:Nat->Nat->Nat}(h:CT w cb lo s c bb vg aU yb zb):
  RA LK 92 #[.pointer (some ⟨cb,0,none⟩),.string aI] w λ e w'=>∃vt,e=.returned (.tuple #[vt,.int .i64 (CX aI)])/\w'.ownsRow w.heap.size 79 3 vt (Io s aI c).length (hZ (Io s aI c))/\
   CT w' cb lo s (IJ s aI c) bb vg aU yb zb/\w.grownBy w' (some cb):=by
 unfold Io CX IJ;by_cases o:300<aI.size
 ·rw[aB o,aB o,aB o];refine(Rw o).mono ?_;rintro e w' ⟨rfl,rfl⟩;exact⟨_,rfl,LS _ _ _ _,h,World.grownBy.refl _ _⟩
 ·rw[aA o,aA o,aA o];refine(Xb h (by omega)).mono ?_;rintro e w' ⟨vt,rfl,C,D,hg⟩;exact⟨vt,rfl,C,D,hg⟩
theorem JO{s:tB}(C:s.size<=120000)(o:iF s=true):G5 s=0:=by unfold G5;rw[aA (by omega),aB o]
theorem s7{s:tB}(h:¬(s.size<=120000/\iF s=true)):((G5 s:Int) !=0)=true:=by
 rw[aD];unfold G5;by_cases o:120000<s.size
 ·rw[aB o];decide
 ·rw[aA o];rw[aA (λ C=>h ⟨by omega,C⟩)];decide
theorem Gv(s:tB)(w:tW)(hs:s.size<=QZ):
  RA LK 91 #[.string s] w λ e w'=>Bl w w'/\((¬(s.size<=120000/\iF s=true)/\e=.returned (.tuple #[.pointer none,.int .i64 (G5 s)]))\/
   (s.size<=120000/\iF s=true/\∃rb ib g aJ,e=.returned (.tuple #[.pointer (some ⟨rb,0,none⟩),.int .i64 0])/\RF w' rb w.heap.size ib g aJ s 0)):=by
 by_cases J:s.size<=120000/\iF s=true
 ·obtain⟨h1,Z⟩:=J;have hc:=JO h1 Z;have hm:=(lC Z).2.2.1;have bM:=fV hc;go_enter func91,ntmps91;go_wp2_with fail;refine(Y0 s _ hs).mono ?_;rintro e w1 ⟨rfl,I⟩;have F:=fV I;rw[hc];clear I hc;go_wp2_with fail;refine(yM s _ h1).mono ?_;rintro e w2 ⟨v,rfl,U,C⟩;obtain⟨rfl,va,vs,C⟩:=C Z;have V:=fV (F.o.trans (U.mono F.o.size));have aO:=F.o.size;have aL:=U.size;obtain⟨g,aJ,aT,bC,bK⟩:=C.ra.form (by omega);subst aT;have Q:=C.ra.lt g rfl;have aR:QP (RF (w2.alloc (.cells #[.pointer (some ⟨w1.heap.size,0,none⟩),.int .i64 0] 100)) w2.heap.size w.heap.size w1.heap.size g aJ s 0):=by
   have Y:Bl w2 (w2.alloc (.cells #[.pointer (some ⟨w1.heap.size,0,none⟩),.int .i64 0] 100)):=bR.alloc lR _;have D:w1.heap.size<w2.heap.size:=by have:=C.hb;have:=C.hz;omega
   refine⟨⟨(Y.cell (p:=⟨w1.heap.size,0,none⟩) D).trans C.c0,(Y.cell (p:=⟨w1.heap.size,3,none⟩) D).trans C.c3,(Y.cell (p:=⟨w1.heap.size,4,none⟩) D).trans C.c4,(Y.cell (p:=⟨w1.heap.size,5,none⟩) D).trans C.c5,λ i hi=>?_,D,Q.2⟩,(PV _ _ _ 0 rfl).trans rfl,(PV _ _ _ 1 rfl).trans rfl,?_,by simp,⟨aO,by omega,by omega⟩⟩
   ·refine(Y.cell (p:=⟨g,i,none⟩) Q.2).trans ?_;have:=C.ra.cells (g:=g) rfl i (.int .i64 ((pC s i+1:Nat):Int)) (by unfold Z8;rw[MC,MM hi];rfl);have X:(⟨g,0,none⟩:Addr).add i=⟨g,i,none⟩:=by unfold Addr.add;split<;>simp_all
    rw[X]at this;exact this
   ·rw[MJ]
  have aW:QP (Bl w (w2.alloc (.cells #[.pointer (some ⟨w1.heap.size,0,none⟩),.int .i64 0] 100))):=V.o.alloc V.o.size _;clear C U Q aL;rw[Z];go_wp2;go_ret2;exact⟨aW.o,.inr ⟨h1,Z,_,_,_,_,rfl,aR.o⟩⟩
 ·have hc:=s7 J;have HN:=fV J;clear J;go_enter func91,ntmps91;go_wp2_with fail;refine(Y0 s _ hs).mono ?_;rintro e w1 ⟨rfl,I⟩;have F:=fV I;clear I;go_wp2;go_ret2;exact⟨F.o,.inl ⟨HN.o,rfl⟩⟩
theorem Xw{w:tW}{s aI:tB}(h:RF w rb lo ib g aJ s c)(hi:iF s=true)(hs:s.size<=120000)(hc:c<iM s):
  RA LK 93 #[.pointer (some ⟨rb,0,none⟩),.string aI] w λ e w'=>∃vt,e=.returned (.tuple #[vt,.int .i64 (CX aI)])/\w'.ownsRow w.heap.size 79 3 vt (Io s aI c).length (hZ (Io s aI c))/\
   RF w' rb lo ib g aJ s (IJ s aI c)/\w.grownBy w' (some rb):=by
 by_cases J:300<aI.size
 ·have hd:decide ((300:Int)<(aI.size:Int))=true:=by simp;omega
  have U:Io s aI c=[]:=by unfold Io;rw[aB J]
  have X:CX aI=1:=by unfold CX;rw[aB J]
  have e3:IJ s aI c=c:=by unfold IJ;rw[aB J]
  rw[U,X,e3];clear U X e3 J;go_enter func93,ntmps93;go_wp2;go_ret2;exact⟨_,rfl,LS _ _ _ _,h,World.grownBy.refl _ _⟩
 ·have hd:decide ((300:Int)<(aI.size:Int))=false:=by simp;omega
  have bK:aI.size<=300:=by omega
  have U:Io s aI c=(pU s aI c).1:=by unfold Io;rw[aA J]
  have X:CX aI=0:=by unfold CX;rw[aA J]
  have e3:IJ s aI c=(pU s aI c).2.2:=by unfold IJ;rw[aA J]
  rw[U,X,e3];clear U X e3 J;have Z:=fV h;have c0:=h.c0;have c1:=h.c1;clear h;go_enter func93,ntmps93;go_upto_region 3 with fail
  go_region
  have aO:=(Z.o.rd.below (B':=w.heap.size) ((MZ w.heap.size w).alloc lR (.cells #[.pointer (some ⟨ib,0,none⟩),.string aI,.int .i64 (c:Int),.slice none 0 0,.int .i64 0,.slice none 0 0] 224)) (MU Z.o.b0)).drewN 1;have hcut:=((jG.start w ib aI c).drewN 1).raise;have aL:QP (Bl w ((w.alloc (.cells #[.pointer (some ⟨ib,0,none⟩),.string aI,.int .i64 (c:Int),.slice none 0 0,.int .i64 0,.slice none 0 0] 224)).drewN 1)):=by
   have h:=(MZ w.heap.size w).alloc lR (.cells #[.pointer (some ⟨ib,0,none⟩),.string aI,.int .i64 (c:Int),.slice none 0 0,.int .i64 0,.slice none 0 0] 224);exact⟨h.os,h.tape,h.output,h.size,h.block⟩
  have bC:=Z.o.b0;clear c0 c1;go_wp2_with fail;refine(Ub s aI rb ib g aJ c w.heap.size (w.heap.size+1) (.slice none 0 0) (.slice none 0 0) _ hi hs bK hc aO (MU bC) hcut).mono ?_;rintro e w2 ⟨rfl,Y,bS,H,vh,vt,D⟩;obtain⟨Q,EC⟩:=xE ((pU s aI c).2.2)
  obtain⟨T,ET⟩:=xE ((pU s aI c).1)
  rw[EC,ET]at D;replace EC:=fV EC;replace ET:=fV ET;have F:=fV (aL.o.trans Y);have k2:=D.c2;have k5:=D.c5;have V:=fV D;have C:=fV (Z.o.blocks (w':=w2) (λ k _ I=>F.o.block k (by omega)) F.o.size);have d1:=C.o.c1;have f1:=C.o.fz;have bO:(w2.setCell ⟨rb,1,none⟩ (.int .i64 (Q:Int))).cell? ⟨w.heap.size,5,none⟩=some vt:=by
   rw[LD (h:=by intro e;injection e;omega)];exact k5
  have bM:QP ((w2.setCell ⟨rb,1,none⟩ (.int .i64 (Q:Int))).ownsRow w.heap.size 79 3 vt T.length (hZ T)):=oX (QN V.o.rt (show rb<w.heap.size+1 by omega) _) (NJ _);have aT:QP (RF (w2.setCell ⟨rb,1,none⟩ (.int .i64 (Q:Int))) rb lo ib g aJ s Q):=by
   have I:∀k,k≠rb->(w2.setCell ⟨rb,1,none⟩ (.int .i64 (Q:Int))).heap[k]?=w2.heap[k]? :=λ k I=>iC w2 rb 1 _ I
   have aR:=C.o.rd.hb;have hg:=C.o.rd.hg;refine⟨⟨(LC (w:=w2) (a:=⟨ib,0,none⟩) (I ib (by omega))).trans C.o.rd.c0,(LC (w:=w2) (a:=⟨ib,3,none⟩) (I ib (by omega))).trans C.o.rd.c3,(LC (w:=w2) (a:=⟨ib,4,none⟩) (I ib (by omega))).trans C.o.rd.c4,(LC (w:=w2) (a:=⟨ib,5,none⟩) (I ib (by omega))).trans C.o.rd.c5,λ i hi=>(LC (w:=w2) (a:=⟨g,i,none⟩) (I g (by omega))).trans (C.o.rd.at_ i hi),aR,hg⟩,?_,LH _ _ _ d1,by rw[LG];exact f1,by simpa[LN]using C.o.b0,C.o.b1⟩;rw[LD (h:=by intro e;injection e;omega)];exact C.o.c0
  have aW:QP (w.grownBy (w2.setCell ⟨rb,1,none⟩ (.int .i64 (Q:Int))) (some rb)):=by
   have h:=(MZ 0 w2).setCell (p:=⟨rb,1,none⟩) zL (.int .i64 (Q:Int));refine⟨h.os.trans F.o.os,h.tape.trans F.o.tape,h.output.trans F.o.output,by simpa[LN]using F.o.size,λ k I bN=>(iC w2 rb 1 _ (λ e=>bN (by rw[e]))).trans (F.o.block k I)⟩
  clear aO hcut D Y V aL F Z C;go_wp2;go_ret2;exact⟨vt,rfl,by rw[ET.o];exact bM.o,by rw[EC.o];exact aT.o,aW.o⟩
section
variable {B p q:Nat}{w w':tW}{O:Nat->Nat}{cs:List wV}{vb:Nat->tV}{bc:Nat->List tV}{T:Nat->List (Int×Int×Int)}
theorem FA(l:List wV)(t:wV):Nu (l++[t])=Nu l++t.cells:=by unfold Nu;simp
theorem Im:∀(l:List wV)(j:Nat)(t:wV),l[j]?=some t->(Nu l)[j*2]?=some (.pointer (some ⟨t.cb,0,none⟩))/\(Nu l)[j*2+1]?=some (.pointer (some ⟨t.rb,0,none⟩))
 | [],j,t,h=>by simp at h
 | x::l,0,t,h=>by
  have e:=sJ h
  subst e;exact⟨rfl,rfl⟩
 | x::l,j+1,t,h=>by
  have:=Im l j t (by simpa using h);have e:Nu (x::l)=.pointer (some ⟨x.cb,0,none⟩):: .pointer (some ⟨x.rb,0,none⟩)::Nu l:=rfl;rw[e,show(j+1)*2=j*2+1+1 by omega];exact⟨by simpa using this.1,by rw[show j*2+1+1+1=(j*2+1)+1+1 by omega];simpa using this.2⟩
theorem Ue:∀(l:List wV)(j:Nat)(t t':wV),l[j]?=some t->t'.cells=t.cells->Nu (l.set j t')=Nu l
 | [],j,t,t',h,_=>by simp at h
 | x::l,0,t,t',h,e=>by
  have o:=sJ h
  subst o;show t'.cells++Nu l=x.cells++Nu l;rw[e]
 | x::l,j+1,t,t',h,e=>by
  show x.cells++Nu (l.set j t')=x.cells++Nu l;rw[Ue l j t t' (by simpa using h) e]
theorem PI.pushT(h:PI B p w O cs vb bc q T){w4:tW}{o:Obj}{g aJ n:Nat}{t:wV}{v0:tV}(hn:cs.length=n)(bC:vb 0=v0)
  (J:w4.ownsRow (B+1) 96 2 (.slice (some ⟨g,0,none⟩) (n+1) aJ) (n+1) (Nu cs++t.cells))
  (Q:(w.alloc o).grownBy w4 v0.ownBlock) (bM:v0.ownBlock=some g\/g=w.heap.size+1) (ht:TW w O n t) (aT:B<t.lo/\B<t.lo2):
  PI B p (w4.setCell ⟨B,0,none⟩ (.slice (some ⟨g,0,none⟩) (n+1) aJ)) (λ k=>if k=g then 2 else O k) (cs++[t]) (U7 vb 0 (.slice (some ⟨g,0,none⟩) (n+1) aJ)) bc q T:=by
 subst hn bC;obtain⟨o1,b1⟩:=h.wt;have bT:=Q.size;have ez:(w.alloc o).heap.size=w.heap.size+1:=by simp
 have cF:=(J.lt g rfl).2;have bS:(w4.setCell ⟨B,0,none⟩ (.slice (some ⟨g,0,none⟩) (cs.length+1) aJ)).heap.size=w4.heap.size:=by simp[LN]
 have aR:g<w.heap.size->O g=2:=λ hg=>by
  rcases bM with e|e
  ·exact h.bt 0 g (by omega) e
  ·omega
 have C:∀k,k<w.heap.size->O k≠1->O k≠2->(w4.setCell ⟨B,0,none⟩ (.slice (some ⟨g,0,none⟩) (cs.length+1) aJ)).heap[k]?=w.heap[k]? /\(if k=g then 2 else O k)=O k:=λ k D aW Z=>by
  have bK:k≠B:=λ e=>aW (by rw[e];exact o1)
  have aL:k≠g:=λ e=>Z (by rw[e];exact aR (by omega))
  refine⟨(iC w4 B 0 _ bK).trans ((Q.block k (by omega) (λ e=>Z (h.bt 0 k (by omega) e.symm))).trans (MA w o k D)),aA aL⟩
 have V:w4.heap[B]?=w.heap[B]? :=(Q.block B (by omega) (λ e=>by have:=h.bt 0 B (by omega) e.symm;omega)).trans (MA w o B b1);have aO:g≠B:=by have:=(J.lt g rfl).1;omega
 refine⟨λ f' I=>?_,λ i=>by rw[LG];exact(LP (w:=w) (a:=⟨B,i,none⟩) V).trans (h.wz i),⟨(aA (Ne.symm aO)).trans o1,by omega⟩,?_,λ f' a1 X=>?_,λ f' k I D=>?_,λ f' i u a1 X bN U=>?_,λ j u F U=>?_,λ j u F U=>?_,λ j t' F=>?_,λ k D=>?_,λ j t' F=>?_⟩
 ·by_cases e:f'=0
  ·subst e;rw[iX];exact LH _ _ _ ((LC (w:=w) (a:=⟨B,0,none⟩) V).trans (h.wb 0 I))
  ·rw[gZ _ _ e,LD (h:=by intro e';injection e';omega)];exact(LC (w:=w) (a:=⟨B,f',none⟩) V).trans (h.wb f' I)
 ·rw[iX,FA,LR,MI];exact QN J (show B<B+1 by omega) _
 ·rw[gZ _ _ (by omega)];exact iH (h.bk f' a1 X) (λ k D=>(C k (h.own X D).2 (by have:=h.bt f' k X D;omega) (by have:=h.bt f' k X D;omega)).1)
 ·by_cases e:f'=0
  ·subst e;rw[iX]at D;have bO:g=k:=by simpa[MF]using D
   rw[aB bO.symm]
  ·rw[gZ _ _ e]at D;have:=h.bt f' k I D;rw[(C k (h.own I D).2 (by omega) (by omega)).2];exact this
 ·exact(h.mm f' i u a1 X bN U).keep (by omega) (λ k D ho=>C k D (by omega) (by omega))
 ·exact(h.wa j u F U).keep (λ k D ho=>C k D (by omega) (by omega))
 ·exact(h.we j u F U).keep (λ k D ho=>C k D (by omega) (by omega))
 ·have Y:∀j u,TW w O j u->TW (w4.setCell ⟨B,0,none⟩ (.slice (some ⟨g,0,none⟩) (cs.length+1) aJ)) (λ k=>if k=g then 2 else O k) j u:=λ j u U=>U.keep (by omega) (λ k D ho=>C k D (by omega) (by omega))
  by_cases hi:j<cs.length
  ·rw[MS hi]at F;exact Y j t' (h.cu j t' F)
  ·have hl:=(LI.1 F).1;rw[LR,MI]at hl;have ei:j=cs.length:=by omega
   subst ei;rw[MB lR,OF]at F;have eu:=sJ F
   subst eu;exact Y _ _ ht
 ·rw[aA (by omega)];exact h.fr k (by omega)
 ·by_cases hi:j<cs.length
  ·rw[MS hi]at F;exact h.cl j t' F
  ·have hl:=(LI.1 F).1;rw[LR,MI]at hl;have ei:j=cs.length:=by omega
   subst ei;rw[MB lR,OF]at F;have eu:=sJ F
   subst eu;exact aT
theorem PI.swap(h:PI B p w O cs vb bc q T){j:Nat}{t t':wV}(V:cs[j]?=some t)(hc:t'.cells=t.cells)(U:w.heap.size<=w'.heap.size)(X:∀k,k<w.heap.size->O k≠0->O k≠19+4*j->w'.heap[k]?=w.heap[k]?)(ht:TW w' O j t')(I:t'.lo=t.lo/\t'.lo2=t.lo2):PI B p w' O (cs.set j t') vb bc q T:=by
 have C:∀k,k<w.heap.size->O k≠0->O k≠19+4*j->w'.heap[k]?=w.heap[k]? /\O k=O k:=λ k J D h3=>⟨X k J D h3,rfl⟩
 obtain⟨o1,b1⟩:=h.wt;have e1:=X B b1 (by omega) (by omega);refine⟨λ f hf=>(LC (w:=w) (a:=⟨B,f,none⟩) e1).trans (h.wb f hf),λ i=>(LP (w:=w) (a:=⟨B,i,none⟩) e1).trans (h.wz i),⟨o1,LJ b1 U⟩,?_,
  λ f J D=>iH (h.bk f J D) (λ k o=>X k (h.own D o).2 (by have:=h.bt f k D o;omega) (by have:=h.bt f k D o;omega)),h.bt,
  λ f i v J D hi Q=>(h.mm f i v J D hi Q).keep U (λ k o Y=>C k o (by omega) (by omega)),
  λ j' v F Q=>(h.wa j' v F Q).keep (λ k o Y=>C k o (by omega) (by omega)),
  λ j' v F Q=>(h.we j' v F Q).keep (λ k o Y=>C k o (by omega) (by omega)),λ i u hi=>?_,λ k o=>h.fr k (NE U o),λ i u hi=>?_⟩
 ·rw[QE,Ue cs j t t' V hc];exact iH h.b0 (λ k o=>X k (h.own (by omega) o).2 (by have:=h.bt 0 k (by omega) o;omega) (by have:=h.bt 0 k (by omega) o;omega))
 ·by_cases e:i=j
  ·subst e;rw[OG (LI.1 V).1]at hi;have eu:=sJ hi
   subst eu;exact ht
  ·rw[OK (λ Z=>e Z.symm)]at hi;exact(h.cu i u hi).keep U (λ k o Y=>C k o (by omega) (by omega))
 ·by_cases e:i=j
  ·subst e;rw[OG (LI.1 V).1]at hi;have eu:=sJ hi
   subst eu;rw[I.1,I.2];exact h.cl i t V
  ·rw[OK (λ Z=>e Z.symm)]at hi;exact h.cl i u hi
theorem PI.tagI(h:PI B p w O cs vb bc q T){lo:Nat}(t:Nat)(o:∀k,lo<=k->O k=0):PI B p w (λ k=>if lo<=k/\k<w.heap.size then t else O k) cs vb bc q T:=
 h.keep lR (λ k _ D=>⟨rfl,aA (λ e=>D (o k e.1))⟩) (λ k C=>by
  have:¬(lo<=k/\k<w.heap.size):=λ e=>by omega
  simp only[aA this];exact h.fr k C)
end
theorem bV:(Tryz.prog.info? 5).map (λ i=>(i.zero,i.size,i.bytes))=some (some (.int .u8 0),1,1):=by kernel_rfl
theorem JS(n:Nat):(QU (ML .u8 0).cells (n*1)).toList=(MD n (0:UInt8)).map (λ b=>ML .u8 (b.toNat:Int)):=by
 have h:∀i:Nat,(ML .u8 0).cells[i%(ML .u8 0).cells.size]! =ML .u8 0:=by
  intro i;have e:i%(ML .u8 0).cells.size=0:=by simp[PU,QK]
  rw[e];simp[PU]
 unfold QU;rw[Nat.mul_one];simp only[h,Array.toList_map,Array.toList_range];rw[List.map_replicate,List.eq_replicate_iff];exact⟨by simp,by intro b o;simp at o;exact o.2.symm⟩
theorem EY:(QU (ML .u8 0).cells (256*1)).toList=(MD 256 (0:UInt8)).map (λ b=>ML .u8 (b.toNat:Int)):=JS 256
theorem DG(w1:tW)(B aH:Nat)(o:w1.ownsRow aH 5 1 (.slice (some ⟨B,0,none⟩) 256 256) 256 (QU (ML .u8 0).cells (256*1)).toList):
  (convert 116 9 (.slice (some ⟨B,0,none⟩) 256 256)).run LK w1=.ok (.string Zs) w1:=by
 have h:=run_convert_bytes_back (P:=LK) w1 116 9 5 ⟨B,0,none⟩ 256 (MD 256 (0:UInt8)) underlying116 underlying5 underlying9 (λ j C=>by
  refine o.cells (g:=B) rfl j _ ?_;rw[EY,MC,LQ C];rfl)
 rw[PQ]at h;exact h
theorem Va(w:tW):RA LK 28 #[] w λ e w'=>e=.returned (.string SM)/\Bl w w':=by
 obtain⟨i0,hi,D,I,F⟩:=QT bV;have J:QP (Tryz.prog.info? 5=some i0/\i0.zero=some (.int .u8 0)/\i0.size=1/\i0.bytes=1):=⟨hi,D,I,F⟩
 clear hi D I F;go_enter func28,ntmps28;go_wp2_with (at_make;refine wpList_make_full w rfl _ _ 116 rfl w.heap.size 5 i0 (.int .u8 0) 1 underlying116 J.o.1 J.o.2.1 J.o.2.2.1 .i64 .i64 256 256 256 rfl rfl rfl rfl (by rw[J.o.2.2.2];decide) (by unfold QZ;omega) lR ?_;intro w1 C hg;have U:=DG w1 _ _ C;clear C);go_ret;refine⟨?_,bR.grown hg lR (λ k Q=>by cases Q)⟩;rw[<-Wa];rfl
theorem F4(x:Int)(w:tW):RA LK 9 #[.int .i64 x] w λ e w'=>e=.returned (.int .i64 x)/\w'=w:=by
 go_enter func9,ntmps9;go_wp2;go_ret;exact⟨rfl,rfl⟩
theorem fB:(Tryz.prog.info? 96).map (λ i=>(i.zero,i.size,i.bytes))=some (some (.agg #[.pointer none,.pointer none]),2,16):=by kernel_rfl
def x4(B p q:Nat)(w:tW)(cs:List wV)(bc:Nat->List tV)(T:Nat->List (Int×Int×Int))(e:Ending)(w':tW):Prop:=
 e=.returned (.bool true)/\∃O' o C,PI B p w' O' o C bc q T/\o.length<=cs.length+1/\Below B w w'
theorem Mp{p q:Nat}{w:tW}{O:Nat->Nat}{cs:List wV}{vb:Nat->tV}{bc:Nat->List tV}{T:Nat->List (Int×Int×Int)}(h:PI B p w O cs vb bc q T)(s:tB)(hs:s.size<=QZ)(eS:cs.length<=3000000):
  RA LK 60 #[.pointer (some ⟨B,0,none⟩),.string s] w (x4 B p q w cs bc T):=by
 have bN:=h.wt.2;have HH:=fV h;clear h;by_cases Z:s.size<=120000/\iF s=true
 ·go_enter func60,ntmps60;go_wp2_with fail;refine(Fz s _).mono ?_;rintro e w1 ⟨X,⟨aW,_⟩|⟨_,_,cb,bb,vg,aU,yb,zb,rfl,bO⟩⟩
  ·exact absurd Z aW
  have I:=fV X;have aO:=fV bO;clear X bO;go_wp2_with fail;refine(Gv s _ hs).mono ?_;rintro e w2 ⟨D,⟨aW,_⟩|⟨_,_,rb,ib,g,aJ,rfl,bK⟩⟩
  ·exact absurd Z aW
  have cF:=I.o.size;have eM:=D.size;have Q:=fV (I.o.trans (D.mono cF));have J:=(HH.o.below Q.o).tagI (lo:=w.heap.size) (19+4*cs.length) (λ k hk=>HH.o.fr k hk);have V:=aO.o.blocks (w':=w2) (λ k h1 J=>D.block k (by have:=aO.o.b0;omega)) eM;have eR:QP (TW w2 (λ k=>if w.heap.size<=k/\k<w2.heap.size then 19+4*cs.length else O k) cs.length ⟨cb,w.heap.size,bb,vg,aU,yb,zb,rb,w1.heap.size,ib,g,aJ,s,0⟩):=
   ⟨V,bK,λ k h1 J=>aB ⟨h1,by have J:k<=cb:=J;have:=V.b0;omega⟩,λ k h1 J=>aB ⟨by have h1:w1.heap.size<=k:=h1;omega,by have J:k<=rb:=J;have:=bK.b0;omega⟩,aO.o.b0⟩
  have bM:=fV J;have U:=J.b0;have c0:=J.wb 0 (by omega);have f0:=J.wz 0;obtain⟨a0,k0,e0⟩:=gA U;obtain⟨n,en⟩:=xE (cs.length)
  rw[en]at e0 U eS;rw[e0]at c0 U;have eO:=fV e0;have bT:=fV U;have aT:QP (∀k,(MY a0 n k0).ownBlock=some k->B+1<=k):=λ k hk=>(bT.o.lt k hk).1
  have HN:=fV en;have bC:B<w2.heap.size:=by omega
  clear J V bK D U e0 HH aO en;go_wp2_with (first
   | (go_at_call 9;refine(F4 0 _).mono ?_;rintro e w3 ⟨rfl,Y⟩;rw[Y];clear Y)
   | (at_builtin;refine gB w2 rfl (.tmp 36) (.tmp 40) 88 rfl (B+1) 96 (.agg #[.pointer none,.pointer none]) 2 16 underlying88 fB rfl (by decide) (by decide) (.slice a0 n k0) n (Nu cs) [.pointer (some ⟨cb,0,none⟩),.pointer (some ⟨rb,0,none⟩)] _ rfl bT.o _ rfl rfl rfl (by simp[MG]) (by omega) (by omega) ?_;intro g4 cap4 w4 aL C aR eX;have m4:=((gH C (k:=B) bC (λ e=>by have:=aT.o B e.symm;omega)).1 0).trans c0;have n4:=((gH C (k:=B) bC (λ e=>by have:=aT.o B e.symm;omega)).2 0).trans f0;have cN:=fV aL;have bS:=fV C;have eN:=fV aR;clear aL C aR))
  have cP:=fV (bM.o.pushT (t:=⟨cb,w.heap.size,bb,vg,aU,yb,zb,rb,w1.heap.size,ib,g,aJ,s,0⟩) HN.o eO.o cN.o bS.o eN.o (by have:=eR.o;rw[HN.o]at this ⊢;exact this) ⟨bN,by show B<w1.heap.size;omega⟩);have eT:QP (Below B w (w4.setCell ⟨B,0,none⟩ (.slice (some ⟨g4,0,none⟩) (n+1) cap4))):=((Q.o.mono (MU bN)).trans (yV bS.o (λ k hk=>NE (NJ _) (aT.o k hk)) (MU bC))).setCell (p:=⟨B,0,none⟩) lR _;clear c0 f0 m4 n4;go_ret;exact⟨rfl,_,_,_,cP.o,by rw[LR,MI];exact lR,eT.o⟩
 ·have eL:=s7 Z;have gL:=fV eL;go_enter func60,ntmps60;go_wp2_with fail;refine(Fz s _).mono ?_;rintro e w1 ⟨X,F⟩;obtain⟨_,rfl⟩:=F.resolve_right (λ h=>Z ⟨h.1,h.2.1⟩);have I:=fV X;clear X;go_wp2_with fail;refine(Gv s _ hs).mono ?_;rintro e w2 ⟨D,F⟩;obtain⟨_,rfl⟩:=F.resolve_right (λ h=>Z ⟨h.1,h.2.1⟩);have Q:=fV (I.o.trans (D.mono I.o.size));have bM:=fV (HH.o.below Q.o);clear D I;generalize (G5 s:Int)=ck at*;go_wp2_with (first|(go_at_call 9;refine(F4 ck _).mono ?_;rintro e w3 ⟨rfl,Y⟩;rw[Y];clear Y));go_ret;exact⟨rfl,_,_,_,bM.o,NJ _,Q.o.mono (MU bN)⟩
