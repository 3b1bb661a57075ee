import Derived.WalkKit
import Derived.WalkSpells
import Derived.WalkLawsBesides
import Derived.Deep.MidRow
import Derived.Deep.WholeRow
import Derived.Laws.ResultCell
import Derived.Deep.AppendLies
import Derived.Deep.AppendSrc
import Derived.Test.YtgjgjgihceijnaaGreatChecked
import Derived.Deep.QuietTactic
import Derived.Deep.LoopGhost
import Derived.BigQuiet
import Derived.Laws.StructEq
import Derived.Deep.CutBlock
import Derived.Deep.RegionLaw
import Derived.Laws.Tables
import Derived.Great.BuildSlice
import Derived.Great.Ranges
import Derived.Deep.OwnRows
import Derived.Deep.DrawnRows
import Derived.Deep.RegionHeld3
import Derived.Deep.RegionWith
open Go.RowKit renaming ownsRow_setCell_below->QN,intOf->QO,Hid->QP
open Go renaming wpList_load_mid->QQ,wpList_store_mid->QR,all_oneCell_toArray->QS,info_parts->QT,madeCells->QU,heap_alloc_new->QV,wpList_make_own->QW,wpList_append_lies->QX,run_loadVar_mid->QY,maxLen->QZ,Calls->RA
open Go.World renaming cell?_of_block->LC,cell?_setCell_other->LD,frozen?_setCell->LG,cell?_setCell_same->LH,setCell->LN,cell?_alloc_new->LO,frozen?_of_block->LP,ownsRow_nil->LS,rangeAt_setCells_same->LZ,frozen?_alloc_new->MJ,cell?_alloc_past->MW,news_of_block->NM,grownBy_alloc->OC,frozen?_alloc_past->OD,there_setCells->OM,cell?_alloc_at->PV,there_alloc->QA
open Go.Proofs.Tryz renaming zeroCells72->LF,prog->LK,zeroCells141->LY,underlying72->MO,underlying29->MV,ntmps111->NB,underlying59->ND,func111->NF,underlying222->NI,zeroCells154->NW,results24->OU,ntmps118->OY,func118->PF,ntmps80->PG,ntmps88->PH
open List renaming getElem?_eq_some_iff->LI,getElem?_eq_getElem->LQ,length_append->LR,getElem?_append_right->MB,getElem?_map->MC,replicate->MD,range->MH,length_singleton->MI,getElem?_range->MM,map_congr_left->MN,mem_singleton->MR,getElem?_append_left->MS,mem_append->MT,getElem?_cons_succ->NC,getElem?_cons_zero->NN,range_succ_eq_map->NQ,map_cons->NR,contains_iff_mem->NS,singleton_append->NT,append_assoc->NU,length_cons->NZ,map_append->OE,getElem?_set_self->OG,getElem_mem->OI,not_mem_nil->OJ,getElem?_set_ne->OK,append_nil->OP,length_nil->OQ,nil_append->OR,mem_range->OS,map_toArray->OZ,map_map->PB,mem_map->PC,range_succ->PK,getElem?_toArray->PO,length_replicate->PQ,set_append_right->PT,map_singleton->PW,set_cons_succ->PX,map_nil->PY,take_add_one->PZ,length->QC,length_set->QF
open Nat renaming lt_of_lt_of_le->LJ,zero_add->LM,le_of_lt->MU,le_trans->NE,mul_le_mul->NH,le_succ->NJ,add_mul->NO,lt_succ_self->OB,not_lt_zero->OF,sub_self->OH,mul_le_mul_right->OL,mul_comm->PE,div_eq_of_lt->QB,mul_add_div->QG,add_comm->QI,mod_one->QK
open Array renaming length_toList->LU,getElem?_eq_some_iff->NY,getElem?_eq_getElem->OV,all_eq_true->OX,getElem?_eq_none->PA
open Go.RowKit.Below renaming heap_alloc->MA,heap_setCell->MQ,refl->MZ,alloc->QJ
open Bool renaming and_eq_true->ME,eq_iff_iff->ON,or_self->QH
open Go.Value renaming oneCell'->MF,ownBlock->MG,int->ML,slice->MY,string->NK,cells->PU,bool->QL,agg->QM
open Option renaming getD_some->NG,map_some->PM
open Int renaming natCast_add->OO,natCast_one->QE
open UInt8 renaming toNat_inj->PN
open ByteArray renaming empty->QD
open Go.Proofs.Tryz
set_option maxRecDepth 100000
set_option maxHeartbeats 8000000
namespace Go.Stn
theorem aA.{u}{c:Prop}{h:Decidable c}(n:¬c){α:Sort u}{t e:α}:ite c t e=e:=if_neg n
theorem aB.{u}{c:Prop}{h:Decidable c}(n:c){α:Sort u}{t e:α}:ite c t e=t:=if_pos n
theorem aC{α:Type _}[BEq α][LawfulBEq α]{a b:α}:(a==b)=false↔a≠b:=beq_eq_false_iff_ne
theorem aD{α:Type _}[BEq α][LawfulBEq α]{a b:α}:(a != b)=true↔a≠b:=bne_iff_ne
theorem aE{p:Prop}[Decidable p]:(decide p=true)=p:=decide_eq_true_eq
theorem aF{p:Prop}[Decidable p]:decide p=false↔¬p:=decide_eq_false_iff_not
open Go.RowKit
abbrev Bl(w v:World):Prop:=Below w.heap.size w v
theorem _root_.Go.RowKit.Hid.o{p:Prop}(h:QP p):p:=h
theorem dT(a b:Nat)(h:a<b):decide ((a:Int)<(b:Int))=true:=by simp;omega
theorem dF(a b:Nat)(h:b<=a):decide ((a:Int)<(b:Int))=false:=by simp;omega
theorem iI(a b:Nat)(h:a<b):(0:Int)<=(a:Int)/\(a:Int)<(b:Int):=by omega
theorem sE{a:Nat}(h:0<a):∃d,a=d+1:=⟨a-1,by omega⟩
theorem xE{α:Sort _}(a:α):∃x,a=x:=⟨_,rfl⟩
theorem sJ{α:Type _}{a b:α}(h:some a=some b):a=b:=Option.some.inj h
theorem lR{a:Nat}:a<=a:=Nat.le_refl a
theorem zL{a:Nat}:0<=a:=Nat.zero_le a
theorem bR{B:Nat}{w:World}:Below B w w:=MZ _ _
abbrev tB:=ByteArray
abbrev tW:=World
abbrev tV:=Value
variable {b n B aH size i j aX aM c lo hi ru cl g p d st f bb vg top st' i' L:Nat}{ty e:TypeId}{P:Program}{a:Act}{r:Option Nat}{ops:Array Oper}{rest:List Oper}{op:Oper}{most m:Int}{zs:List ((Nat×List Int)×Nat)}{H S T:List (Int×Int×Int)}{l:List Nat}
def gQ(f:Nat->Bool):List tV:=(MH 256).map λ i=>QL (f i)
theorem gM(f:Nat->Bool):(gQ f).length=256:=by simp[gQ]
theorem iJ(f:Nat->Bool):(gQ f).toArray.size=256:=by simp[gQ]
theorem wJ(f:Nat->Bool)(k:Nat)(h:k<256):(gQ f)[k]?=some (.bool (f k)):=by
 unfold gQ;rw[MC,MM h];rfl
theorem mB(f:Nat->Bool):∀v∈gQ f,v.oneCell'=true:=by
 intro v o;unfold gQ at o;rw[PC]at o;obtain⟨i,_,rfl⟩:=o
 rfl
theorem tJ{f g:Nat->Bool}(h:∀i,i<256->f i=g i):gQ f=gQ g:=by
 unfold gQ;exact MN (λ i hi=>by rw[h i (OS.1 hi)])
theorem Ag{w:tW}{f:Nat->Bool}(h:w.rangeAt b 0 (gQ f)){k:Nat}(F:k<256)(v:Bool):(w.setCell ⟨b,k,none⟩ (.bool v)).rangeAt b 0 (gQ λ i=>if i=k then v else f i):=by
 intro j u o;have C:j<256:=by have:=(LI.1 o).1;rw[gM]at this;exact this
 rw[wJ _ _ C]at o;injection o with o;by_cases e:j=k
 ·subst e;rw[<-o,aB rfl,LM];have:=h j _ (wJ f j C);rw[LM]at this;exact LH _ _ _ this
 ·rw[<-o,aA e,LM,LD (h:=by intro D;injection D;omega)];have:=h j _ (wJ f j C);rw[LM]at this;exact this
theorem pN{w:tW}{o:Nat}(h:w.there b o n)(a:Addr)(v:tV):(w.setCell a v).there b o n:=by
 intro j I;obtain⟨D,F⟩:=h j I;refine⟨?_,by rw[LG];exact F⟩;obtain⟨u,J⟩:=Option.isSome_iff_exists.1 D;obtain⟨Q,C⟩:=cell?_setCell_some (p:=a) (x:=v) J;rw[C];rfl
theorem sH{w w':tW}{o:Nat}(h:w.there b o n)(C:Below B w w')(D:b<B):w'.there b o n:=by
 intro j J;obtain⟨F,I⟩:=h j J;exact⟨by rw[C.cell (p:=⟨b,o+j,none⟩) D];exact F,by rw[C.frozen (p:=⟨b,o+j,none⟩) D];exact I⟩
theorem nB{w w':tW}{o:Nat}{cs:List tV}(h:w.rangeAt b o cs)(C:Below B w w')(D:b<B):w'.rangeAt b o cs:=by
 intro j v F;rw[C.cell (p:=⟨b,o+j,none⟩) D];exact h j v F
theorem Yt(w:tW)(c:Array tV)(t:TypeId):(w.alloc (.cells c t)).there w.heap.size 0 c.size:=by
 intro j o;rw[LM,LO,MJ];exact⟨by simp[o],rfl⟩
theorem pB(w:tW)(cs:List tV)(t:TypeId)(n:Nat)(h:cs.length=n):(w.alloc (.cells cs.toArray t)).there w.heap.size 0 n:=by
 intro j o;rw[LM,LO,MJ];exact⟨by simp;omega,rfl⟩
theorem zG(w:tW)(cs:List tV)(t:TypeId):(w.alloc (.cells cs.toArray t)).rangeAt w.heap.size 0 cs:=by
 intro j v o;rw[LM,LO];simpa using o
theorem iD(w:tW)(c:Array tV)(t:TypeId)(B n:Nat)(h:c.size=n)(o:w.heap.size=B):(w.alloc (.cells c t)).there B 0 n:=by
 subst o;subst h;exact Yt w c t
theorem mE(w:tW)(c:Array tV)(t:TypeId):(w.alloc (.cells c t)).rangeAt w.heap.size 0 c.toList:=by
 intro j v o;rw[LM,LO];simpa using o
theorem Fh{C:Func}{p:Tmp}(h:C.results= #[.cell p ty])(o:Array tV)(P:Program)(w:tW):
  (results C o).run P w=((asAddr (o.getD p undef)).run P w).andThen λ a D=>(loadVar ty a).run P D:=by
 simp only[results,h];simp[Sem.run_bind,Result.andThen]
theorem lE{D:Func}{R:Ending->tW->Prop}{w:tW}{p:Tmp}(h:D.results= #[.cell p ty])(b o:Nat)(cs:List tV)(d:TypeDesc)
  (Q:a.tmps.getD p undef=.pointer (some ⟨b,o,none⟩)) (I:w.rangeAt b o cs) (U:P.underlying ty=some d) (J:d.isRow=true) (hi:(P.info? ty).map (·.size)=some cs.length)
  (C:a.defers=[]) (F:R (.returned (.agg cs.toArray)) w):bodyPost P D R .ret a w:=by
 refine bodyPost_ret (v:= .agg cs.toArray) ?_ C F;rw[Fh h,Q];simp[Result.andThen,asAddr,QY w b o ty cs d I U J hi]
theorem jH{D:Func}{R:Ending->tW->Prop}{w:tW}{p u:Tmp}(h:D.results= #[.cell p ty,.tmp u])(b o:Nat)(cs:List tV)(d:TypeDesc)(v:tV)
  (Q:a.tmps.getD p undef=.pointer (some ⟨b,o,none⟩)) (V:a.tmps.getD u undef=v) (I:w.rangeAt b o cs) (U:P.underlying ty=some d) (J:d.isRow=true) (hi:(P.info? ty).map (·.size)=some cs.length)
  (C:a.defers=[]) (F:R (.returned (.tuple #[.agg cs.toArray,v])) w):bodyPost P D R .ret a w:=by
 refine bodyPost_ret (v:= .tuple #[.agg cs.toArray,v]) ?_ C F;rw[results_cell_tmp h,Q,V];simp[Result.andThen,asAddr,QY w b o ty cs d I U J hi]
theorem gD{a b c:tW}(h:a.grownBy b r)(k:b.grownBy c r):a.grownBy c r:=
 ⟨k.os.trans h.os,k.tape.trans h.tape,k.output.trans h.output,NE h.size k.size,λ i hi o=>(k.block i (LJ hi h.size) o).trans (h.block i hi o)⟩
theorem jZ{a w:tW}(h:a.grownBy w r)(n:Nat):a.grownBy (w.drewN n) r:=⟨h.os,h.tape,h.output,h.size,h.block⟩
theorem lP{a w:tW}(h:a.grownBy w (some b))(i:Nat)(v:tV):a.grownBy (w.setCell ⟨b,i,none⟩ v) (some b):=
 ⟨h.os,h.tape,h.output,by have:=h.size;simp[LN];omega,λ k C o=>(MQ w ⟨b,i,none⟩ v k (by intro e;exact o (by rw[e]))).trans (h.block k C o)⟩
theorem Lh{a w:tW}(h:a.grownBy w (some b))(o:b<=a.heap.size):Below b a w:=
 ⟨h.os,h.tape,h.output,h.size,λ k C=>h.block k (by omega) (by intro e;injection e;omega)⟩
theorem fY{w w':tW}{o:Nat}{cs:List tV}(h:w.rangeAt b o cs)(C:w'.heap[b]?=w.heap[b]?):w'.rangeAt b o cs:=λ j v D=>by
 rw[LC (w:=w) C];exact h j v D
theorem gJ{w w':tW}{o:Nat}(h:w.there b o n)(C:w'.heap[b]?=w.heap[b]?):w'.there b o n:=λ j D=>by
 rw[LC (w:=w) C,LP (w:=w) C];exact h j D
theorem xR{w:tW}{Q:Exit->Act->tW->Prop}(C:op.guard=none)(ty:TypeId)(x y:Operand)(D:op.op=.store ty x y)
  (b o:Nat) (f:Nat->Bool) (I:a.eval x=.pointer (some ⟨b,o,none⟩)) (J:a.eval y=.agg (gQ f).toArray) (F:w.there b o 256) (hi:(P.info? ty).map (·.size)=some 256)
  (h:wpList P ops Q rest (a.put op.dst undef) (w.setCells b o (gQ f))):wpList P ops Q (op::rest) a w:=
 QR C ty x y D b o (gQ f).toArray I J (by rw[iJ];exact F) (by rw[iJ];exact hi) (QS (mB f)) h
theorem Y3{w:tW}{Q:Exit->Act->tW->Prop}(C:op.guard=none)(ty:TypeId)(x:Operand)(I:op.op=.load ty x)
  (b o:Nat) (f:Nat->Bool) (d:TypeDesc) (U:a.eval x=.pointer (some ⟨b,o,none⟩)) (D:w.rangeAt b o (gQ f)) (J:P.underlying ty=some d) (F:d.isRow=true) (hi:(P.info? ty).map (·.size)=some 256)
  (h:wpList P ops Q rest (a.put op.dst (.agg (gQ f).toArray)) w):wpList P ops Q (op::rest) a w:=
 QQ C ty x I b o U (gQ f) d D J F (by rw[gM];exact hi) h
def T4(X:tW)(B:Nat):Nat->Bool:=λ i=>match X.cell? ⟨B,i,none⟩with
 | some (.bool b)=>b
 | _=>false
def Pn(X:tW)(B:Nat):Prop:=X.rangeAt B 0 (gQ (T4 X B))
theorem Wb{X:tW}{f:Nat->Bool}(h:X.rangeAt B 0 (gQ f)):gQ (T4 X B)=gQ f/\Pn X B:=by
 have e:gQ (T4 X B)=gQ f:=tJ (λ i hi=>by
  have:=h i _ (wJ f i hi);rw[LM]at this;unfold T4;rw[this])
 exact⟨e,by unfold Pn;rw[e];exact h⟩
theorem gA{w:tW}{v:tV}{xs:List tV}(h:w.ownsRow aH e size v n xs):∃a aJ,v=.slice a n aJ:=by
 rcases h.2 with⟨rfl,rfl⟩|⟨g,aJ,_,rfl,_⟩
 ·exact⟨none,0,rfl⟩
 ·exact⟨_,aJ,rfl⟩
theorem gH{W w4:tW}{o:Obj}(hg:(W.alloc o).grownBy w4 r){k:Nat}(D:k<W.heap.size)(F:some k≠r):(∀i,w4.cell? ⟨k,i,none⟩=W.cell? ⟨k,i,none⟩)/\∀i,w4.frozen? ⟨k,i,none⟩=W.frozen? ⟨k,i,none⟩:=by
 have C:w4.heap[k]?=W.heap[k]? :=(hg.block k (by simp;omega) F).trans (MA W o k D);exact⟨λ i=>LC (w:=W) (a:=⟨k,i,none⟩) C,λ i=>LP (w:=W) (a:=⟨k,i,none⟩) C⟩
theorem kA{a w:tW}(h:a.grownBy w r)(o:Obj):a.grownBy (w.alloc o) r:=gD h (OC w o r)
theorem iQ{a w:tW}(h:Below B a w)(o:a.heap.size<=B)(r:Option Nat):a.grownBy w r:=⟨h.os,h.tape,h.output,h.size,λ k C _=>h.block k (by omega)⟩
theorem fX{a:tW}:∀(vs:List tV)(o:Nat)(w:tW)(b:Nat),Below B a w->B<=b->Below B a (w.setCells b o vs):=by
 intro vs
 induction vs with
 | nil=>intro o w b h _;exact h
 | cons v r ih=>intro o w b h C;exact ih (o+1) _ b (h.setCell (p:=⟨b,o,none⟩) C v) C
theorem oK{a w:tW}(h:a.grownBy w r)(b o:Nat)(vs:List tV)(F:a.heap.size<=b):a.grownBy (w.setCells b o vs) r:=by
 have C:Below a.heap.size w (w.setCells b o vs):=fX vs o w b bR F;exact⟨C.os.trans h.os,C.tape.trans h.tape,C.output.trans h.output,NE h.size C.size,λ k D I=>(C.block k D).trans (h.block k D I)⟩
theorem gB(w:tW){ops:Array Oper}{rest:List Oper}{o:Oper}{a:Act}{Q:Exit->Act->tW->Prop}(X:o.guard=none)(s x:Operand)(t:TypeId)
  (ho:o.op=.call {callee:= .builtin .append,args:= #[s,x],argTypes:= #[t,t]})
  (aH:Nat) (e:TypeId) (z:tV) (size C:Nat) (ht:P.underlying t=some (.slice e)) (D:(P.info? e).map (λ i=>(i.zero,i.size,i.bytes))=some (some z,size,C))
  (Z:z.cells.size=size) (Y:0<size) (V:C<=1000)
  (v:tV) (n:Nat) (xs:List tV) (cs:List tV) (J:TypeId) (hs:a.eval s=v) (I:w.ownsRow aH e size v n xs)
  (B:Nat) (hB:w.heap.size=B) (hx:a.eval x=.slice (some ⟨B,0,none⟩) 1 1) (hl:cs.length=size) (h1:∀u∈cs,u.oneCell'=true)
  (hn:n<=1000000000) (U:aH<=w.heap.size)
  (h:∀g aJ w',w'.ownsRow aH e size (.slice (some ⟨g,0,none⟩) (n+1) aJ) (n+1) (xs++cs)->(w.alloc (.cells cs.toArray J)).grownBy w' v.ownBlock->(v.ownBlock=some g\/g=w.heap.size+1)->g<w'.heap.size->
   wpList P ops Q rest (a.put o.dst (.slice (some ⟨g,0,none⟩) (n+1) aJ)) w'):wpList P ops Q (o::rest) a (w.alloc (.cells cs.toArray J)):=by
 subst hB;obtain⟨i,hi,hz,F,hb⟩:=QT D;refine QX _ X s x t ho aH e i z size C ht hi hz F hb Z Y v n xs hs (I.alloc _) ⟨w.heap.size,0,none⟩ 1 1 cs hx (by omega) ?_ h1 (by omega) (by unfold QZ;omega) ?_ (by simp;omega) (w.heap.size+1) (by simp) h
 ·have:=NM (w:=w.alloc (.cells cs.toArray J)) (B:=w.heap.size) (cs:=cs.toArray) (t:=J) (fr:=(0,0)) (QV w _);simpa using this
 ·have:=NH (show n+1<=1000000001 by omega) V;omega
theorem sG(w:tW){ops:Array Oper}{o:Oper}{a:Act}{K:Act->tW->Prop}{Q:Exit->Act->tW->Prop}{E:Prop}(X:o.guard=none)(s x:Operand)(t:TypeId)
  (ho:o.op=.call {callee:= .builtin .append,args:= #[s,x],argTypes:= #[t,t]})
  (aH:Nat) (e:TypeId) (z:tV) (size C:Nat) (ht:P.underlying t=some (.slice e)) (D:(P.info? e).map (λ i=>(i.zero,i.size,i.bytes))=some (some z,size,C))
  (Z:z.cells.size=size) (Y:0<size) (V:C<=1000)
  (v:tV) (n:Nat) (xs:List tV) (cs:List tV) (J:TypeId) (hs:a.eval s=v) (I:w.ownsRow aH e size v n xs)
  (B:Nat) (hB:w.heap.size=B) (hx:a.eval x=.slice (some ⟨B,0,none⟩) 1 1) (hl:cs.length=size) (h1:∀u∈cs,u.oneCell'=true)
  (hn:n<=1000000000) (U:aH<=w.heap.size)
  (h:∀g aJ w',w'.ownsRow aH e size (.slice (some ⟨g,0,none⟩) (n+1) aJ) (n+1) (xs++cs)->(w.alloc (.cells cs.toArray J)).grownBy w' v.ownBlock->(v.ownBlock=some g\/g=w.heap.size+1)->g<w'.heap.size->
   K (a.put o.dst (.slice (some ⟨g,0,none⟩) (n+1) aJ)) w'):if Region.wanted o (yielded ops a.tmps)=true then Oper.wp P o a (w.alloc (.cells cs.toArray J)) K Q else E:=by
 subst hB;obtain⟨i,hi,hz,F,hb⟩:=QT D;refine step_append_lies _ X s x t ho aH e i z size C ht hi hz F hb Z Y v n xs hs (I.alloc _) ⟨w.heap.size,0,none⟩ 1 1 cs hx (by omega) ?_ h1 (by omega) (by unfold QZ;omega) ?_ (by simp;omega) (w.heap.size+1) (by simp) h
 ·have:=NM (w:=w.alloc (.cells cs.toArray J)) (B:=w.heap.size) (cs:=cs.toArray) (t:=J) (fr:=(0,0)) (QV w _);simpa using this
 ·have:=NH (show n+1<=1000000001 by omega) V;omega
theorem Nc(w:tW)(t ty:TypeId)(aH:Nat)(e:TypeId)(z:tV)(size o:Nat)(J:P.underlying t=some (.slice e))(C:(P.info? e).map (λ i=>(i.zero,i.size,i.bytes))=some (some z,size,o))
  (v:tV) (n:Nat) (xs:List tV) (D:w.ownsRow aH e size v n xs):(Builtin.append_ #[t,t] ty #[v,.slice none 0 0]).run P w=.ok v w:=by
 obtain⟨i,hi,hz,I,hb⟩:=QT C;rcases D.2 with⟨rfl,rfl⟩|⟨g,aJ,U,rfl,V,hg,Z,X,Y,Q⟩
 ·simp[Builtin.append_,run_underlying J,sizeOf,typeInfo,hi,Builtin.lenOf,Builtin.firstCells]
 ·have h:=run_append_room_src (P:=P) w t t ty e i J hi g 0 n aJ (.slice none 0 0) 0 [] (Src.ofNil (size:=i.size) w J 0) (by omega) (λ j F=>by simp at F) (λ j F=>by simp at F);rw[h]
  rfl
theorem An(w:tW){ops:Array Oper}{rest:List Oper}{o:Oper}{a:Act}{Q:Exit->Act->tW->Prop}(I:o.guard=none)(s x:Operand)(t:TypeId)
  (U:o.op=.call {callee:= .builtin .append,args:= #[s,x],argTypes:= #[t,t]})
  (aH:Nat) (e:TypeId) (z:tV) (size C:Nat) (Y:P.underlying t=some (.slice e)) (D:(P.info? e).map (λ i=>(i.zero,i.size,i.bytes))=some (some z,size,C))
  (v:tV) (n:Nat) (xs:List tV) (X:a.eval s=v) (F:w.ownsRow aH e size v n xs) (Z:a.eval x=.slice none 0 0)
  (h:wpList P ops Q rest (a.put o.dst v) w):wpList P ops Q (o::rest) a w:=by
 refine wpList_plain I λ K J=>?_
 have V:=Nc (P:=P) w t o.type aH e z size C Y D v n xs F;unfold Oper.wp execOp;simp only[U,resolve,invoke,builtin,Sem.run_bind,Sem.run_pure,Result.andThen_ok,OZ,NR,PY,X,Z,V];exact J _ _ h
theorem yB(w:tW){ops:Array Oper}{rest:List Oper}{o:Oper}{a:Act}{Q:Exit->Act->tW->Prop}(Y:o.guard=none)(s x:Operand)(t:TypeId)
  (ho:o.op=.call {callee:= .builtin .append,args:= #[s,x],argTypes:= #[t,t]})
  (aH F:Nat) (e:TypeId) (z:tV) (size C:Nat) (ht:P.underlying t=some (.slice e)) (J:(P.info? e).map (λ i=>(i.zero,i.size,i.bytes))=some (some z,size,C))
  (aL:z.cells.size=size) (Z:0<size) (X:C<=1000)
  (v:tV) (n:Nat) (xs:List tV) (sv:tV) (m:Nat) (ys:List tV) (hs:a.eval s=v) (V:w.ownsRow aH e size v n xs)
  (hx:a.eval x=sv) (D:w.ownsRow F e size sv m ys) (h1:∀u∈ys,u.oneCell'=true) (hm:0<m)
  (hn:n+m<=1000000000) (I:aH<=w.heap.size)
  (h:∀g aJ w',w'.ownsRow aH e size (.slice (some ⟨g,0,none⟩) (n+m) aJ) (n+m) (xs++ys)->w.grownBy w' v.ownBlock->(v.ownBlock=some g\/g=w.heap.size)->g<w'.heap.size->
   wpList P ops Q rest (a.put o.dst (.slice (some ⟨g,0,none⟩) (n+m) aJ)) w'):wpList P ops Q (o::rest) a w:=by
 obtain⟨i,hi,hz,U,hb⟩:=QT J;obtain⟨g,aJ,rfl,aO,aR⟩:=D.form hm;refine QX _ Y s x t ho aH e i z size C ht hi hz U hb aL Z v n xs hs V ⟨g,0,none⟩ m aJ ys hx D.1 (D.cells rfl) h1 hm (by unfold QZ;omega) ?_ I _ rfl h;have:=NH hn X;omega
theorem lN{a w w1:tW}{o:Obj}{v:tV}{xs:List tV}(h:Below B a w)(F:B<=w.heap.size)(D:w.ownsRow aH e size v n xs)(I:B<=aH)
  (hg:(w.alloc o).grownBy w1 v.ownBlock):Below B a w1:=
 (h.alloc F o).grown hg (by simp;omega) (λ k C=>by have:=D.lt k C;omega)
def bt(s:tB)(i:Nat):Nat:=(s.data.toList.getD i 0).toNat
theorem mT(s:tB)(i:Nat):bt s i<256:=by
 unfold bt;exact UInt8.toNat_lt _
theorem kL(s:tB)(i:Nat)(h:i<s.size):(s[i]).toNat=bt s i:=by
 unfold bt;have:i<s.data.toList.length:=by simpa using h
 rw[List.getD_eq_getElem?_getD,LQ this]
 rfl
def kT(s:tB)(i n:Nat)(most:Int):Bool:=
 decide (i+n<=s.size)&&decide (∀j,j<n->(bt s (i+j):Int)<=most)
theorem Ie{s:tB}(h:s.size<i+n):kT s i n most=false:=by
 unfold kT;simp;omega
theorem oD{s:tB}(h:i+n<=s.size)(o:∀j,j<n->(bt s (i+j):Int)<=most):kT s i n most=true:=by
 unfold kT;simp[h];exact o
theorem Ve{s:tB}(o:j<n)(C:most<(bt s (i+j):Int)):kT s i n most=false:=by
 unfold kT;simp only[Bool.and_eq_false_iff,aF];right;intro h;have:=h j o;omega
def I4(s:tB)(aX aM n at_:Nat):Bool:=
 decide (bt s at_<=aX)&&decide (∀k,k<aM->bt s (at_+(k+1))<n\/bt s (at_+(k+1))=255)
def rY(s:tB)(aX aM i:Nat):Bool:=
 decide (i+1<=s.size)&&(decide (bt s i<=100)&&(decide (bt s i≠0)&&(decide (i+1+bt s i*(1+aM)<=s.size) &&
  decide (∀st,st<bt s i->I4 s aX aM (bt s i) (i+1+st*(1+aM))=true))))
theorem qK{s:tB}{at_:Nat}:I4 s aX aM n at_=true↔
  bt s at_<=aX/\∀k,k<aM->bt s (at_+(k+1))<n\/bt s (at_+(k+1))=255:=by
 unfold I4;simp only[ME,aE]
theorem nJ{s:tB}:rY s aX aM i=true↔
  i+1<=s.size/\bt s i<=100/\bt s i≠0/\i+1+bt s i*(1+aM)<=s.size/\
   ∀st,st<bt s i->I4 s aX aM (bt s i) (i+1+st*(1+aM))=true:=by
 unfold rY;simp only[ME,aE]
def IQ(s:tB)(aX aM i:Nat):Nat:=if rY s aX aM i=true then bt s i else 0
def tZ(s:tB)(aX aM i:Nat):Nat:=if rY s aX aM i=true then i+1+bt s i*(1+aM)else i
theorem Hm{s:tB}(h:¬(rY s aX aM i=true)):
  IQ s aX aM i=0/\tZ s aX aM i=i/\rY s aX aM i=false:=by
 refine⟨?_,?_,?_⟩
 ·simp[IQ,h]
 ·simp[tZ,h]
 ·simpa using h
theorem Ec{s:tB}(h:rY s aX aM i=true):
  IQ s aX aM i=bt s i/\tZ s aX aM i=i+1+bt s i*(1+aM):=by
 refine⟨?_,?_⟩
 ·simp[IQ,h]
 ·simp[tZ,h]
def iR(s:tB):Nat:=bt s 3
def iM(s:tB):Nat:=bt s (4+iR s)
def iK(s:tB):Nat:=bt s (5+iR s)+1
def pF(s:tB):Nat->Nat
 | 0=>262+iR s
 | c+1=>tZ s (iR s) (iK s) (pF s c)
def B0(s:tB):Bool:=
 decide (4<=s.size)&&(decide (bt s 0=83/\bt s 1=84/\bt s 2=1)&&(decide (1<=iR s)&&decide (iR s<=8)))
def xJ(s:tB):Bool:=kT s (4+iR s) 1 4&&decide (iM s≠0)
def zO(s:tB):Bool:=kT s 4 (iR s) (1+(iM s:Int))&&kT s (5+iR s) 1 255
def yH(s:tB):Bool:=kT s (6+iR s) 256 ((iK s:Int)-1)
def iF(s:tB):Bool:=
 B0 s&&(xJ s&&(zO s&&(yH s&&(decide (∀c,c<iM s->rY s (iR s) (iK s) (pF s c)=true)&&decide (pF s (iM s)=s.size)))))
theorem JL(s:tB):1<=iK s:=by unfold iK;omega
theorem Ti(s:tB):iK s<=256:=by unfold iK;have:=mT s (5+iR s);omega
theorem mM{s:tB}:iF s=true↔
  B0 s=true/\xJ s=true/\zO s=true/\yH s=true/\(∀c,c<iM s->rY s (iR s) (iK s) (pF s c)=true)/\pF s (iM s)=s.size:=by
 unfold iF;simp only[ME,aE]
theorem pK{s:tB}:B0 s=true↔4<=s.size/\(bt s 0=83/\bt s 1=84/\bt s 2=1)/\1<=iR s/\iR s<=8:=by
 unfold B0;simp only[ME,aE]
theorem B3{s:tB}(h:rY s (iR s) (iK s) (pF s c)=true):
  pF s (c+1)=pF s c+1+bt s (pF s c)*(1+iK s)/\pF s (c+1)<=s.size:=by
 have o:pF s (c+1)=tZ s (iR s) (iK s) (pF s c):=rfl;rw[o,(Ec h).2];exact⟨rfl,(nJ.1 h).2.2.2.1⟩
theorem sB{s:tB}(h:kT s i n m=true):i+n<=s.size:=by
 unfold kT at h;simp only[ME,aE]at h;exact h.1
theorem yF{s:tB}(h:kT s i n m=true):∀j,j<n->(bt s (i+j):Int)<=m:=by
 unfold kT at h;simp only[ME,aE]at h;exact h.2
theorem Wr{s:tB}(h:B0 s=false):iF s=false:=by
 unfold iF;rw[h];rfl
theorem Ws{s:tB}(h:xJ s=false):iF s=false:=by
 unfold iF;rw[h];simp
theorem Wt{s:tB}(h:zO s=false):iF s=false:=by
 unfold iF;rw[h];simp
theorem Wu{s:tB}(h:yH s=false):iF s=false:=by
 unfold iF;rw[h];simp
theorem Qh{s:tB}(o:c<iM s)(h:rY s (iR s) (iK s) (pF s c)=false):iF s=false:=by
 cases hi:iF s with
 | false=>rfl
 | true=>rw[mM]at hi;rw[hi.2.2.2.2.1 c o]at h;cases h
def rA(s:tB)(c:Nat):Nat:=bt s (pF s c)
def qD(s:tB)(c st:Nat):Nat:=pF s c+1+st*(1+iK s)
def tK(s:tB)(v:Nat):Nat:=bt s (6+iR s+v)
def iA(s:tB)(c st v:Nat):Nat:=bt s (qD s c st+1+tK s v)
def jM(s:tB)(c st:Nat):Nat:=bt s (qD s c st)
theorem kZ{s:tB}(h:iF s=true):iR s<=8/\1<=iR s/\1<=iM s/\iM s<=4/\6+iR s+256<=s.size:=by
 rw[mM]at h;have C:=pK.1 h.1;have o:=h.2.1;unfold xJ at o;simp only[ME,aE]at o;have F:=yF o.1 0 (by omega);have D:=h.2.2.2.1;unfold yH at D;have:=sB D;have e:(bt s (4+iR s+0):Int)=(iM s:Int):=rfl;rw[e]at F;exact⟨C.2.2.2,C.2.2.1,by omega,by omega,by omega⟩
theorem wK{s:tB}(h:iF s=true)(v:Nat)(C:v<256):tK s v<iK s:=by
 rw[mM]at h;have o:=h.2.2.2.1;unfold yH at o;have:=yF o v C;unfold tK;omega
theorem B5{s:tB}(h:iF s=true){c:Nat}(o:c<iM s):rY s (iR s) (iK s) (pF s c)=true:=(mM.1 h).2.2.2.2.1 c o
theorem Rl{s:tB}(h:iF s=true){c st:Nat}(C:c<iM s)(o:st<rA s c):qD s c st+iK s<s.size:=by
 have D:=nJ.1 (B5 h C);have F:=D.2.2.2.1;unfold qD rA at*;have:st*(1+iK s)+(1+iK s)<=bt s (pF s c)*(1+iK s):=by
  have:=OL (1+iK s) (show st+1<=bt s (pF s c) from o);rw[NO]at this;omega
 omega
theorem EU{s:tB}(h:iF s=true){c st v:Nat}(C:c<iM s)(o:st<rA s c)(D:v<256):qD s c st+1+tK s v<s.size:=by
 have:=Rl h C o;have:=wK h v D;omega
theorem Iu{s:tB}(h:iF s=true){c st v:Nat}(D:c<iM s)(o:st<rA s c)(I:v<256):iA s c st v<rA s c\/iA s c st v=255:=by
 have F:=nJ.1 (B5 h D);have C:=F.2.2.2.2 st o;rw[qK]at C;have:=C.2 (tK s v) (wK h v I);unfold iA qD rA;have e:pF s c+1+st*(1+iK s)+(tK s v+1)=pF s c+1+st*(1+iK s)+1+tK s v:=by omega
 rw[e]at this;exact this
theorem Tt{s:tB}(h:iF s=true){c st:Nat}(D:c<iM s)(o:st<rA s c):jM s c st<=iR s:=by
 have F:=nJ.1 (B5 h D);have C:=F.2.2.2.2 st o;rw[qK]at C;exact C.1
theorem K5{s:tB}(h:iF s=true){c:Nat}(C:c<iM s):rA s c<=100/\1<=rA s c:=by
 have o:=nJ.1 (B5 h C);unfold rA;have:=o.2.1;have:=o.2.2.1;omega
theorem Nd(s:tB)(c st:Nat):((pF s c+1:Nat):Int)+(st:Int)*(1+(iK s:Int))=(qD s c st:Int):=by
 unfold qD;simp
abbrev vY:=Nat×Bool
def iX(s:tB)(lo hi:Nat)(r:vY):Nat×vY:=
 if r.1<s.size then
  if bt s r.1<lo\/hi<bt s r.1 then(lo,(r.1+1,true))else(bt s r.1,(r.1+1,r.2))
 else(lo,(r.1,true))
def oO(s:tB)(hi:Nat):Nat->List Nat->vY->List Nat×vY
 | 0,l,r=>(l,r)
 | n+1,l,r=>oO s hi n (l++[(iX s 0 hi r).1]) (iX s 0 hi r).2
def rF(s:tB)(o:Nat)(r:vY):Int×vY:=
 if(iX s 0 255 r).1=255 then(-1,(iX s 0 255 r).2)
 else if o<=(iX s 0 255 r).1 then(((iX s 0 255 r).1:Int),((iX s 0 255 r).2.1,true))
 else(((iX s 0 255 r).1:Int),(iX s 0 255 r).2)
def oY(s:tB)(o:Nat):Nat->List Int->vY->List Int×vY
 | 0,l,r=>(l,r)
 | n+1,l,r=>oY s o n (l++[(rF s o r).1]) (rF s o r).2
def At(s:tB)(aX o C:Nat):Nat->List (Nat×List Int)->vY->List (Nat×List Int)×vY
 | 0,l,r=>(l,r)
 | n+1,l,r=>At s aX o C n (l++[((iX s 0 aX r).1,(oY s C o [] (iX s 0 aX r).2).1)]) (oY s C o [] (iX s 0 aX r).2).2
def rE(s:tB)(aX o:Nat)(r:vY):List (Nat×List Int)×vY:=
 At s aX o (iX s 1 100 r).1 (iX s 1 100 r).1 [] (iX s 1 100 r).2
def pX(s:tB)(aX o:Nat):Nat->List (List (Nat×List Int))->vY->List (List (Nat×List Int))×vY
 | 0,l,r=>(l,r)
 | n+1,l,r=>pX s aX o n (l++[(rE s aX o r).1]) (rE s aX o r).2
def vF(l:List Nat)(m:Nat):Bool:=decide (∃x∈l,m<x)
def x4(s:tB):vY:=(iX s 1 1 (iX s 84 84 (iX s 83 83 (0,false)).2).2).2
def jU(s:tB):Nat:=(iX s 1 8 (x4 s)).1
def Wl(s:tB):vY:=(iX s 1 8 (x4 s)).2
def oH(s:tB):List Nat:=(oO s 5 (jU s) [] (Wl s)).1
def Nu(s:tB):vY:=(oO s 5 (jU s) [] (Wl s)).2
def xK(s:tB):Nat:=(iX s 1 4 (Nu s)).1
def Pv(s:tB):vY:=((iX s 1 4 (Nu s)).2.1,(iX s 1 4 (Nu s)).2.2||vF (oH s) (1+xK s))
def mV(s:tB):Nat:=1+(iX s 0 255 (Pv s)).1
def Tm(s:tB):vY:=(iX s 0 255 (Pv s)).2
def gP(s:tB):List Nat:=(oO s (mV s-1) 256 [] (Tm s)).1
def x7(s:tB):vY:=(oO s (mV s-1) 256 [] (Tm s)).2
def J8(s:tB):List (List (Nat×List Int)):=(pX s (jU s) (mV s) (xK s) [] (x7 s)).1
def Nv(s:tB):vY:=(pX s (jU s) (mV s) (xK s) [] (x7 s)).2
theorem Q7{s:tB}{r:vY}(h:lo<=hi):lo<=(iX s lo hi r).1/\(iX s lo hi r).1<=hi:=by
 unfold iX;split
 ·split
  ·exact⟨lR,h⟩
  ·rename_i o;simp only;omega
 ·exact⟨lR,h⟩
theorem lV{s:tB}{r:vY}(h:r.1<=s.size):(iX s lo hi r).2.1<=s.size:=by
 unfold iX;split
 ·split<;>simp only<;>omega
 ·exact h
theorem Q6{s:tB}{r:vY}(h:r.2=true):(iX s lo hi r).2.2=true:=by
 unfold iX;split
 ·split
  ·rfl
  ·exact h
 ·rfl
theorem kP{s:tB}{a:Nat}(h:a<s.size)(o:lo<=bt s a)(C:bt s a<=hi):iX s lo hi (a,false)=(bt s a,(a+1,false)):=by
 unfold iX;rw[aB h,aA (by simp only;omega)]
theorem pM{s:tB}{r:vY}(h:(iX s lo hi r).2.2=false):r.2=false/\r.1<s.size/\lo<=bt s r.1/\bt s r.1<=hi:=by
 unfold iX at h;split at h
 ·split at h
  ·cases h
  ·rename_i o C;exact⟨h,o,by omega,by omega⟩
 ·cases h
theorem Db{s:tB}:∀n l r,r.1<=s.size->(oO s hi n l r).2.1<=s.size:=by
 intro n;induction n with
 | zero=>intro l r h;exact h
 | succ k ih=>intro l r h;exact ih _ _ (lV h)
theorem lQ{s:tB}:∀n l r,(oO s hi n l r).1.length=l.length+n:=by
 intro n;induction n with
 | zero=>intro l r;rfl
 | succ k ih=>intro l r;rw[oO,ih];simp;omega
theorem AE{s:tB}:∀n l r,(∀x∈l,x<=hi)->∀x∈(oO s hi n l r).1,x<=hi:=by
 intro n;induction n with
 | zero=>intro l r h;exact h
 | succ k ih=>
  intro l r h;refine ih _ _ (λ x C=>?_);rcases MT.1 C with o|o
  ·exact h x o
  ·rw[MR]at o;rw[o];exact(Q7 zL).2
theorem Dc{s:tB}:∀n l r,(oO s hi n l r).2.2=false->r.2=false/\(r.1<=s.size->r.1+n<=s.size)/\∀j,j<n->bt s (r.1+j)<=hi:=by
 intro n;induction n with
 | zero=>intro l r h;exact⟨h,λ h=>h,λ j J=>by omega⟩
 | succ k ih=>
  intro l r h;rw[oO]at h;obtain⟨I,o,C⟩:=ih _ _ h;obtain⟨D,F,Q,g4⟩:=pM I;have e:iX s 0 hi r=(bt s r.1,(r.1+1,false)):=by
   have:r=(r.1,false):=by rw[<-D]
   rw[this];exact kP F (by omega) g4
  rw[e]at o C;simp only at o C;refine⟨D,λ _=>by have:=o (by omega);omega,λ j J=>?_⟩
  cases j with
  | zero=>exact g4
  | succ m=>have:=C m (by omega);rw[show r.1+(m+1)=r.1+1+m by omega];exact this
theorem U9{s:tB}:∀n l a,a+n<=s.size->(∀j,j<n->bt s (a+j)<=hi)->oO s hi n l (a,false)=(l++(MH n).map (λ j=>bt s (a+j)),(a+n,false)):=by
 intro n;induction n with
 | zero=>intro l a _ _;simp[oO]
 | succ k ih=>
  intro l a C o;have e:=kP (s:=s) (lo:=0) (hi:=hi) (a:=a) (by omega) zL (o 0 (by omega));rw[oO,e];rw[ih _ _ (by omega) (λ j D=>by have:=o (j+1) (by omega);rw[show a+1+j=a+(j+1) by omega];exact this)];refine Prod.ext ?_ (by simp only;congr 1;omega);simp only[NU];congr 1;rw[NQ];simp only[NR,PB];rw[NT];congr 1;refine MN (λ j _=>?_);simp only[Function.comp];rw[show a+1+j=a+(j+1) by omega]
def oM(x:Nat):Int:=if x=255 then -1 else(x:Int)
theorem Lt{s:tB}{r:vY}(h:r.1<=s.size):(rF s n r).2.1<=s.size:=by
 unfold rF;split
 ·exact lV h
 ·split<;>exact lV h
theorem Wi{s:tB}{r:vY}(h:r.2=true):(rF s n r).2.2=true:=by
 unfold rF;split
 ·exact Q6 h
 ·split
  ·rfl
  ·exact Q6 h
theorem Ps{s:tB}{r:vY}(h:(rF s n r).2.2=false):r.2=false/\r.1<s.size/\(bt s r.1<n\/bt s r.1=255):=by
 have hg:(iX s 0 255 r).2.2=false:=by
  unfold rF at h;split at h
  ·exact h
  ·split at h
   ·cases h
   ·exact h
 obtain⟨o,C,D,g4⟩:=pM hg;have e:iX s 0 255 r=(bt s r.1,(r.1+1,false)):=by
  have:r=(r.1,false):=by rw[<-o]
  rw[this];exact kP C (by omega) g4
 refine⟨o,C,?_⟩;unfold rF at h;rw[e]at h;simp only at h;split at h
 ·right;assumption
 ·split at h
  ·cases h
  ·left;omega
theorem Gl{s:tB}{a:Nat}(h:a<s.size)(C:bt s a<n\/bt s a=255):rF s n (a,false)=(oM (bt s a),(a+1,false)):=by
 have e:=kP (s:=s) (lo:=0) (hi:=255) (a:=a) h zL (by have:=mT s a;omega);unfold rF oM;rw[e];simp only;by_cases o:bt s a=255
 ·rw[aB o,aB o]
 ·rw[aA o,aA o,aA (by omega)]
theorem Wj{s:tB}:∀n l r,r.1<=s.size->(oY s c n l r).2.1<=s.size:=by
 intro n;induction n with
 | zero=>intro l r h;exact h
 | succ k ih=>intro l r h;exact ih _ _ (Lt h)
theorem Pt{s:tB}:∀n l r,r.2=true->(oY s c n l r).2.2=true:=by
 intro n;induction n with
 | zero=>intro l r h;exact h
 | succ k ih=>intro l r h;exact ih _ _ (Wi h)
theorem Lu{s:tB}:∀n l r,(oY s c n l r).2.2=false->r.2=false/\(r.1<=s.size->r.1+n<=s.size)/\∀j,j<n->bt s (r.1+j)<c\/bt s (r.1+j)=255:=by
 intro n;induction n with
 | zero=>intro l r h;exact⟨h,λ h=>h,λ j J=>by omega⟩
 | succ k ih=>
  intro l r h;rw[oY]at h;obtain⟨I,o,C⟩:=ih _ _ h;obtain⟨D,F,g4⟩:=Ps I;have e:rF s c r=(oM (bt s r.1),(r.1+1,false)):=by
   have:r=(r.1,false):=by rw[<-D]
   rw[this];exact Gl F g4
  rw[e]at o C;simp only at o C;refine⟨D,λ _=>by have:=o (by omega);omega,λ j J=>?_⟩
  cases j with
  | zero=>exact g4
  | succ m=>have:=C m (by omega);rw[show r.1+(m+1)=r.1+1+m by omega];exact this
theorem Pu{s:tB}:∀n l a,a+n<=s.size->(∀j,j<n->bt s (a+j)<c\/bt s (a+j)=255)->oY s c n l (a,false)=(l++(MH n).map (λ j=>oM (bt s (a+j))),(a+n,false)):=by
 intro n;induction n with
 | zero=>intro l a _ _;simp[oY]
 | succ k ih=>
  intro l a C o;have e:=Gl (s:=s) (n:=c) (a:=a) (by omega) (o 0 (by omega));rw[oY,e];rw[ih _ _ (by omega) (λ j D=>by have:=o (j+1) (by omega);rw[show a+1+j=a+(j+1) by omega];exact this)];refine Prod.ext ?_ (by simp only;congr 1;omega);simp only[NU];congr 1;rw[NQ];simp only[NR,PB];rw[NT];congr 1;refine MN (λ j _=>?_);simp only[Function.comp];rw[show a+1+j=a+(j+1) by omega]
def Jh(s:tB)(o a:Nat):Nat×List Int:=(bt s a,(MH o).map λ k=>oM (bt s (a+(k+1))))
theorem GQ{s:tB}:∀n l r,r.1<=s.size->(At s ru cl c n l r).2.1<=s.size:=by
 intro n;induction n with
 | zero=>intro l r h;exact h
 | succ k ih=>intro l r h;exact ih _ _ (Wj _ _ _ (lV h))
theorem CF{s:tB}:∀n l r,r.2=true->(At s ru cl c n l r).2.2=true:=by
 intro n;induction n with
 | zero=>intro l r h;exact h
 | succ k ih=>intro l r h;exact ih _ _ (Pt _ _ _ (Q6 h))
theorem BN{s:tB}{r:vY}(h:(oY s c cl [] (iX s 0 ru r).2).2.2=false):r.2=false/\r.1+1+cl<=s.size/\I4 s ru cl c r.1=true:=by
 obtain⟨I,o,C⟩:=Lu _ _ _ h;obtain⟨D,F,Q,g4⟩:=pM I;have e:iX s 0 ru r=(bt s r.1,(r.1+1,false)):=by
  have:r=(r.1,false):=by rw[<-D]
  rw[this];exact kP F (by omega) g4
 rw[e]at o C;simp only at o C;refine⟨D,o (by omega),qK.2 ⟨g4,λ k J=>?_⟩⟩;have:=C k J;rw[show r.1+(k+1)=r.1+1+k by omega];exact this
theorem Ue{s:tB}{a:Nat}(h:a+1+cl<=s.size)(o:I4 s ru cl c a=true):
  iX s 0 ru (a,false)=(bt s a,(a+1,false))/\oY s c cl [] (a+1,false)=((Jh s cl a).2,(a+(1+cl),false)):=by
 obtain⟨C,D⟩:=qK.1 o;refine⟨kP (by omega) (by omega) C,?_⟩;rw[Pu _ _ _ (by omega) (λ j F=>by have:=D j F;rw[show a+1+j=a+(j+1) by omega];exact this)];refine Prod.ext ?_ (by simp only;congr 1;omega);simp only[OR,Jh];refine MN (λ j _=>?_);rw[show a+1+j=a+(j+1) by omega]
theorem Yr{s:tB}:∀n l r,(At s ru cl c n l r).2.2=false->r.2=false/\(r.1<=s.size->r.1+n*(1+cl)<=s.size)/\∀j,j<n->I4 s ru cl c (r.1+j*(1+cl))=true:=by
 intro n;induction n with
 | zero=>intro l r h;exact⟨h,λ h=>by omega,λ j V=>by omega⟩
 | succ k ih=>
  intro l r h;rw[At]at h;obtain⟨U,o,C⟩:=ih _ _ h;obtain⟨F,Q,g4⟩:=BN U;have J:r=(r.1,false):=by rw[<-F]
  obtain⟨D,I⟩:=Ue Q g4;rw[<-J]at D;rw[D]at o C;simp only at o C;rw[I]at o C;simp only at o C;refine⟨F,λ _=>by have:=o (by omega);rw[NO];omega,λ j V=>?_⟩
  cases j with
  | zero=>simpa using g4
  | succ m=>have:=C m (by omega);rw[show r.1+(m+1)*(1+cl)=r.1+(1+cl)+m*(1+cl) by rw[NO];omega];exact this
theorem CG{s:tB}:∀n l a,a+n*(1+cl)<=s.size->(∀j,j<n->I4 s ru cl c (a+j*(1+cl))=true)->
  At s ru cl c n l (a,false)=(l++(MH n).map (λ j=>Jh s cl (a+j*(1+cl))),(a+n*(1+cl),false)):=by
 intro n;induction n with
 | zero=>intro l a _ _;simp[At]
 | succ k ih=>
  intro l a F o;rw[NO]at F;obtain⟨C,D⟩:=Ue (s:=s) (ru:=ru) (cl:=cl) (c:=c) (a:=a) (by omega) (by simpa using o 0 (by omega));rw[At,C];simp only;rw[D];simp only;rw[ih _ _ (by omega) (λ j I=>by have:=o (j+1) (by omega);rw[show a+(1+cl)+j*(1+cl)=a+(j+1)*(1+cl) by rw[NO];omega];exact this)];refine Prod.ext ?_ (by simp only;congr 1;rw[NO];omega);simp only[NU];congr 1;rw[NQ];simp only[NR,PB];rw[NT];congr 1
  ·simp[Jh]
  refine MN (λ j _=>?_);simp only[Function.comp];rw[show a+(1+cl)+j*(1+cl)=a+(j+1)*(1+cl) by rw[NO];omega]
theorem Kx{s:tB}{r:vY}(h:r.1<=s.size):(rE s ru cl r).2.1<=s.size:=GQ _ _ _ (lV h)
theorem Ga{s:tB}{r:vY}(h:r.2=true):(rE s ru cl r).2.2=true:=CF _ _ _ (Q6 h)
theorem Ox{s:tB}{r:vY}(h:(rE s ru cl r).2.2=false):r.2=false/\rY s ru cl r.1=true:=by
 unfold rE at h;obtain⟨J,o,C⟩:=Yr _ _ _ h;obtain⟨D,F,I,g4⟩:=pM J;have e:iX s 1 100 r=(bt s r.1,(r.1+1,false)):=by
  have:r=(r.1,false):=by rw[<-D]
  rw[this];exact kP F I g4
 rw[e]at o C;simp only at o C;exact⟨D,nJ.2 ⟨by omega,g4,by omega,o (by omega),C⟩⟩
theorem Gb{s:tB}{a:Nat}(h:rY s ru cl a=true):rE s ru cl (a,false)=((MH (bt s a)).map (λ j=>Jh s cl (a+1+j*(1+cl))),(tZ s ru cl a,false)):=by
 obtain⟨F,o,I,C,D⟩:=nJ.1 h;have e:=kP (s:=s) (lo:=1) (hi:=100) (a:=a) (by omega) (by omega) o;unfold rE;rw[e];simp only;rw[CG _ _ _ C D,(Ec h).2];simp
theorem Vi{s:tB}:∀n l r,r.1<=s.size->(pX s ru cl n l r).2.1<=s.size:=by
 intro n;induction n with
 | zero=>intro l r h;exact h
 | succ k ih=>intro l r h;exact ih _ _ (Kx h)
theorem Kz{s:tB}:∀n l c r,r.1=pF s c->(pX s (iR s) (iK s) n l r).2.2=false->r.2=false/\(∀j,j<n->rY s (iR s) (iK s) (pF s (c+j))=true)/\(pX s (iR s) (iK s) n l r).2.1=pF s (c+n):=by
 intro n;induction n with
 | zero=>intro l c r C h;exact⟨h,λ j U=>by omega,C⟩
 | succ k ih=>
  intro l c r C h;rw[pX]at h ⊢;have o:(rE s (iR s) (iK s) r).2.2=false:=by
   cases hb:(rE s (iR s) (iK s) r).2.2 with
   | false=>rfl
   | true=>
    have:∀n l (r:vY),r.2=true->(pX s (iR s) (iK s) n l r).2.2=true:=by
     intro n;induction n with
     | zero=>intro l r h;exact h
     | succ k ih=>intro l r h;exact ih _ _ (Ga h)
    rw[this _ _ _ hb]at h;cases h
  obtain⟨F,D⟩:=Ox o;have I:r=(r.1,false):=by rw[<-F]
  have e:=Gb D;rw[<-I,C]at e;obtain⟨V,J,Q⟩:=ih (l++[(rE s (iR s) (iK s) r).1]) (c+1) (rE s (iR s) (iK s) r).2 (by rw[e];rfl) h;refine⟨F,λ j U=>?_,by rw[Q];congr 1;omega⟩
  cases j with
  | zero=>rw[C]at D;exact D
  | succ m=>have:=J m (by omega);rw[show c+(m+1)=c+1+m by omega];exact this
theorem Pa{s:tB}:∀n l c,(∀j,j<n->rY s (iR s) (iK s) (pF s (c+j))=true)->
  pX s (iR s) (iK s) n l (pF s c,false)=(l++(MH n).map (λ j=>(MH (rA s (c+j))).map λ st=>Jh s (iK s) (qD s (c+j) st)),(pF s (c+n),false)):=by
 intro n;induction n with
 | zero=>intro l c _;simp[pX]
 | succ k ih=>
  intro l c h;have e:=Gb (h 0 (by omega));rw[Nat.add_zero]at e;rw[pX,e];simp only;have o:tZ s (iR s) (iK s) (pF s c)=pF s (c+1):=rfl;rw[o,ih _ _ (λ j C=>by have:=h (j+1) (by omega);rw[show c+1+j=c+(j+1) by omega];exact this)];refine Prod.ext ?_ (by simp only;congr 2;omega);simp only[NU];congr 1;rw[NQ];simp only[NR,PB];rw[NT];refine congr (congrArg List.cons rfl) ?_;refine MN (λ j _=>?_);simp only[Function.comp];rw[show c+1+j=c+(j+1) by omega]
theorem lD(w:tW){ops:Array Oper}{rest:List Oper}{o:Oper}{a:Act}{Q:Exit->Act->tW->Prop}(U:o.guard=none)(s x:Operand)(t:TypeId)
  (Z:o.op=.call {callee:= .builtin .append,args:= #[s,x],argTypes:= #[t,t]})
  (aH:Nat) (e:TypeId) (z:tV) (size C:Nat) (ht:P.underlying t=some (.slice e)) (D:(P.info? e).map (λ i=>(i.zero,i.size,i.bytes))=some (some z,size,C))
  (g k aJ:Nat) (xs cs:List tV) (J:TypeId) (hs:a.eval s=.slice (some ⟨g,0,none⟩) k aJ) (I:w.ownsRow aH e size (.slice (some ⟨g,0,none⟩) k aJ) k xs)
  (B:Nat) (X:w.heap.size=B) (hx:a.eval x=.slice (some ⟨B,0,none⟩) 1 1) (hl:cs.length=size) (V:∀u∈cs,u.oneCell'=true) (Y:k+1<=aJ)
  (h:∀w',w'.ownsRow aH e size (.slice (some ⟨g,0,none⟩) (k+1) aJ) (k+1) (xs++cs)->(w.alloc (.cells cs.toArray J)).grownBy w' (some g)->
   wpList P ops Q rest (a.put o.dst (.slice (some ⟨g,0,none⟩) (k+1) aJ)) w'):wpList P ops Q (o::rest) a (w.alloc (.cells cs.toArray J)):=by
 subst X;obtain⟨i,hi,hz,F,hb⟩:=QT D;refine wpList_append_fits _ U s x t Z aH e i size ht hi F g k aJ xs hs (I.alloc _) ⟨w.heap.size,0,none⟩ 1 1 cs hx (by omega) ?_ V Y h;have:=NM (w:=w.alloc (.cells cs.toArray J)) (B:=w.heap.size) (cs:=cs.toArray) (t:=J) (fr:=(0,0)) (QV w _);simpa using this
theorem U0{a w w':tW}(h:a.grownBy w r)(k:w.grownBy w' (some B))(C:a.heap.size<=B):a.grownBy w' r:=
 ⟨k.os.trans h.os,k.tape.trans h.tape,k.output.trans h.output,NE h.size k.size,λ i hi o=>(k.block i (LJ hi h.size) (by intro e;injection e;omega)).trans (h.block i hi o)⟩
theorem T9{a w:tW}(h:a.grownBy w none)(r:Option Nat):a.grownBy w r:=⟨h.os,h.tape,h.output,h.size,λ i hi _=>h.block i hi (by simp)⟩
def oZ(l:List Nat):List tV:=l.map λ(x:Nat)=>ML .i64 (x:Int)
def pR(l:List Int):List tV:=l.map λ(x:Int)=>ML .i64 x
theorem sD(l:List Nat)(x:Nat):oZ (l++[x])=oZ l++[.int .i64 (x:Int)]:=by simp[oZ]
theorem tP(l:List Int)(x:Int):pR (l++[x])=pR l++[.int .i64 x]:=by simp[pR]
def Jv(cl:Nat)(zs:List ((Nat×List Int)×Nat)):List tV:=zs.flatMap λ z=>[ML .i64 (z.1.1:Int),MY (some ⟨z.2,0,none⟩) cl cl]
theorem Nq(cl:Nat)(zs:List ((Nat×List Int)×Nat))(z:(Nat×List Int)×Nat):Jv cl (zs++[z])=Jv cl zs++[ML .i64 (z.1.1:Int),MY (some ⟨z.2,0,none⟩) cl cl]:=by simp[Jv]
def pO(w:tW)(lo:Nat)(zs:List ((Nat×List Int)×Nat)):Prop:=∀z∈zs,lo<=z.2/\z.2<w.heap.size/\w.rangeAt z.2 0 (pR z.1.2)
theorem pO.grown{w w':tW}(h:pO w lo zs)(hg:w.grownBy w' (some g))(I:g<lo):pO w' lo zs:=λ z F=>by
 obtain⟨C,o,D⟩:=h z F;exact⟨C,LJ o hg.size,fY D (hg.block z.2 o (by intro e;injection e;omega))⟩
theorem pO.nil(w:tW)(lo:Nat):pO w lo []:=λ _ o=>absurd o (OJ)
theorem pO.snoc{w:tW}{z:(Nat×List Int)×Nat}(h:pO w lo zs)(C:lo<=z.2/\z.2<w.heap.size/\w.rangeAt z.2 0 (pR z.1.2)):pO w lo (zs++[z]):=λ y D=>by
 rcases MT.1 D with o|o
 ·exact h y o
 ·rw[MR]at o;rw[o];exact C
theorem pO.below{w w':tW}(h:pO w lo zs)(hg:RowKit.Below B w w')(I:w.heap.size<=B):pO w' lo zs:=λ z F=>by
 obtain⟨o,C,D⟩:=h z F;exact⟨o,LJ C hg.size,fY D (hg.block z.2 (by omega))⟩
theorem nV{w:tW}{e k aJ:Nat}{xs:List tV}(h:w.ownsRow aH e 1 (.slice (some ⟨g,0,none⟩) k aJ) k xs):w.rangeAt g 0 xs:=λ j v C=>by
 have:=h.cells rfl j v C;by_cases o:j=0
 ·subst o;simpa[Addr.add]using this
 ·simpa[Addr.add,o]using this
def oP(s aI:tB)(c p:Nat):Nat->Option Nat
 | 0=>some 0
 | d+1=>match oP s aI c p d with
  | none=>none
  | some st=>if iA s c st (bt aI (p+d))=255 then none else some (iA s c st (bt aI (p+d)))
def zP(s aI:tB)(c p d:Nat):Option Nat:=
 match oP s aI c p d with
 | none=>none
 | some st=>if 0<jM s c st then some (jM s c st-1)else none
def sN(s aI:tB)(c p:Nat):Nat->Int×Nat
 | 0=>(-1,p)
 | d+1=>match zP s aI c p (d+1)with
  | some r=>((r:Int),p+(d+1))
  | none=>sN s aI c p d
theorem Am{s aI:tB}(h:oP s aI c p d=some st):
  oP s aI c p (d+1)=if iA s c st (bt aI (p+d))=255 then none else some (iA s c st (bt aI (p+d))):=by
 rw[oP,h]
theorem Ns{s aI:tB}(h:oP s aI c p j=none):∀d,j<=d->oP s aI c p d=none:=by
 intro d o
 induction d with
 | zero=>
  have:j=0:=by omega
  subst this;exact h
 | succ n ih=>
  by_cases e:j=n+1
  ·rw[<-e];exact h
  ·rw[oP,ih (by omega)]
theorem yS{s aI:tB}(hi:iF s=true){c p:Nat}(o:c<iM s):∀d st,oP s aI c p d=some st->st<rA s c:=by
 intro d
 induction d with
 | zero=>intro st h;rw[oP]at h;have:=(K5 hi o).2;simp at h;omega
 | succ n ih=>
  intro st h
  cases h2:oP s aI c p n with
  | none=>rw[oP,h2]at h;cases h
  | some t=>
   rw[Am h2]at h;split at h
   ·cases h
   ·rcases Iu hi o (ih t h2) (mT aI (p+n))with C|C
    ·simp at h;omega
    ·contradiction
theorem K2{s aI:tB}(h:zP s aI c p (d+1)=none):sN s aI c p (d+1)=sN s aI c p d:=by
 rw[sN,h]
theorem Cr{s aI:tB}{r:Nat}(h:zP s aI c p (d+1)=some r):sN s aI c p (d+1)=((r:Int),p+(d+1)):=by
 rw[sN,h]
theorem Sp{s aI:tB}(h:oP s aI c p d=none):zP s aI c p d=none:=by
 unfold zP;rw[h]
theorem CJ{s aI:tB}(h:oP s aI c p d=some st)(o:jM s c st=0):zP s aI c p d=none:=by
 unfold zP;rw[h];simp[o]
theorem Yv{s aI:tB}(h:oP s aI c p d=some st)(o:0<jM s c st):zP s aI c p d=some (jM s c st-1):=by
 unfold zP;rw[h];simp[o]
def sV(l:List (Int×Int×Int))(x:Int×Int×Int):Bool:=l.contains x
def Fc(s aI:tB)(c p:Nat):Int×Nat:=sN s aI c p (aI.size-p)
def uR(c st i:Nat):Int×Int×Int:=((c:Int),(st:Int),(i:Int))
def pG(s aI:tB)(c:Nat)(H:List (Int×Int×Int)):Nat->Nat->Nat->List (Int×Int×Int)->Nat->List (Int×Int×Int)×Nat
 | 0,_,_,S,n=>(S,n)
 | d+1,st,i,S,n=>
  if sV H (uR c st i)=true then(S,n)
  else if iA s c st (bt aI i)=255 then(S++[uR c st i],n+1)
  else pG s aI c H d (iA s c st (bt aI i)) (i+1) (if 0<jM s c (iA s c st (bt aI i))then []else S++[uR c st i]) (n+1)
theorem C0{s aI:tB}(h:sV H (uR c st i)=true):pG s aI c H (d+1) st i S n=(S,n):=by
 rw[pG,aB h]
theorem xY{s aI:tB}{c d st i n:Nat}{H S:List (Int×Int×Int)}(h:sV H (uR c st i)=false)(o:iA s c st (bt aI i)=255):
  pG s aI c H (d+1) st i S n=(S++[uR c st i],n+1):=by
 rw[pG,aA (by rw[h];decide),aB o]
theorem C1{s aI:tB}{c d st i n:Nat}{H S:List (Int×Int×Int)}(h:sV H (uR c st i)=false)(o:iA s c st (bt aI i)≠255)(C:0<jM s c (iA s c st (bt aI i))):
  pG s aI c H (d+1) st i S n=pG s aI c H d (iA s c st (bt aI i)) (i+1) [] (n+1):=by
 rw[pG,aA (by rw[h];decide),aA o,aB C]
theorem K3{s aI:tB}{c d st i n:Nat}{H S:List (Int×Int×Int)}(h:sV H (uR c st i)=false)(o:iA s c st (bt aI i)≠255)(C:jM s c (iA s c st (bt aI i))=0):
  pG s aI c H (d+1) st i S n=pG s aI c H d (iA s c st (bt aI i)) (i+1) (S++[uR c st i]) (n+1):=by
 rw[pG,aA (by rw[h];decide),aA o,aA (by omega)]
def iE(s aI:tB)(c:Nat)(H:List (Int×Int×Int))(p:Nat):List (Int×Int×Int)×Nat:=pG s aI c H (aI.size-p) 0 p [] 0
theorem Wn{s aI:tB}:∀d st i S n,(pG s aI c H d st i S n).1.length<=S.length+d/\(pG s aI c H d st i S n).2<=n+d:=by
 intro d
 induction d with
 | zero=>intro st i S n;simp[pG]
 | succ e ih=>
  intro st i S n;rw[pG];split
  ·exact⟨by simp only;omega,by simp only;omega⟩
  ·split
   ·simp
   ·have:=ih (iA s c st (bt aI i)) (i+1) (if 0<jM s c (iA s c st (bt aI i))then []else S++[uR c st i]) (n+1);split at this
    ·rename_i o;rw[aB o];simp at this⊢;omega
    ·rename_i o;rw[aA o];simp at this⊢;omega
def nC(s:tB)(r:Nat):Nat:=bt s (4+r)
def yP(s aI:tB):Nat->Nat->Nat->List (Int×Int×Int)->Nat->List (Int×Int×Int)->List (Int×Int×Int)×Nat×Nat
 | 0,_,c,_,n,T=>(T,n,c)
 | f+1,p,c,H,n,T=>
  if p<aI.size then
   if(Fc s aI c p).1= -1 then(T++[(-1,(p:Int),(p:Int))],n+(iE s aI c H p).2,c)
   else yP s aI f (Fc s aI c p).2 (if 1<nC s (Fc s aI c p).1.toNat then nC s (Fc s aI c p).1.toNat-2 else c) (H++(iE s aI c H p).1) (n+(iE s aI c H p).2)
    (if nC s (Fc s aI c p).1.toNat=1 then T else T++[((Fc s aI c p).1,(p:Int),((Fc s aI c p).2:Int))])
  else(T,n,c)
def pY(s aI:tB)(c:Nat):List (Int×Int×Int)×Nat×Nat:=yP s aI (aI.size+1) 0 c [] 0 []
theorem Lz{s aI:tB}(hi:iF s=true){c p:Nat}(C:c<iM s):∀d,sN s aI c p d=(-1,p)\/∃r q:Nat,sN s aI c p d=((r:Int),q)/\r<iR s/\p<q/\q<=p+d:=by
 intro d
 induction d with
 | zero=>exact .inl rfl
 | succ e ih=>
  cases ht:zP s aI c p (e+1)with
  | none=>
   rw[K2 ht];rcases ih with h|⟨r,q,D,F,I,J⟩
   ·exact .inl h
   ·exact .inr ⟨r,q,D,F,I,by omega⟩
  | some r=>
   right;refine⟨r,p+(e+1),Cr ht,?_,by omega,by omega⟩;unfold zP at ht;split at ht
   ·cases ht
   ·rename_i st o;split at ht
    ·rename_i Q;have:=Tt hi C (yS hi C _ _ o);simp at ht;omega
    ·cases ht
theorem yK{s aI:tB}(hi:iF s=true){c p:Nat}(F:c<iM s)(J:p<=aI.size):Fc s aI c p=(-1,p)\/∃r q:Nat,Fc s aI c p=((r:Int),q)/\r<iR s/\p<q/\q<=aI.size:=by
 unfold Fc;rcases Lz hi F (aI:=aI) (p:=p) (aI.size-p)with h|⟨r,q,o,C,D,I⟩
 ·exact .inl h
 ·exact .inr ⟨r,q,o,C,D,by omega⟩
theorem vX{s:tB}(hi:iF s=true){r:Nat}(C:r<iR s):nC s r<=1+iM s:=by
 have o:=(mM.1 hi).2.2.1;unfold zO at o;simp only[ME]at o;have:=yF o.1 r C;unfold nC;omega
theorem yQ{s aI:tB}(h:¬p<aI.size):yP s aI (f+1) p c H n T=(T,n,c):=by
 rw[yP,aA h]
theorem wB{s aI:tB}{f p c n:Nat}{H T:List (Int×Int×Int)}(h:p<aI.size)(o:Fc s aI c p=(-1,p)):
  yP s aI (f+1) p c H n T=(T++[(-1,(p:Int),(p:Int))],n+(iE s aI c H p).2,c):=by
 rw[yP,aB h,o,aB rfl]
theorem wC{s aI:tB}{f p c n r q:Nat}{H T:List (Int×Int×Int)}(h:p<aI.size)(o:Fc s aI c p=((r:Int),q)):
  yP s aI (f+1) p c H n T=yP s aI f q (if 1<nC s r then nC s r-2 else c) (H++(iE s aI c H p).1) (n+(iE s aI c H p).2)
   (if nC s r=1 then T else T++[((r:Int),(p:Int),(q:Int))]):=by
 rw[yP,aB h,o,aA (by simp)];simp
theorem Xy{s aI:tB}(hi:iF s=true):∀(f f':Nat) {p c n:Nat}{H T:List (Int×Int×Int)},c<iM s->aI.size-p<f->aI.size-p<f'->yP s aI f p c H n T=yP s aI f' p c H n T:=by
 intro f
 induction f with
 | zero=>intro f' p c n H T _ h;omega
 | succ e ih=>
  intro f' p c n H T I h U;obtain⟨F,rfl⟩:∃F,f'=F+1:=⟨f'-1,by omega⟩
  by_cases o:p<aI.size
  ·rcases yK hi I (MU o)with D|⟨r,q,C,Q,J,V⟩
   ·rw[wB o D,wB o D]
   ·rw[wC o C,wC o C];have:=vX hi Q;exact ih F (by split<;>omega) (by omega) (by omega)
  ·rw[yQ o,yQ o]
theorem P7{s aI:tB}{c p:Nat}{H:List (Int×Int×Int)}:(iE s aI c H p).1.length<=aI.size-p/\(iE s aI c H p).2<=aI.size-p:=by
 have:=Wn (s:=s) (aI:=aI) (c:=c) (H:=H) (aI.size-p) 0 p [] 0;unfold iE;simp at this;exact this
theorem Oz{s:tB}:∀n l (r:vY),r.2=true->(pX s ru cl n l r).2.2=true:=by
 intro n;induction n with
 | zero=>intro l r h;exact h
 | succ k ih=>intro l r h;exact ih _ _ (Ga h)
theorem AN{m:Nat}(h:vF l m=false):∀x∈l,x<=m:=by
 intro x C;unfold vF at h;rw[aF]at h;exact Nat.le_of_not_lt (λ o=>h ⟨x,C,o⟩)
theorem AO{m:Nat}(h:∀x∈l,x<=m):vF l m=false:=by
 unfold vF;rw[aF];rintro⟨x,o,C⟩;have:=h x o;omega
structure Zm(s:tB):Prop where
 r3:x4 s=(3,false)
 ru:jU s=iR s
 r4:Wl s=(4,false)
 be:oH s=(MH (iR s)).map (nC s)
 r5:Nu s=(4+iR s,false)
 mn:xK s=iM s
 r6:Pv s=(5+iR s,false)
 cl:mV s=iK s
 r7:Tm s=(6+iR s,false)
 co:gP s=(MH 256).map (tK s)
 r8:x7 s=(pF s 0,false)
theorem Gg{s:tB}(h0:4<=s.size)(C:bt s 0=83/\bt s 1=84/\bt s 2=1)(hr:1<=iR s/\iR s<=8)
  (o:4+iR s<=s.size/\∀j,j<iR s->nC s j<=5) (D:4+iR s<s.size/\1<=iM s/\iM s<=4) (ho:∀j,j<iR s->nC s j<=1+iM s)
  (hk:5+iR s<s.size) (hc:6+iR s+256<=s.size/\∀j,j<256->tK s j<=iK s-1):Zm s:=by
 have e0:iX s 83 83 (0,false)=(83,(1,false)):=by rw[kP (by omega) (by omega) (by omega),C.1]
 have e1:iX s 84 84 (1,false)=(84,(2,false)):=by rw[kP (by omega) (by omega) (by omega),C.2.1]
 have e2:iX s 1 1 (2,false)=(1,(3,false)):=by rw[kP (by omega) (by omega) (by omega),C.2.2]
 have F:x4 s=(3,false):=by unfold x4;rw[e0];simp only;rw[e1];simp only;rw[e2]
 have X:iX s 1 8 (3,false)=(iR s,(4,false)):=kP (by omega) hr.1 hr.2;have ru:jU s=iR s:=by unfold jU;rw[F,X]
 have I:Wl s=(4,false):=by unfold Wl;rw[F,X]
 have Y:=U9 (s:=s) (hi:=5) (iR s) [] 4 o.1 o.2;have V:oH s=(MH (iR s)).map (nC s):=by unfold oH;rw[ru,I,Y];rfl
 have J:Nu s=(4+iR s,false):=by unfold Nu;rw[ru,I,Y]
 have Z:iX s 1 4 (4+iR s,false)=(iM s,(4+iR s+1,false)):=kP D.1 D.2.1 D.2.2;have mn:xK s=iM s:=by unfold xK;rw[J,Z]
 have ov:vF (oH s) (1+xK s)=false:=AO (λ x hx=>by
  rw[V,PC]at hx;obtain⟨j,hj,rfl⟩:=hx;rw[mn];exact ho j (OS.1 hj))
 have Q:Pv s=(5+iR s,false):=by unfold Pv;rw[J,Z,ov];simp only[QH];congr 1;omega
 have e6:iX s 0 255 (5+iR s,false)=(bt s (5+iR s),(5+iR s+1,false)):=kP hk (by omega) (by have:=mT s (5+iR s);omega);have cl:mV s=iK s:=by unfold mV;rw[Q,e6];unfold iK;simp only;omega
 have U:Tm s=(6+iR s,false):=by unfold Tm;rw[Q,e6];simp only;congr 1;omega
 have e7:=U9 (s:=s) (hi:=iK s-1) 256 [] (6+iR s) hc.1 hc.2;have co:gP s=(MH 256).map (tK s):=by unfold gP;rw[cl,U,e7];simp only[OR];exact MN (λ j _=>rfl)
 have ea:6+iR s+256=pF s 0:=by show _=262+iR s;omega
 have r8:x7 s=(pF s 0,false):=by unfold x7;rw[cl,U,e7,ea]
 exact⟨F,ru,I,V,J,mn,Q,cl,U,co,r8⟩
theorem B4{s:tB}(h:iF s=true):Zm s:=by
 obtain⟨D,F,I,J,Q⟩:=kZ h;have C:=pK.1 (mM.1 h).1;refine Gg C.1 C.2.1 ⟨F,D⟩ ⟨by omega,λ j o=>by have:=vX h o;omega⟩ ⟨by omega,I,J⟩ (λ j o=>vX h o) (by omega) ⟨Q,λ j o=>by have:=wK h j o;omega⟩
def By(s:tB)(c:Nat):List (Nat×List Int):=(MH (rA s c)).map λ st=>Jh s (iK s) (qD s c st)
theorem Gh{s:tB}(h:iF s=true):J8 s=(MH (iM s)).map (By s)/\Nv s=(s.size,false):=by
 have o:=B4 h;have e:=Pa (s:=s) (iM s) [] 0 (λ j C=>by rw[LM];exact B5 h C);refine⟨?_,?_⟩
 ·unfold J8;rw[o.ru,o.cl,o.mn,o.r8,e];simp only[OR];refine MN (λ j _=>?_);rw[LM];rfl
 ·unfold Nv;rw[o.ru,o.cl,o.mn,o.r8,e,LM,(mM.1 h).2.2.2.2.2]
theorem BI{s:tB}(h:(Nv s).2=false)(hs:(Nv s).1=s.size):iF s=true:=by
 have h8:(x7 s).2=false:=by
  cases hb:(x7 s).2 with
  | false=>rfl
  | true=>unfold Nv at h;rw[Oz _ _ _ hb]at h;cases h
 obtain⟨h7,F,c7⟩:=Dc _ _ _ h8;obtain⟨h6,p6,a6,b6⟩:=pM h7;have o:=h6;unfold Pv at o;simp only[Bool.or_eq_false_iff]at o;obtain⟨h5,p5,X,Z⟩:=pM o.1;obtain⟨h4,D,c4⟩:=Dc _ _ _ h5;obtain⟨h3,p3,V,Y⟩:=pM h4;obtain⟨h2,U,I,b2⟩:=pM h3;obtain⟨h1,p1,a1,b1⟩:=pM h2;obtain⟨h0,p0,a0,b0⟩:=pM h1;simp only at p0 a0 b0;have e0:iX s 83 83 (0,false)=(bt s 0,(1,false)):=kP (by omega) (by omega) (by omega);rw[e0]at p1 a1 b1;simp only at p1 a1 b1;have e1:iX s 84 84 (1,false)=(bt s 1,(2,false)):=kP p1 a1 b1;rw[e0]at U I b2;simp only at U I b2;rw[e1]at U I b2;simp only at U I b2;have e2:iX s 1 1 (2,false)=(bt s 2,(3,false)):=kP U I b2;have r3:x4 s=(3,false):=by unfold x4;rw[e0];simp only;rw[e1];simp only;rw[e2]
 rw[r3]at p3 V Y;simp only at p3 V Y;have e3:iX s 1 8 (3,false)=(iR s,(4,false)):=kP p3 V Y;have ru:jU s=iR s:=by unfold jU;rw[r3,e3]
 have r4:Wl s=(4,false):=by unfold Wl;rw[r3,e3]
 rw[r4,ru]at D;rw[r4,ru]at c4;simp only at D c4;have D:=D (by omega);have e4:=U9 (s:=s) (hi:=5) (iR s) [] 4 D c4;have r5:Nu s=(4+iR s,false):=by unfold Nu;rw[ru,r4,e4]
 have be:oH s=(MH (iR s)).map (nC s):=by unfold oH;rw[ru,r4,e4];rfl
 rw[r5]at p5 X Z;simp only at p5 X Z;have e5:iX s 1 4 (4+iR s,false)=(iM s,(4+iR s+1,false)):=kP p5 X Z;have mn:xK s=iM s:=by unfold xK;rw[r5,e5]
 have r6:Pv s=(5+iR s,false):=by unfold Pv;rw[r5,e5,o.2];simp only[QH];congr 1;omega
 have ho:∀j,j<iR s->nC s j<=1+iM s:=λ j C=>by
  have:=AN o.2 (nC s j) (by rw[be,PC];exact⟨j,OS.2 C,rfl⟩);rw[mn]at this;exact this
 rw[r6]at p6;simp only at p6;have e6:iX s 0 255 (5+iR s,false)=(bt s (5+iR s),(5+iR s+1,false)):=kP p6 (by omega) (by have:=mT s (5+iR s);omega);have cl:mV s=iK s:=by unfold mV;rw[r6,e6];unfold iK;simp only;omega
 have r7:Tm s=(6+iR s,false):=by unfold Tm;rw[r6,e6];simp only;congr 1;omega
 rw[r7]at F;rw[r7,cl]at c7;simp only at F c7;have F:=F (by omega);have J:1<=iR s:=V;have Q:iR s<=8:=Y;have aL:1<=iM s:=X;have aO:iM s<=4:=Z;have hd:=Gg (s:=s) (by omega) ⟨by omega,by omega,by omega⟩ ⟨J,Q⟩ ⟨D,c4⟩ ⟨p5,aL,aO⟩ ho p6 ⟨F,c7⟩;have h9:=h;unfold Nv at h9 hs;rw[hd.ru,hd.cl,hd.mn]at h9 hs;obtain⟨q1,q2,q3⟩:=Kz (s:=s) (iM s) [] 0 (x7 s) (by rw[hd.r8]) h9;rw[q3,LM]at hs;refine mM.2 ⟨pK.2 ⟨by omega,⟨by omega,by omega,by omega⟩,J,Q⟩,?_,?_,?_,λ c hc=>by have:=q2 c hc;rw[LM]at this;exact this,hs⟩
 ·unfold xJ;rw[ME];refine⟨oD (by omega) (λ j C=>?_),decide_eq_true (by omega)⟩;have e:j=0:=by omega
  subst e;have:bt s (4+iR s+0)=iM s:=rfl;omega
 ·unfold zO;rw[ME];refine⟨oD D (λ j C=>?_),oD (by omega) (λ j C=>?_)⟩
  ·have:=ho j C;unfold nC at this;omega
  ·have:=mT s (5+iR s+j);omega
 ·unfold yH;refine oD F (λ j C=>?_);have:=c7 j C;have:=JL s;omega
theorem x8(s:tB):(Nv s).1<=s.size:=by
 unfold Nv x7 Tm Pv Nu Wl x4;refine Vi _ _ _ (Db _ _ _ (lV ?_));exact lV (Db _ _ _ (lV (lV (lV (lV (by simp))))))
theorem BH(s:tB):((Nv s).2||decide ((Nv s).1<s.size))= !(iF s):=by
 have C:=x8 s
 cases hi:iF s with
 | true=>rw[(Gh hi).2];simp
 | false=>
  cases h2:(Nv s).2 with
  | true=>rfl
  | false=>
   by_cases o:(Nv s).1<s.size
   ·simp[o]
   ·rw[BI h2 (by omega)]at hi;cases hi
def nS(vb:tV)(cs:List Nat)(vc:tV):List tV:=vb::(oZ cs++[vc])
theorem nF(l:List Nat):(oZ l).length=l.length:=by simp[oZ]
theorem Q3(l:List Nat)(k:Nat)(h:k<l.length):(oZ l)[k]?=some (.int .i64 (l[k]:Int)):=by simp[oZ,h]
theorem nY(vb:tV)(cs:List Nat)(vc:tV)(h:cs.length=256):(nS vb cs vc).length=258:=by simp[nS,nF,h]
theorem Pk(vb:tV)(cs:List Nat)(vc:tV):(nS vb cs vc)[0]?=some vb:=rfl
theorem s8(vb:tV)(cs:List Nat)(vc:tV)(k:Nat)(h:k<cs.length):(nS vb cs vc)[1+k]?=some (.int .i64 (cs[k]:Int)):=by
 unfold nS;rw[QI,NC,MS (by rw[nF];exact h),Q3 _ _ h]
theorem yI(vb:tV)(cs:List Nat)(vc:tV)(h:cs.length=256):(nS vb cs vc)[257]?=some vc:=by
 unfold nS;rw[NC,MB (by rw[nF,h];omega),nF,h];rfl
theorem Vz(vb:tV)(cs:List Nat)(vc u:tV):(nS vb cs vc).set 0 u=nS u cs vc:=rfl
theorem Wa(vb:tV)(cs:List Nat)(vc:tV)(k x:Nat)(h:k<cs.length):(nS vb cs vc).set (1+k) (.int .i64 (x:Int))=nS vb (cs.set k x) vc:=by
 unfold nS;rw[QI,PX,List.set_append_left _ _ (by rw[nF];exact h)];simp[oZ,List.map_set]
theorem Lm(vb:tV)(cs:List Nat)(vc u:tV)(h:cs.length=256):(nS vb cs vc).set 257 u=nS vb cs u:=by
 unfold nS;rw[PX,PT _ _ (by rw[nF,h];omega),nF,h];rfl
theorem Nm(xs:List Nat)(m x:Nat):(xs++MD (m+1) 0).set xs.length x=(xs++[x])++MD m 0:=by
 rw[PT _ _ lR,OH,List.replicate_succ,List.set_cons_zero];simp
theorem zH{w:tW}{l:List tV}(h:w.rangeAt b 0 l)(k:Nat)(C:k<l.length)(v:tV):(w.setCell ⟨b,k,none⟩ v).rangeAt b 0 (l.set k v):=by
 intro j u o;rw[LM];by_cases e:j=k
 ·subst e;rw[OG C]at o;injection o with o;rw[<-o];have:=h j (l[j]) (LQ C);rw[LM]at this;exact LH _ _ _ this
 ·rw[OK (λ h=>e h.symm)]at o;rw[LD (h:=by intro D;injection D;omega)];have:=h j u o;rw[LM]at this;exact this
theorem I3{w:tW}{C o:Nat}{l:List tV}(h:w.rangeAt b 0 l)(I:b≠C)(v:tV):(w.setCell ⟨C,o,none⟩ v).rangeAt b 0 l:=by
 intro j u F;rw[LD (h:=by intro D;injection D;omega)];exact h j u F
theorem Qj(l:List Nat)(m k:Nat)(h:k<l.length):vF (l.take (k+1)) m=(vF (l.take k) m||decide (m<l[k])):=by
 have e:l.take (k+1)=l.take k++[l[k]]:=by rw[PZ,LQ h];rfl
 unfold vF;rw[e,ON];simp only[MT,MR,Bool.or_eq_true,aE];constructor
 ·rintro⟨x,C|C,o⟩
  ·exact .inl ⟨x,C,o⟩
  ·subst C;exact .inr o
 ·rintro(⟨x,C,o⟩|o)
  ·exact⟨x,.inl C,o⟩
  ·exact⟨_,.inr rfl,o⟩
abbrev pC:=Nat×List ((Nat×List Int)×Nat)
structure oI(w:tW)(cl:Nat)(y:pC):Prop where
 lt:y.1<w.heap.size
 rg:w.rangeAt y.1 0 (Jv cl y.2)
 bF:∀z∈y.2,z.2<w.heap.size/\w.rangeAt z.2 0 (pR z.1.2)
def V3(y:pC)(k:Nat):Prop:=k=y.1\/∃z∈y.2,k=z.2
theorem oI.block{w w':tW}{y:pC}(h:oI w cl y)(D:w.heap.size<=w'.heap.size)(C:∀k,k<w.heap.size->V3 y k->w'.heap[k]?=w.heap[k]?):oI w' cl y:=
 ⟨LJ h.lt D,fY h.rg (C _ h.lt (.inl rfl)),λ z o=>⟨LJ (h.bF z o).1 D,fY (h.bF z o).2 (C _ (h.bF z o).1 (.inr ⟨z,o,rfl⟩))⟩⟩
theorem oI.own{w:tW}{y:pC}(h:oI w cl y){k:Nat}(o:V3 y k):k<w.heap.size:=by
 rcases o with rfl|⟨z,C,rfl⟩
 ·exact h.lt
 ·exact(h.bF z C).1
theorem oI.below{w w':tW}{y:pC}(h:oI w cl y)(o:Below B w w')(D:w.heap.size<=B):oI w' cl y:=h.block o.size (λ k C _=>o.block k (by omega))
def xD(ys:List pC):List tV:=ys.map λ(y:pC)=>MY (some ⟨y.1,0,none⟩) y.2.length y.2.length
theorem Bx(ys:List pC)(y:pC):xD (ys++[y])=xD ys++[MY (some ⟨y.1,0,none⟩) y.2.length y.2.length]:=by simp[xD]
theorem FM(s:tB)(h:3<=s.size):((s.extract 0 3).toList=[83,84,1])↔(bt s 0=83/\bt s 1=84/\bt s 2=1):=by
 rw[ByteArray.toList_eq];have e:(s.extract 0 3).data.toList=s.data.toList.take 3:=by
  simp[ByteArray.data_extract]
 rw[e];unfold bt;have o:3<=s.data.toList.length:=by simpa using h
 generalize s.data.toList=l at o⊢
 match l,o with
 | a::b::c::r,_=>
  simp;refine⟨?_,?_⟩
  ·rintro⟨rfl,rfl,rfl⟩;decide
  ·rintro⟨C,D,F⟩;exact⟨PN.1 C,PN.1 D,PN.1 F⟩
theorem Bd(cl:Nat)(zs:List ((Nat×List Int)×Nat)):∀(k:Nat)(z:(Nat×List Int)×Nat),zs[k]?=some z->(Jv cl zs)[2*k]?=some (.int .i64 (z.1.1:Int))/\(Jv cl zs)[2*k+1]?=some (.slice (some ⟨z.2,0,none⟩) cl cl):=by
 induction zs with
 | nil=>intro k z h;simp at h
 | cons y r ih=>
  intro k z h;have e:Jv cl (y::r)=ML .i64 (y.1.1:Int)::MY (some ⟨y.2,0,none⟩) cl cl::Jv cl r:=by simp[Jv]
  rw[e]
  cases k with
  | zero=>simp at h;subst h;exact⟨rfl,rfl⟩
  | succ j=>
   have:=ih j z (by simpa using h);rw[show 2*(j+1)=2*j+1+1 by omega];exact⟨by simpa using this.1,by simpa using this.2⟩
theorem Fz(ys:List pC)(k:Nat)(y:pC)(h:ys[k]?=some y):(xD ys)[k]?=some (.slice (some ⟨y.1,0,none⟩) y.2.length y.2.length):=by
 unfold xD;rw[MC,h];rfl
theorem B6(l:List Int)(k:Nat)(x:Int)(h:l[k]?=some x):(pR l)[k]?=some (.int .i64 x):=by
 unfold pR;rw[MC,h];rfl
def Tk(s:tB)(c st v:Nat):Int:=oM (iA s c st v)
structure IM(w:tW)(s:tB)(bb vg:Nat)(yb:Nat->Nat)(zb:Nat->Nat->Nat)(top:Nat):Prop where
 be:∀r,r<iR s->w.cell? ⟨bb,r,none⟩=some (.int .i64 (nC s r))
 co:∀c,c<iM s->w.cell? ⟨vg,c,none⟩=some (.slice (some ⟨yb c,0,none⟩) (rA s c) (rA s c))
 tk:∀c st,c<iM s->st<rA s c->w.cell? ⟨yb c,2*st,none⟩=some (.int .i64 (jM s c st))
 nx:∀c st,c<iM s->st<rA s c->w.cell? ⟨yb c,2*st+1,none⟩=some (.slice (some ⟨zb c st,0,none⟩) (iK s) (iK s))
 ld:∀c st v,c<iM s->st<rA s c->v<256->w.cell? ⟨zb c st,tK s v,none⟩=some (.int .i64 (Tk s c st v))
 b0:bb<top
 b1:vg<top
 b2:∀c,c<iM s->yb c<top
 b3:∀c st,c<iM s->st<rA s c->zb c st<top
structure KW(s:tB)(bb vg:Nat)(yb:Nat->Nat)(zb:Nat->Nat->Nat)(lo:Nat):Prop where
 b0:lo<=bb
 b1:lo<=vg
 b2:∀c,c<iM s->lo<=yb c
 b3:∀c st,c<iM s->st<rA s c->lo<=zb c st
theorem IM.blocks{w w':tW}{s:tB}{yb:Nat->Nat}{zb:Nat->Nat->Nat}(h:IM w s bb vg yb zb top)(F:KW s bb vg yb zb lo)(D:∀k,lo<=k->k<top->w'.heap[k]?=w.heap[k]?):IM w' s bb vg yb zb top:=
 ⟨λ r I=>(LC (w:=w) (a:=⟨bb,r,none⟩) (D _ F.b0 h.b0)).trans (h.be r I),λ c o=>(LC (w:=w) (a:=⟨vg,c,none⟩) (D _ F.b1 h.b1)).trans (h.co c o),
  λ c st o C=>(LC (w:=w) (a:=⟨yb c,2*st,none⟩) (D _ (F.b2 c o) (h.b2 c o))).trans (h.tk c st o C),λ c st o C=>(LC (w:=w) (a:=⟨yb c,2*st+1,none⟩) (D _ (F.b2 c o) (h.b2 c o))).trans (h.nx c st o C),
  λ c st v o C J=>(LC (w:=w) (a:=⟨zb c st,tK s v,none⟩) (D _ (F.b3 c st o C) (h.b3 c st o C))).trans (h.ld c st v o C J),h.b0,h.b1,h.b2,h.b3⟩
theorem IM.below{w w':tW}{s:tB}{yb:Nat->Nat}{zb:Nat->Nat->Nat}(h:IM w s bb vg yb zb top)(D:Below B w w')(F:top<=B):IM w' s bb vg yb zb top:=
 ⟨λ r I=>(D.cell (p:=⟨bb,r,none⟩) (LJ h.b0 F)).trans (h.be r I),λ c o=>(D.cell (p:=⟨vg,c,none⟩) (LJ h.b1 F)).trans (h.co c o),
  λ c st o C=>(D.cell (p:=⟨yb c,2*st,none⟩) (LJ (h.b2 c o) F)).trans (h.tk c st o C),λ c st o C=>(D.cell (p:=⟨yb c,2*st+1,none⟩) (LJ (h.b2 c o) F)).trans (h.nx c st o C),
  λ c st v o C J=>(D.cell (p:=⟨zb c st,tK s v,none⟩) (LJ (h.b3 c st o C) F)).trans (h.ld c st v o C J),h.b0,h.b1,h.b2,h.b3⟩
theorem IM.drewN{w:tW}{s:tB}{yb:Nat->Nat}{zb:Nat->Nat->Nat}(h:IM w s bb vg yb zb top)(q:Nat):IM (w.drewN q) s bb vg yb zb top:=⟨h.be,h.co,h.tk,h.nx,h.ld,h.b0,h.b1,h.b2,h.b3⟩
def jO(s aI:tB)(c:Nat):Nat->Nat->Nat->Option Nat
 | st,_,0=>some st
 | st,i,d+1=>if iA s c st (bt aI i)=255 then none else jO s aI c (iA s c st (bt aI i)) (i+1) d
theorem Fl(s aI:tB)(c:Nat):∀d st i,jO s aI c st i (d+1)=
  match jO s aI c st i d with
  | none=>none
  | some t=>if iA s c t (bt aI (i+d))=255 then none else some (iA s c t (bt aI (i+d))):=by
 intro d
 induction d with
 | zero=>intro st i;simp[jO]
 | succ e ih=>
  intro st i;rw[jO];split
  ·rename_i h;rw[jO,aB h]
  ·rename_i h;rw[ih,jO,aA h];have:i+1+e=i+(e+1):=by omega
   rw[this]
theorem Nr(s aI:tB)(c p:Nat):∀d,oP s aI c p d=jO s aI c 0 p d:=by
 intro d
 induction d with
 | zero=>rfl
 | succ e ih=>rw[oP,ih,Fl];all_goals (cases jO s aI c 0 p e<;>rfl)
def dead(s aI:tB)(c st i:Nat):Prop:=∀d t,1<=d->i+d<=aI.size->jO s aI c st i d=some t->jM s c t=0
def yW(s aI:tB)(H:List (Int×Int×Int)):Prop:=∀c st i,uR c st i∈H->dead s aI c st i
theorem k8{s aI:tB}(h:¬i<aI.size):dead s aI c st i:=by
 intro d t o hi;omega
theorem N7{s aI:tB}(h:iA s c st (bt aI i)=255):dead s aI c st i:=by
 intro d t C hi o;obtain⟨e,rfl⟩:∃e,d=e+1:=⟨d-1,by omega⟩
 rw[jO,aB h]at o;cases o
theorem Vp{s aI:tB}(h:iA s c st (bt aI i)≠255)(D:jM s c (iA s c st (bt aI i))=0)(C:dead s aI c (iA s c st (bt aI i)) (i+1)):dead s aI c st i:=by
 intro d t F hi o;obtain⟨e,rfl⟩:∃e,d=e+1:=⟨d-1,by omega⟩
 rw[jO,aA h]at o
 cases e with
 | zero=>rw[jO]at o;injection o with o;rw[<-o];exact D
 | succ f=>exact C (f+1) t (by omega) (by omega) o
def nZ(s aI:tB)(c:Nat)(H:List (Int×Int×Int)):Nat->Nat->Nat->Option (Nat×Nat)->Option (Nat×Nat)
 | 0,_,_,best=>best
 | d+1,st,i,best=>
  if sV H (uR c st i)=true then best
  else if iA s c st (bt aI i)=255 then best
  else nZ s aI c H d (iA s c st (bt aI i)) (i+1) (if 0<jM s c (iA s c st (bt aI i))then some (jM s c (iA s c st (bt aI i))-1,i+1)else best)
theorem Qb{s aI:tB}:∀d st i o,i+d<=aI.size->dead s aI c st i->nZ s aI c [] d st i o=o:=by
 intro d
 induction d with
 | zero=>intro st i o _ _;rfl
 | succ e ih=>
  intro st i o hi C;rw[nZ,aA (by simp[sV])];split
  ·rfl
  ·rename_i h;have J:jM s c (iA s c st (bt aI i))=0:=C 1 _ (by omega) (by omega) (by rw[jO,aA h,jO]);rw[aA (by omega)];refine ih _ _ _ (by omega) ?_;intro d t F I D;exact C (d+1) t (by omega) (by omega) (by rw[jO,aA h];exact D)
theorem Qc{s aI:tB}(F:yW s aI H):∀d st i o,i+d<=aI.size->nZ s aI c H d st i o=nZ s aI c [] d st i o:=by
 intro d
 induction d with
 | zero=>intro st i o _;rfl
 | succ e ih=>
  intro st i o hi;by_cases C:sV H (uR c st i)=true
  ·rw[nZ,aB C];have D:uR c st i∈H:=by unfold sV at C;exact NS.1 C
   exact(Qb (e+1) st i o hi (F c st i D)).symm
  ·rw[nZ,aA C]
   conv=>rhs;rw[nZ,aA (by simp[sV])]
   split
   ·rfl
   ·exact ih _ _ _ (by omega)
def uM(s aI:tB)(c st i:Nat):Nat->Option (Nat×Nat)
 | 0=>none
 | d+1=>match jO s aI c st i (d+1)with
  | none=>uM s aI c st i d
  | some t=>if 0<jM s c t then some (jM s c t-1,i+(d+1))else uM s aI c st i d
theorem Ff{s aI:tB}(h:iA s c st (bt aI i)=255):∀d,uM s aI c st i d=none:=by
 intro d
 induction d with
 | zero=>rfl
 | succ e ih=>
  have o:jO s aI c st i (e+1)=none:=by rw[jO,aB h]
  rw[uM,o];exact ih
theorem Pz{s aI:tB}(h:iA s c st (bt aI i)≠255):∀d,uM s aI c st i (d+1)=
  (uM s aI c (iA s c st (bt aI i)) (i+1) d).or (if 0<jM s c (iA s c st (bt aI i))then some (jM s c (iA s c st (bt aI i))-1,i+1)else none):=by
 intro d
 induction d with
 | zero=>
  have C:jO s aI c st i (0+1)=some (iA s c st (bt aI i)):=by
   conv=>lhs;rw[jO,aA h]
   rfl
  conv=>lhs;rw[uM,C]
  simp[uM]
 | succ e ih=>
  have C:jO s aI c st i (e+1+1)=jO s aI c (iA s c st (bt aI i)) (i+1) (e+1):=by
   conv=>lhs;rw[jO,aA h]
  rw[uM,C]
  conv=>rhs;rw[uM]
  cases jO s aI c (iA s c st (bt aI i)) (i+1) (e+1)with
  | none=>exact ih
  | some t=>
   simp only;by_cases o:0<jM s c t
   ·rw[aB o,aB o];simp;omega
   ·rw[aA o,aA o];exact ih
theorem Qd{s aI:tB}:∀d st i o,nZ s aI c [] d st i o=(uM s aI c st i d).or o:=by
 intro d
 induction d with
 | zero=>intro st i o;simp[nZ,uM]
 | succ e ih=>
  intro st i o;rw[nZ,aA (by simp[sV])];by_cases h:iA s c st (bt aI i)=255
  ·rw[aB h,Ff h];simp
  ·rw[aA h,ih,Pz h];by_cases C:0<jM s c (iA s c st (bt aI i))
   ·rw[aB C,aB C];cases uM s aI c (iA s c st (bt aI i)) (i+1) e<;>simp
   ·rw[aA C,aA C];cases uM s aI c (iA s c st (bt aI i)) (i+1) e<;>simp
theorem EY(s aI:tB)(c p:Nat):∀d,sN s aI c p d=match uM s aI c 0 p d with
  | none=>(-1,p)
  | some x=>((x.1:Int),x.2):=by
 intro d
 induction d with
 | zero=>rfl
 | succ e ih=>
  rw[sN,uM];unfold zP;rw[Nr]
  cases h:jO s aI c 0 p (e+1)with
  | none=>simp only;exact ih
  | some t=>
   simp only;by_cases o:0<jM s c t
   ·rw[aB o,aB o]
   ·rw[aA o,aA o];exact ih
theorem Qf{s aI:tB}(o:yW s aI H)(C:p<=aI.size):
  Fc s aI c p=match nZ s aI c H (aI.size-p) 0 p none with
   | none=>(-1,p)
   | some x=>((x.1:Int),x.2):=by
 unfold Fc;rw[Qc o _ _ _ _ (by omega),Qd,EY]
 cases uM s aI c 0 p (aI.size-p)<;>simp
theorem Jq{o:Nat}(h:uR c st i=uR o st' i'):c=o/\st=st'/\i=i':=by
 unfold uR at h;injection h with D C;injection C with C F;omega
theorem Qa{s aI:tB}(Q:yW s aI H):∀d st i S n,i+d=aI.size->
  (∀o st' i',uR o st' i'∈S->dead s aI c st i->dead s aI o st' i')->yW s aI (pG s aI c H d st i S n).1:=by
 intro d
 induction d with
 | zero=>
  intro st i S n hi I o st' i' C;exact I o st' i' C (k8 (by omega))
 | succ e ih=>
  intro st i S n hi I;by_cases D:sV H (uR c st i)=true
  ·rw[C0 D];intro o st' i' C;exact I o st' i' C (Q c st i (by unfold sV at D;exact NS.1 D))
  ·have D:sV H (uR c st i)=false:=by simpa using D
   by_cases F:iA s c st (bt aI i)=255
   ·rw[xY D F];intro o st' i' C;rcases MT.1 C with h|h
    ·exact I o st' i' h (N7 F)
    ·rw[MR]at h;obtain⟨rfl,rfl,rfl⟩:=Jq h;exact N7 F
   ·by_cases V:0<jM s c (iA s c st (bt aI i))
    ·rw[C1 D F V];exact ih _ _ _ _ (by omega) (λ o st' i' h=>by cases h)
    ·rw[K3 D F (by omega)];refine ih _ _ _ _ (by omega) (λ o st' i' h U=>?_);have J:=Vp F (by omega) U;rcases MT.1 h with h|h
     ·exact I o st' i' h J
     ·rw[MR]at h;obtain⟨rfl,rfl,rfl⟩:=Jq h;exact J
theorem Wo{s aI:tB}(D:yW s aI H)(F:p<=aI.size):yW s aI (H++(iE s aI c H p).1):=by
 intro C st' i' o;rcases MT.1 o with h|h
 ·exact D C st' i' h
 ·exact Qa D _ 0 p [] 0 (by omega) (λ _ _ _ h=>by cases h) C st' i' h
def hZ(l:List (Int×Int×Int)):List tV:=l.flatMap λ x=>[.int .i64 x.1,.int .i64 x.2.1,.int .i64 x.2.2]
theorem Ex(l:List (Int×Int×Int)):(hZ l).length=l.length*3:=by
 induction l with
 | nil=>rfl
 | cons a r ih=>simp only[hZ,List.flatMap_cons,LR,NZ,OQ]at*;omega
theorem Ow(l:List (Int×Int×Int))(k:Nat)(x:Int×Int×Int)(h:l[k]?=some x):
  (hZ l)[k*3]?=some (.int .i64 x.1)/\(hZ l)[k*3+1]?=some (.int .i64 x.2.1)/\(hZ l)[k*3+2]?=some (.int .i64 x.2.2):=by
 induction l generalizing k with
 | nil=>simp at h
 | cons a r ih=>
  cases k with
  | zero=>simp at h;subst h;simp[hZ]
  | succ n=>
   have:=ih n (by simpa using h);have e:hZ (a::r)=[.int .i64 a.1,.int .i64 a.2.1,.int .i64 a.2.2]++hZ r:=rfl;rw[e];have D:(n+1)*3=n*3+3:=by omega
   rw[D,MB (by simp),MB (by simp only[NZ,OQ];omega),MB (by simp only[NZ,OQ];omega)];simp only[NZ,OQ];have a1:n*3+3-(0+1+1+1)=n*3:=by omega
   have o:n*3+3+1-(0+1+1+1)=n*3+1:=by omega
   have C:n*3+3+2-(0+1+1+1)=n*3+2:=by omega
   rw[a1,o,C];exact this
theorem Z1(l:List (Int×Int×Int))(x:Int×Int×Int):hZ (l++[x])=hZ l++[.int .i64 x.1,.int .i64 x.2.1,.int .i64 x.2.2]:=by
 simp[hZ]
theorem Ew(l m:List (Int×Int×Int)):hZ (l++m)=hZ l++hZ m:=by
 simp[hZ]
def Ee(L:Nat)(S:List (Int×Int×Int)):List tV:=S.map λ(x:Int×Int×Int)=>ML .i64 (x.2.1*(L:Int)+x.2.2)
theorem Yn(L:Nat)(S:List (Int×Int×Int))(c st i:Nat):Ee L (S++[uR c st i])=Ee L S++[ML .i64 ((st:Int)*(L:Int)+(i:Int))]:=by simp[Ee,uR]
def J7(s aI:tB)(H:List (Int×Int×Int))(HT:Nat->Nat->Bool):Prop:=∀c st i,c<iM s->st<rA s c->i<aI.size->HT c (st*aI.size+i)=sV H (uR c st i)
def KE(s aI:tB)(c:Nat)(S:List (Int×Int×Int)):Prop:=∀x∈S,∃st i,x=uR c st i/\st<rA s c/\i<aI.size
theorem AG{s aI:tB}(h:KE s aI c S)(C:st<rA s c)(D:i<aI.size):KE s aI c (S++[uR c st i]):=λ x F=>by
 rcases MT.1 F with o|o
 ·exact h x o
 ·rw[MR]at o;exact⟨st,i,o,C,D⟩
theorem Tx(s aI:tB)(c:Nat):KE s aI c []:=λ _ o=>absurd o (OJ)
theorem z7(H:List (Int×Int×Int))(x y:Int×Int×Int):sV (H++[x]) y=(sV H y||decide (y=x)):=by
 unfold sV;rw[ON];simp
theorem D6(o:st<n)(C:i<L):st*L+i<n*L:=by
 have:=OL L (show st+1<=n from o);rw[NO]at this;omega
theorem Ym(F:i<L)(I:i'<L)(h:st*L+i=st'*L+i'):st=st'/\i=i':=by
 have o:0<L:=by omega
 have C:(st*L+i)/L=st:=by rw[PE,QG o,QB F];omega
 have D:(st'*L+i')/L=st':=by rw[PE,QG o,QB I];omega
 have e:st=st':=by rw[<-C,<-D,h]
 subst e;exact⟨rfl,by omega⟩
theorem Vx{s aI:tB}{HT:Nat->Nat->Bool}(h:J7 s aI H HT){c st i:Nat}(F:i<aI.size):
  J7 s aI (H++[uR c st i]) (λ j m=>if j=c/\m=st*aI.size+i then true else HT j m):=by
 intro o st' i' I J hi;rw[z7];by_cases e:o=c/\st'*aI.size+i'=st*aI.size+i
 ·simp only;rw[aB e];obtain⟨C,D⟩:=Ym hi F e.2;rw[e.1,C,D];simp
 ·simp only;rw[aA e,h o st' i' I J hi];have:decide (uR o st' i'=uR c st i)=false:=by
   rw[aF];intro q;obtain⟨Q,U,V⟩:=Jq q;exact e ⟨Q,by rw[U,V]⟩
  rw[this,Bool.or_false]
def Nt:Option (Nat×Nat)->Nat
 | none=>0
 | some x=>x.1+1
def KR(p:Nat):Option (Nat×Nat)->Nat
 | none=>p
 | some x=>x.2
theorem Mb{s aI:tB}{b:Option (Nat×Nat)}(h:sV H (uR c st i)=true):nZ s aI c H (d+1) st i b=b:=by rw[nZ,aB h]
theorem Fg{s aI:tB}{c d st i:Nat}{H:List (Int×Int×Int)}{b:Option (Nat×Nat)}(h:sV H (uR c st i)=false)(o:iA s c st (bt aI i)=255):nZ s aI c H (d+1) st i b=b:=by
 rw[nZ,aA (by rw[h];decide),aB o]
theorem Mc{s aI:tB}{c d st i:Nat}{H:List (Int×Int×Int)}{b:Option (Nat×Nat)}(h:sV H (uR c st i)=false)(o:iA s c st (bt aI i)≠255)(C:0<jM s c (iA s c st (bt aI i))):
  nZ s aI c H (d+1) st i b=nZ s aI c H d (iA s c st (bt aI i)) (i+1) (some (jM s c (iA s c st (bt aI i))-1,i+1)):=by
 rw[nZ,aA (by rw[h];decide),aA o,aB C]
theorem Qe{s aI:tB}{c d st i:Nat}{H:List (Int×Int×Int)}{b:Option (Nat×Nat)}(h:sV H (uR c st i)=false)(o:iA s c st (bt aI i)≠255)(C:jM s c (iA s c st (bt aI i))=0):
  nZ s aI c H (d+1) st i b=nZ s aI c H d (iA s c st (bt aI i)) (i+1) b:=by
 rw[nZ,aA (by rw[h];decide),aA o,aA (by omega)]
theorem q8(o:Nat):∀(l:List tV)(n:Nat)(Z:Array tV),((l.zipIdx n).foldl (λ cs x=>cs.setIfInBounds (o+x.2) x.1) Z).size=Z.size/\
  ∀k,((l.zipIdx n).foldl (λ cs x=>cs.setIfInBounds (o+x.2) x.1) Z)[k]?=if o+n<=k/\k<o+n+l.length/\k<Z.size then l[k-(o+n)]? else Z[k]? :=by
 intro l
 induction l with
 | nil=>intro n Z;refine⟨rfl,λ k=>?_⟩;rw[aA (by simp;omega)];rfl
 | cons v r ih=>
  intro n Z;rw[List.zipIdx_cons,List.foldl_cons];obtain⟨D,F⟩:=ih (n+1) (Z.setIfInBounds (o+n) v);refine⟨by rw[D];simp,λ k=>?_⟩;rw[F k];simp only[Array.size_setIfInBounds,NZ];by_cases e:k=o+n
  ·subst e;rw[aA (by omega)];by_cases I:o+n<Z.size
   ·rw[aB (by omega),Array.getElem?_setIfInBounds_self_of_lt I];simp
   ·rw[aA (by omega),PA (by simp;omega),PA (by omega)]
  ·by_cases C:o+(n+1)<=k/\k<o+(n+1)+r.length/\k<Z.size
   ·rw[aB C,aB (by omega),show k-(o+n)=(k-(o+(n+1)))+1 by omega,NC]
   ·rw[aA C,aA (by omega),Array.getElem?_setIfInBounds_ne (by omega)]
theorem E2{A:Array tV}{q:tV->Bool}(h:A.all q=true){i:Nat}{v:tV}(o:A[i]?=some v):q v=true:=by
 rw[OX]at h;obtain⟨hi,rfl⟩:=NY.1 o;exact h i hi
theorem P1(o:Nat)(A Z:Array tV):(A.zipIdx.foldl (λ cs x=>cs.setIfInBounds (o+x.2) x.1) Z).size=Z.size/\
  ∀k,(A.zipIdx.foldl (λ cs x=>cs.setIfInBounds (o+x.2) x.1) Z)[k]?=if o<=k/\k<o+A.size/\k<Z.size then A[k-o]? else Z[k]? :=by
 have h:=q8 o A.toList 0 Z;have e:A.zipIdx.foldl (λ cs x=>cs.setIfInBounds (o+x.2) x.1) Z=(A.toList.zipIdx 0).foldl (λ cs x=>cs.setIfInBounds (o+x.2) x.1) Z:=by
  rw[<-Array.foldl_toList,Array.toList_zipIdx]
 rw[e];refine⟨h.1,λ k=>?_⟩;rw[h.2 k];simp
theorem IM.mono{w:tW}{s:tB}{yb:Nat->Nat}{zb:Nat->Nat->Nat}{o:Nat}(h:IM w s bb vg yb zb top)(C:top<=o):IM w s bb vg yb zb o:=
 ⟨h.be,h.co,h.tk,h.nx,h.ld,LJ h.b0 C,LJ h.b1 C,λ c D=>LJ (h.b2 c D) C,λ c st D F=>LJ (h.b3 c st D F) C⟩
def pI(s aI:tB):List (Int×Int×Int)×Nat×Int:=
 if 120000<s.size\/300<aI.size then([],0,1)else if iF s=true then((pY s aI 0).1,(pY s aI 0).2.1,0)else([],0,5)
def mF(a b:List (Int×Int×Int)):Bool:=decide (a=b)
theorem Xx{s aI:tB}(hi:iF s=true):∀(f p c:Nat)(H:List (Int×Int×Int)) (n:Nat) (T:List (Int×Int×Int)),c<iM s->(yP s aI f p c H n T).2.2<iM s:=by
 intro f
 induction f with
 | zero=>intro p c H n T h;rw[yP];exact h
 | succ e ih=>
  intro p c H n T D;by_cases o:p<aI.size
  ·rcases yK hi D (MU o)with F|⟨r,q,C,J,I,Q⟩
   ·rw[wB o F];exact D
   ·rw[wC o C];have:=vX hi J;exact ih q _ _ _ _ (by split<;>omega)
  ·rw[yQ o];exact D
theorem Vn{s aI:tB}(hi:iF s=true){c:Nat}(o:c<iM s):(pY s aI c).2.2<iM s:=Xx hi _ _ _ _ _ _ o
theorem iC(w:tW)(b i:Nat)(v:tV){k:Nat}(h:k≠b):(w.setCell ⟨b,i,none⟩ v).heap[k]?=w.heap[k]? :=MQ w ⟨b,i,none⟩ v k (by intro e;exact h e)
def Y1{α:Type}(f:Nat->α)(k:Nat)(v:α):Nat->α:=λ i=>if i=k then v else f i
theorem iY{α:Type}(f:Nat->α)(k:Nat)(v:α):Y1 f k v k=v:=by unfold Y1;rw[aB rfl]
theorem gZ{α:Type}(f:Nat->α){k i:Nat}(v:α)(h:i≠k):Y1 f k v i=f i:=by unfold Y1;rw[aA h]
def Jd(s aI:tB)(c:Nat):List (Int×Int×Int):=if 300<aI.size then []else(pY s aI c).1
def CZ(aI:tB):Int:=if 300<aI.size then 1 else 0
def IN(s aI:tB)(c:Nat):Nat:=if 300<aI.size then c else(pY s aI c).2.2
def JX:List UInt8:= [83,84,1,1,0,1,0]++MD 256 0++[1,0,0]
def SM:tB:=⟨JX.toArray⟩
def Zs:tB:=⟨(MD 256 (0:UInt8)).toArray⟩
theorem Yi:(⟨#[83,84,1,1,0,1,0]⟩:tB)++Zs++(⟨#[1,0,0]⟩:tB)=SM:=by decide+kernel
theorem Se:SM.size=266:=by decide+kernel
end Go.Stn
namespace Go.Proofs.YtgjgjgihceijnaaGreat
open Go.RowKit Go.Stn
variable {p:Prop}{v:Option Nat}{B lo bb g k cl aH size n b ca cs c m aJ i cb vg aU rb ib:Nat}{l:List Nat}{e ty:TypeId}{x:Operand}{gd:Option (Nat×Bool)}{a:Act}{P:Program}
section
theorem fV(h:p):QP p:=h
structure zT(w:tW)(rb:Nat)(s:tB)(r:vY):Prop where
 c0:w.cell? ⟨rb,0,none⟩=some (.string s)
 c1:w.cell? ⟨rb,1,none⟩=some (.int .i64 r.1)
 c2:w.cell? ⟨rb,2,none⟩=some (.bool r.2)
 fz:∀i,w.frozen? ⟨rb,i,none⟩=false
 hb:rb<w.heap.size
variable {w w':tW}{rb:Nat}{s:tB}{r:vY}
theorem zT.block(h:zT w rb s r)(o:w'.heap[rb]?=w.heap[rb]?)(C:w.heap.size<=w'.heap.size):zT w' rb s r:=
 ⟨(LC (w:=w) (a:=⟨rb,0,none⟩) o).trans h.c0,(LC (w:=w) (a:=⟨rb,1,none⟩) o).trans h.c1,(LC (w:=w) (a:=⟨rb,2,none⟩) o).trans h.c2,
   λ i=>(LP (w:=w) (a:=⟨rb,i,none⟩) o).trans (h.fz i),by have:=h.hb;omega⟩
theorem zT.drewN(h:zT w rb s r)(q:Nat):zT (w.drewN q) rb s r:=⟨h.c0,h.c1,h.c2,h.fz,h.hb⟩
theorem zT.grown(h:zT w rb s r)(hg:w.grownBy w' v)(o:some rb≠v):zT w' rb s r:=h.block (hg.block rb h.hb o) hg.size
theorem zT.below(h:zT w rb s r)(hg:Below B w w')(o:rb<B):zT w' rb s r:=h.block (hg.block rb o) hg.size
theorem zT.setBad(h:zT w rb s r):zT (w.setCell ⟨rb,2,none⟩ (.bool true)) rb s (r.1,true):=by
 have o:∀j u,j≠2->w.cell? ⟨rb,j,none⟩=some u->(w.setCell ⟨rb,2,none⟩ (.bool true)).cell? ⟨rb,j,none⟩=some u:=λ j u D C=>by
  rw[LD (h:=by intro e;injection e;omega)];exact C
 exact⟨o 0 _ (by omega) h.c0,o 1 _ (by omega) h.c1,LH _ _ _ h.c2,λ i=>by rw[LG];exact h.fz i,by have:=h.hb;simp[LN];omega⟩
theorem zT.adv(h:zT w rb s r):zT (w.setCell ⟨rb,1,none⟩ (.int .i64 ((r.1:Int)+1))) rb s (r.1+1,r.2):=by
 have o:∀j u,j≠1->w.cell? ⟨rb,j,none⟩=some u->(w.setCell ⟨rb,1,none⟩ (.int .i64 ((r.1:Int)+1))).cell? ⟨rb,j,none⟩=some u:=λ j u D C=>by
  rw[LD (h:=by intro e;injection e;omega)];exact C
 exact⟨o 0 _ (by omega) h.c0,LH _ _ _ h.c1,o 2 _ (by omega) h.c2,λ i=>by rw[LG];exact h.fz i,by have:=h.hb;simp[LN];omega⟩
theorem mC(s:tB)(r:vY)(lo hi:Nat)(rb:Nat)(w:tW)(hs:s.size<=120000)(h:zT w rb s r)(hr:r.1<=s.size):
  RA LK 80 #[.pointer (some ⟨rb,0,none⟩),.int .i64 lo,.int .i64 hi] w λ e w'=>
   e=.returned (.int .i64 ((iX s lo hi r).1:Int))/\w.grownBy w' (some rb)/\zT w' rb s (iX s lo hi r).2:=by
 have D:=fV h;have c0:=h.c0;have Z:=h.c1;have c2:=h.c2;have f1:=h.fz 1;have f2:=h.fz 2;clear h;obtain⟨a,b⟩:=r;simp only at*;by_cases he:s.size<=a
 ·have X:decide ((s.size:Int)<=(a:Int))=true:=by simp;omega
  have C:QP (iX s lo hi (a,b)=(lo,(a,true))):=by unfold QP iX;rw[aA (by simp only;omega)]
  go_enter func80,PG;go_wp2;go_quiet (fail);go_wp2;go_ret;rw[C.o];exact⟨rfl,lP (jZ (World.grownBy.refl _ _) _) _ _,(D.o.drewN _).setBad⟩
 ·have X:decide ((s.size:Int)<=(a:Int))=false:=by simp;omega
  have U:=kL s a (by omega);have V:=mT s a;have hI:(0:Int)<=(a:Int)/\(a:Int)<(s.size:Int):=by omega
  have Y:IntKind.i64.wrap (bt s a:Int)=(bt s a:Int):=IntWalk.i64_in _ (by omega);by_cases J:bt s a<lo
  ·have C:QP (iX s lo hi (a,b)=(lo,(a+1,true))):=by unfold QP iX;rw[aB (by simp only;omega),aB (.inl J)]
   have F:decide ((bt s a:Int)<(lo:Int))=true:=by simp;omega
   go_enter func80,PG;go_wp2;go_quiet (fail);go_wp2;go_quiet (fail);go_wp2;go_ret;rw[C.o];exact⟨rfl,lP (lP (jZ (World.grownBy.refl _ _) _) _ _) _ _,((D.o.drewN _).adv).setBad⟩
  ·have F:decide ((bt s a:Int)<(lo:Int))=false:=by simp;omega
   by_cases Q:hi<bt s a
   ·have C:QP (iX s lo hi (a,b)=(lo,(a+1,true))):=by unfold QP iX;rw[aB (by simp only;omega),aB (.inr Q)]
    have I:decide ((hi:Int)<(bt s a:Int))=true:=by simp;omega
    go_enter func80,PG;go_wp2;go_quiet (fail);go_wp2;go_quiet (fail);go_wp2;go_ret;rw[C.o];exact⟨rfl,lP (lP (jZ (World.grownBy.refl _ _) _) _ _) _ _,((D.o.drewN _).adv).setBad⟩
   ·have C:QP (iX s lo hi (a,b)=(bt s a,(a+1,b))):=by unfold QP iX;rw[aB (by simp only;omega),aA (by simp only;omega)]
    have I:decide ((hi:Int)<(bt s a:Int))=false:=by simp;omega
    go_enter func80,PG;go_wp2;go_quiet (fail);go_wp2;go_quiet (fail);go_wp2;go_ret;rw[C.o];exact⟨rfl,lP (jZ (World.grownBy.refl _ _) _) _ _,(D.o.drewN _).adv⟩
end
theorem bU:(Tryz.prog.info? 3).map (λ i=>(i.zero,i.size,i.bytes))=some (some (.int .i64 0),1,8):=by kernel_rfl
theorem Wm(s:tB)(r:vY)(n:Nat)(rb:Nat)(w:tW)(hs:s.size<=120000)(h:zT w rb s r)(Z:r.1<=s.size):
  RA LK 106 #[.pointer (some ⟨rb,0,none⟩),.int .i64 n] w λ e w'=>
   e=.returned (.int .i64 (rF s n r).1)/\w.grownBy w' (some rb)/\zT w' rb s (rF s n r).2:=by
 have Y:=mC s r 0 255 rb w hs h Z;have U:QP (rF s n r=if(iX s 0 255 r).1=255 then(-1,(iX s 0 255 r).2)
  else if n<=(iX s 0 255 r).1 then(((iX s 0 255 r).1:Int),((iX s 0 255 r).2.1,true))else(((iX s 0 255 r).1:Int),(iX s 0 255 r).2)):=rfl
 generalize iX s 0 255 r=N at*;obtain⟨x,X⟩:=N;simp only at*;clear h Z;go_enter func106,ntmps106;go_wp2_with fail;refine Y.mono ?_;rintro e w1 ⟨rfl,hg,D⟩;have J:=fV hg;have Q:=fV D;clear hg Y;by_cases C:x=255
 ·have hd:((x:Int)==255)=true:=by rw[C];rfl
  have F:QP (rF s n r=(-1,X)):=U.o.trans (aB C);clear D C;go_wp2;go_ret;rw[F.o];exact⟨rfl,J.o,Q.o⟩
 ·have hd:((x:Int)==255)=false:=by rw[aC];omega
  by_cases I:n<=x
  ·have V:decide ((n:Int)<=(x:Int))=true:=by simp;omega
   have F:QP (rF s n r=((x:Int),(X.1,true))):=by unfold QP;rw[U.o,aA C,aB I]
   have f2:=D.fz 2;have c2:=D.c2;clear D C;go_wp2;go_ret;rw[F.o];exact⟨rfl,lP J.o _ _,Q.o.setBad⟩
  ·have V:decide ((n:Int)<=(x:Int))=false:=by simp;omega
   have F:QP (rF s n r=((x:Int),X)):=by unfold QP;rw[U.o,aA C,aA I]
   clear D C;go_wp2;go_ret;rw[F.o];exact⟨rfl,J.o,Q.o⟩
theorem Iv(s:tB)(r:vY)(n hi:Nat)(rb:Nat)(w:tW)(hs:s.size<=120000)(hn:n<=1000)(h:zT w rb s r)(hr:r.1<=s.size):
  RA LK 81 #[.pointer (some ⟨rb,0,none⟩),.int .i64 n,.int .i64 hi] w λ e w'=>
   e=.returned (.slice (some ⟨w.heap.size,0,none⟩) n n)/\w'.ownsRow w.heap.size 3 1 (.slice (some ⟨w.heap.size,0,none⟩) n n) n (oZ (oO s hi n [] r).1)/\
   w.grownBy w' (some rb)/\zT w' rb s (oO s hi n [] r).2:=by
 obtain⟨i0,X,aR,aT,aW⟩:=QT bU;have HI:QP (Tryz.prog.info? 3=some i0/\i0.zero=some (.int .i64 0)/\i0.size=1/\i0.bytes=8):=⟨X,aR,aT,aW⟩
 clear X aR aT aW;have HR:=fV h;have cN:=h.hb;clear h;go_enter func81,ntmps81;go_wp2_with (at_make;refine QW w rfl _ _ 59 rfl w.heap.size 3 i0 (.int .i64 0) 1 ND HI.o.1 HI.o.2.1 HI.o.2.2.1 .i64 .i64 _ n rfl rfl rfl (by rw[HI.o.2.2.2];omega) (by unfold QZ;omega) lR ?_;intro w1 C hg);have U:=fV (HR.o.grown hg (by simp));have J:=fV (T9 hg (some rb));have Q:=fV C;have bS:=hg.size;clear C hg HR;generalize hB:w.heap.size=B at*
 go_loopg [7] n (λ gk x wr=>∃(xs:List Nat)(k:Nat)(r':vY),x=.slice (some ⟨B,0,none⟩) k n/\xs.length=k/\k+gk=n/\r'.1<=s.size/\oO s hi n [] r=oO s hi gk xs r'/\
  wr.ownsRow B 3 1 (.slice (some ⟨B,0,none⟩) k n) k (oZ xs)/\w.grownBy wr (some rb)/\zT wr rb s r')
 case atStart=>exact⟨[],0,r,rfl,rfl,by omega,hr,rfl,Q.o,J.o,U.o⟩
 case round=>
  obtain⟨xs,k,r',rfl,aO,bT,Z,V,C,hg,hl⟩:=hrel;have HQ:=fV V;have HO:=fV C;have HG:=fV hg;have HL:=fV hl;have HX:=fV aO;have cP:B<=wr.heap.size:=by have:=hg.size;omega
  clear V C hg hl aO U J Q;by_cases cF:k<n
  ·obtain⟨g',rfl⟩:∃g',gk=g'+1:=⟨gk-1,by omega⟩
   have bN:QP (oO s hi n [] r=oO s hi g' (xs++[(iX s 0 hi r').1]) (iX s 0 hi r').2):=HQ.o;have hc:=mC s r' 0 hi rb wr hs HL.o Z;have ha:=lV (lo:=0) (hi:=hi) Z;generalize iX s 0 hi r'=N at*;obtain⟨x,r2⟩:=N;simp only at*;have hd:=dT k n (by omega)
   go_wp2_with fail;refine hc.mono ?_;rintro e w2 ⟨rfl,F,Y⟩;have bM:QP (w2.ownsRow B 3 1 (.slice (some ⟨B,0,none⟩) k n) k (oZ xs)):=fV (HO.o.kept F (.inr (by simp[MG];omega)));have bC:=fV (gD HG.o F);have bK:=fV Y;have aL:B<=w2.heap.size:=by have:=F.size;omega
   clear F Y HO HG HL hc;go_wp2_with (first|(at_builtin;refine lD w2 rfl _ _ 59 rfl B 3 (.int .i64 0) 1 8 ND bU B k n (oZ xs) [.int .i64 (x:Int)] _ rfl bM.o _ rfl rfl rfl (by simp[MF]) (by omega) ?_;intro w3 I D));go_roundg g'
   case measure=>omega
   case rel=>
    have bO:=kA bC.o (.cells #[.int .i64 (x:Int)] 3);refine⟨xs++[x],k+1,r2,rfl,by simp[HX.o],by omega,ha,bN.o,by rw[sD];exact I,U0 bO D (by omega),?_⟩;exact(bK.o.below (bR.alloc aL _) (by omega)).grown D (by simp;omega)
  ·have e:k=n:=by omega
   subst e;have e2:gk=0:=by omega
   subst e2;have HE:QP (oO s hi k [] r=(xs,r')):=HQ.o;have hd:=dF k k (by omega)
   go_wp2;go_ret;rw[HE.o];subst hB;exact⟨rfl,HO.o,HG.o,HL.o⟩
theorem cS:(Tryz.prog.info? 121).map (λ i=>(i.zero,i.size,i.bytes))=some (some (.agg #[.int .i64 0,.slice none 0 0]),2,32):=by kernel_rfl
theorem Wf(s:tB)(r:vY)(ru cl:Nat)(rb:Nat)(w:tW)(hs:s.size<=120000)(lH:cl<=256)(h:zT w rb s r)(hr:r.1<=s.size):
  RA LK 82 #[.pointer (some ⟨rb,0,none⟩),.int .i64 ru,.int .i64 cl] w λ e w'=>
   ∃(B:Nat)(zs:List ((Nat×List Int)×Nat)),w.heap.size<=B/\e=.returned (.slice (some ⟨B,0,none⟩) zs.length zs.length)/\zs.map (·.1)=(rE s ru cl r).1/\
   w'.ownsRow B 121 2 (.slice (some ⟨B,0,none⟩) zs.length zs.length) zs.length (Jv cl zs)/\pO w' (B+1) zs/\w.grownBy w' (some rb)/\zT w' rb s (rE s ru cl r).2:=by
 obtain⟨i0,V,Z,aL,aO⟩:=QT bU;have HI:QP (Tryz.prog.info? 3=some i0/\i0.zero=some (.int .i64 0)/\i0.size=1/\i0.bytes=8):=⟨V,Z,aL,aO⟩
 clear V Z aL aO;obtain⟨i1,V,Z,aL,aO⟩:=QT cS;have aR:QP (Tryz.prog.info? 121=some i1/\i1.zero=some (.agg #[.int .i64 0,.slice none 0 0])/\i1.size=2/\i1.bytes=32):=⟨V,Z,aL,aO⟩
 clear V Z aL aO;have hn:=mC s r 1 100 rb w hs h hr;have HP:QP (rE s ru cl r=At s ru cl (iX s 1 100 r).1 (iX s 1 100 r).1 [] (iX s 1 100 r).2):=rfl;have qR:=Q7 (s:=s) (lo:=1) (hi:=100) (r:=r) (by omega);have hW:=lV (lo:=1) (hi:=100) hr;have rL:=h.hb;generalize iX s 1 100 r=N at*;obtain⟨n,r1⟩:=N;simp only at*;clear h;go_enter func82,ntmps82;go_wp2_with fail;refine hn.mono ?_;rintro e w1 ⟨rfl,bM,hA⟩;have bT:=fV bM;have eL:=fV hA;have hF:=bM.size;clear bM hA hn;go_wp2_with (first|(at_make;refine QW w1 rfl _ _ 110 rfl w1.heap.size 121 i1 _ 2 underlying110 aR.o.1 aR.o.2.1 aR.o.2.2.1 .i64 .i64 _ n rfl rfl rfl (by rw[aR.o.2.2.2];omega) (by unfold QZ;omega) lR ?_;intro w2 F hg));have eT:=fV (eL.o.grown hg (by simp));have cF:=fV (gD bT.o (T9 hg (some rb)));have eN:=fV F;have hY:rb<w1.heap.size:=by omega
 clear F hg eL bT;generalize w1.heap.size=B at*
 go_loopg [8] n (λ gk x wr=>∃(zs:List ((Nat×List Int)×Nat)) (k:Nat) (r':vY),x=.slice (some ⟨B,0,none⟩) k n/\zs.length=k/\k+gk=n/\r'.1<=s.size/\rE s ru cl r=At s ru cl n gk (zs.map (·.1)) r'/\
  wr.ownsRow B 121 2 (.slice (some ⟨B,0,none⟩) k n) k (Jv cl zs)/\pO wr (B+1) zs/\w.grownBy wr (some rb)/\zT wr rb s r')
 case atStart=>exact⟨[],0,r1,rfl,rfl,by omega,hW,HP.o,eN.o,pO.nil _ _,cF.o,eT.o⟩
 case round=>
  obtain⟨zs,k,r',rfl,Y,nL,hE,Q,F,bC,hg,hl⟩:=hrel;have HQ:=fV Q;have HO:=fV F;have HW:=fV bC;have HG:=fV hg;have HL:=fV hl;have HX:=fV Y;have rO:B<wr.heap.size:=by have:=(F.lt B rfl).2;omega
  clear Q F hg hl Y bC eT cF eN;by_cases nN:k<n
  ·obtain⟨g',rfl⟩:∃g',gk=g'+1:=⟨gk-1,by omega⟩
   have hQ:QP (rE s ru cl r=At s ru cl n g' (zs.map (·.1)++[((iX s 0 ru r').1,(oY s n cl [] (iX s 0 ru r').2).1)]) (oY s n cl [] (iX s 0 ru r').2).2):=HQ.o;have hc:=mC s r' 0 ru rb wr hs HL.o hE;have ha:=lV (lo:=0) (hi:=ru) hE;generalize iX s 0 ru r'=N at*;obtain⟨tk,r2⟩:=N;simp only at*;have hd:=dT k n (by omega)
   go_wp2_with fail;refine hc.mono ?_;rintro e w3 ⟨rfl,U,hB⟩;have eO:QP (w3.ownsRow B 121 2 (.slice (some ⟨B,0,none⟩) k n) k (Jv cl zs)):=fV (HO.o.kept U (.inr (by simp[MG];omega)));have gL:=fV (HW.o.grown U (by omega));have cN:=fV (gD HG.o U);have eM:=fV hB;have iN:B<w3.heap.size:=by have:=U.size;omega
   clear U hB HO HG HL hc HW;go_wp2_with (first|(at_make;refine QW w3 rfl _ _ 59 rfl w3.heap.size 3 i0 (.int .i64 0) 1 ND HI.o.1 HI.o.2.1 HI.o.2.2.1 .i64 .i64 _ cl rfl rfl rfl (by rw[HI.o.2.2.2];omega) (by unfold QZ;omega) lR ?_;intro w4 X bN));have eX:=fV (eM.o.grown bN (by simp));have cP:=fV (T9 bN (some rb));have eR:=fV X;clear X bN eM;generalize hC:w3.heap.size=C at*
   go_loopg [10] cl (λ gj x wj=>∃(xs:List Int)(m:Nat)(rj:vY),x=.slice (some ⟨C,0,none⟩) m cl/\xs.length=m/\m+gj=cl/\rj.1<=s.size/\oY s n cl [] r2=oY s n gj xs rj/\
    wj.ownsRow C 3 1 (.slice (some ⟨C,0,none⟩) m cl) m (pR xs)/\w3.grownBy wj (some rb)/\zT wj rb s rj)
   case atStart=>exact⟨[],0,r2,rfl,rfl,by omega,ha,rfl,eR.o,cP.o,eX.o⟩
   case round=>
    obtain⟨xs,m,rj,rfl,Y,qL,bS,Q,F,hg,hl⟩:=hrel;have eS:=fV Q;have aT:=fV F;have J:=fV hg;have bK:=fV hl;have hU:=fV Y;have hJ:C<wr.heap.size:=by have:=(F.lt C rfl).2;omega
    clear Q F hg hl Y eX cP eR;by_cases hX:m<cl
    ·obtain⟨j',rfl⟩:∃j',gk=j'+1:=⟨gk-1,by omega⟩
     have hR:QP (oY s n cl [] r2=oY s n j' (xs++[(rF s n rj).1]) (rF s n rj).2):=eS.o;have hc:=Wm s rj n rb wr hs bK.o bS;have ha:=Lt (n:=n) bS;generalize rF s n rj=N at*;obtain⟨x,r3⟩:=N;simp only at*;have hV:=dT m cl (by omega)
     go_wp2_with fail;refine hc.mono ?_;rintro e w5 ⟨rfl,aW,hD⟩;have hN:QP (w5.ownsRow C 3 1 (.slice (some ⟨C,0,none⟩) m cl) m (pR xs)):=fV (aT.o.kept aW (.inr (by simp[MG];omega)));have hK:=fV (gD J.o aW);have hM:=fV hD;have hG:C<w5.heap.size:=by have:=aW.size;omega
     clear aW hD aT J bK hc;go_wp2_with (first|(at_builtin;refine lD w5 rfl _ _ 59 rfl C 3 (.int .i64 0) 1 8 ND bU C m cl (pR xs) [.int .i64 x] _ rfl hN.o _ rfl rfl rfl (by simp[MF]) (by omega) ?_;intro w6 I D));go_roundg j'
     case measure=>omega
     case rel=>
      have bO:=kA hK.o (.cells #[.int .i64 x] 3);refine⟨xs++[x],m+1,r3,rfl,by simp[hU.o],by omega,ha,hR.o,by rw[tP];exact I,U0 bO D (by omega),?_⟩;exact(hM.o.below (bR.alloc (MU hG) _) (by omega)).grown D (by simp;omega)
    ·have e:m=cl:=by omega
     subst e;have e2:gk=0:=by omega
     subst e2;have HE:QP (oY s n m [] r2=(xs,rj)):=eS.o;have hV:=dF m m (by omega)
     have hP:QP (wr.ownsRow B 121 2 (.slice (some ⟨B,0,none⟩) k n) k (Jv m zs)):=fV (eO.o.kept J.o (.inr (by simp[MG];omega)));have hT:=fV (gL.o.grown J.o (by omega));have hL:=fV (gD cN.o J.o);have hS:=fV (nV aT.o);have hH:B<wr.heap.size:=by omega
     clear eO gL cN aT J;go_wp2_with (first|(at_builtin;refine lD wr rfl _ _ 110 rfl B 121 (.agg #[.int .i64 0,.slice none 0 0]) 2 32 underlying110 cS B k n (Jv m zs) [.int .i64 (tk:Int),.slice (some ⟨C,0,none⟩) m m] _ rfl hP.o _ rfl rfl rfl (by simp[MF]) (by omega) ?_;intro w6 I D));go_roundg g'
     case measure=>omega
     case rel=>
      have bO:=kA hL.o (.cells #[.int .i64 (tk:Int),.slice (some ⟨C,0,none⟩) m m] 121);have hq:=hQ.o;rw[HE.o]at hq;have hI:=D.size;simp at hI;refine⟨zs++[((tk,xs),C)],k+1,rj,rfl,by simp[HX.o],by omega,bS,by rw[OE];exact hq,by rw[Nq];exact I,?_,U0 bO D (by omega),?_⟩
      ·refine((hT.o.grown (kA (World.grownBy.refl _ (some B)) _) (by omega)).snoc ⟨by omega,by simp;omega,?_⟩).grown D (by omega);exact fY hS.o (MA wr _ C hJ)
      ·exact(bK.o.below (bR.alloc (MU hH) _) (by omega)).grown D (by simp;omega)
  ·have e:k=n:=by omega
   subst e;have e2:gk=0:=by omega
   subst e2;have HE:QP (rE s ru cl r=(zs.map (·.1),r')):=HQ.o;have hd:=dF k k (by omega)
   go_wp2;go_ret;rw[HE.o];have hx:=HX.o;subst hx;exact⟨B,zs,hF,rfl,rfl,HO.o,HW.o,HG.o,HL.o⟩
section
theorem fF:LF=(nS (.slice none 0 0) (MD 256 0) (.slice none 0 0)).toArray:=by kernel_rfl
theorem fG:Tryz.zeroCells72.toList=nS (.slice none 0 0) (MD 256 0) (.slice none 0 0):=by rw[fF]
theorem bL:Tryz.zeroCells72.size=258:=by kernel_rfl
theorem bP:(Tryz.prog.info? 72).map (·.size)=some 258:=by kernel_rfl
theorem bZ:Tryz.zeroCells72.all (·.oneCell')=true:=by kernel_rfl
theorem eJ:(Tryz.prog.info? 110).map (λ i=>(i.zero,i.size,i.bytes))=some (some (.slice none 0 0),1,24):=by kernel_rfl
structure IW(w0 w:tW)(rb:Nat)(s:tB)(r:vY)(vb:tV)(cs:List Nat)(vc:tV):Prop where
 g:w0.grownBy w (some rb)
 rd:zT w rb s r
 im:w.rangeAt (w0.heap.size+1) 0 (nS vb cs vc)
 t1:w.there (w0.heap.size+1) 0 258
 t0:w.there w0.heap.size 0 258
 hz:w0.heap.size+2<=w.heap.size
 hb:rb<w0.heap.size
 hl:cs.length=256
variable {w0 w w':tW}{rb:Nat}{s:tB}{r r':vY}{vb vc:tV}{cs:List Nat}
theorem IW.step(h:IW w0 w rb s r vb cs vc)(hg:w.grownBy w' (some rb))(F:zT w' rb s r'):IW w0 w' rb s r' vb cs vc:=by
 have D:=h.hb;have I:=h.hz;have o:w'.heap[w0.heap.size+1]?=w.heap[w0.heap.size+1]? :=hg.block _ (by omega) (by intro e;injection e;omega);have C:w'.heap[w0.heap.size]?=w.heap[w0.heap.size]? :=hg.block _ (by omega) (by intro e;injection e;omega);exact⟨gD h.g hg,F,fY h.im o,gJ h.t1 o,gJ h.t0 C,by have:=hg.size;omega,D,h.hl⟩
theorem IW.cell(h:IW w0 w rb s r vb cs vc){k:Nat}{v:tV}(o:(nS vb cs vc)[k]?=some v):w.cell? ⟨w0.heap.size+1,k,none⟩=some v:=by
 have:=h.im k v o;rw[LM]at this;exact this
theorem IW.fz(h:IW w0 w rb s r vb cs vc){k:Nat}(o:k<258):w.frozen? ⟨w0.heap.size+1,k,none⟩=false:=by
 have:=(h.t1 k o).2;rw[LM]at this;exact this
theorem IW.set(h:IW w0 w rb s r vb cs vc){k:Nat}{u:tV}{C D:tV}{o:List Nat}(J:k<258)(I:(nS vb cs vc).set k u=nS C o D)(Q:o.length=256):
  IW w0 (w.setCell ⟨w0.heap.size+1,k,none⟩ u) rb s r C o D:=by
 have F:=h.hb;have V:=h.hz;refine⟨⟨h.g.os,h.g.tape,h.g.output,by simp[LN];omega,λ i hi U=>?_⟩,?_,?_,pN h.t1 _ _,pN h.t0 _ _,by simp[LN];omega,F,Q⟩
 ·rw[MQ _ _ _ _ (by simp only;omega)];exact h.g.block i hi U
 ·exact h.rd.block (MQ _ _ _ _ (by simp only;omega)) (by simp[LN])
 ·rw[<-I];exact zH h.im k (by rw[nY _ _ _ h.hl];exact J) u
theorem IW.other(h:IW w0 w rb s r vb cs vc)(hg:w.grownBy w' v)(J:∀k,v=some k->w0.heap.size+2<=k):IW w0 w' rb s r vb cs vc:=by
 have F:=h.hb;have U:=h.hz;have o:∀k,k<w0.heap.size+2->some k≠v:=λ k Q e=>by have:=J k e.symm;omega
 have C:w'.heap[w0.heap.size+1]?=w.heap[w0.heap.size+1]? :=hg.block _ (by omega) (o _ (by omega));have D:w'.heap[w0.heap.size]?=w.heap[w0.heap.size]? :=hg.block _ (by omega) (o _ (by omega));refine⟨⟨hg.os.trans h.g.os,hg.tape.trans h.g.tape,hg.output.trans h.g.output,NE h.g.size hg.size,λ i hi I=>(hg.block i (LJ hi h.g.size) (o i (by omega))).trans (h.g.block i hi I)⟩,
  h.rd.grown hg (o rb (by omega)),fY h.im C,gJ h.t1 C,gJ h.t0 D,by have:=hg.size;omega,F,h.hl⟩
theorem yJ(F:vb.oneCell'=true)(I:vc.oneCell'=true):∀v∈nS vb cs vc,v.oneCell'=true:=by
 intro v C;unfold nS at C;rcases List.mem_cons.1 C with rfl|D
 ·exact F
 ·rcases MT.1 D with o|o
  ·unfold oZ at o;rw[PC]at o;obtain⟨x,_,rfl⟩:=o
   rfl
  ·rw[MR]at o;rw[o];exact I
theorem IW.start(h:zT w rb s r):
  IW w (((w.alloc (.cells LF 72)).alloc (.cells LF 72)).setCells (w.heap.size+1) 0 Tryz.zeroCells72.toList) rb s r (.slice none 0 0) (MD 256 0) (.slice none 0 0):=by
 have o:=h.hb;have t1:=iD (w.alloc (.cells LF 72)) LF 72 (w.heap.size+1) 258 bL (by simp);have F:=iD w LF 72 w.heap.size 258 bL rfl;have D:w.grownBy ((w.alloc (.cells LF 72)).alloc (.cells LF 72)) (some rb):=kA (kA (World.grownBy.refl _ _) _) _;have C:Bl w ((w.alloc (.cells LF 72)).alloc (.cells LF 72)):=(bR.alloc lR _).alloc (by simp) _;have b2:=fX Tryz.zeroCells72.toList 0 _ (w.heap.size+1) C (by omega);have I:=(fX Tryz.zeroCells72.toList 0 ((w.alloc (.cells LF 72)).alloc (.cells LF 72)) (w.heap.size+1) (MZ 0 _) zL).size;simp at I;refine⟨oK D _ _ _ (by omega),h.below b2 o,?_,OM t1 _ _ _,OM (QA F _) _ _ _,by omega,o,PQ⟩;rw[<-fG];exact LZ _ _ _ _ (by rw[LU,bL];exact t1)
end
def pU(w:tW)(lo bb:Nat)(l:List Nat):Prop:=lo<=bb/\bb<w.heap.size/\w.rangeAt bb 0 (oZ l)
theorem pU.grown{w w':tW}(h:pU w lo bb l)(hg:w.grownBy w' (some g))(o:g<lo):pU w' lo bb l:=
 ⟨h.1,LJ h.2.1 hg.size,fY h.2.2 (hg.block bb h.2.1 (by intro e;injection e;have:=h.1;omega))⟩
theorem pU.block{w w':tW}(h:pU w lo bb l)(C:w.heap.size<=w'.heap.size)(o:w'.heap[bb]?=w.heap[bb]?):pU w' lo bb l:=
 ⟨h.1,LJ h.2.1 C,fY h.2.2 o⟩
theorem pU.set{w:tW}(h:pU w lo bb l)(o:g<lo)(v:tV):pU (w.setCell ⟨g,k,none⟩ v) lo bb l:=
 h.block (by simp[LN]) (MQ _ _ _ _ (by simp only;have:=h.1;omega))
def rJ(w:tW)(cl bb:Nat)(vc:tV)(ys:List pC):Prop:=∀y∈ys,oI w cl y/\∀k,V3 y k->bb<k/\vc.ownBlock≠some k
theorem rJ.move{w w':tW}{vc C:tV}{ys:List pC}(h:rJ w cl bb vc ys)(hg:w.grownBy w' v)(V:∀k,v=some k->k<=bb\/vc.ownBlock=some k)(Q:∀k,k<w.heap.size->C.ownBlock=some k->vc.ownBlock=some k):rJ w' cl bb C ys:=λ y X=>by
 obtain⟨F,D⟩:=h y X;refine⟨F.block hg.size (λ k U o=>hg.block k U (λ e=>?_)),λ k o=>⟨(D k o).1,λ e=>(D k o).2 (Q k (F.own o) e)⟩⟩;obtain⟨Y,J⟩:=D k o;rcases V k e.symm with I|I
 ·omega
 ·exact J I
theorem rJ.snoc{w:tW}{vc:tV}{ys:List pC}{y:pC}(h:rJ w cl bb vc ys)(C:oI w cl y/\∀k,V3 y k->bb<k/\vc.ownBlock≠some k):rJ w cl bb vc (ys++[y]):=λ z D=>by
 rcases MT.1 D with o|o
 ·exact h z o
 ·rw[MR]at o;rw[o];exact C
theorem rJ.set{w:tW}{vc:tV}{ys:List pC}(h:rJ w cl bb vc ys)(hg:g<=bb)(v:tV):rJ (w.setCell ⟨g,k,none⟩ v) cl bb vc ys:=λ y F=>by
 obtain⟨C,o⟩:=h y F;exact⟨C.block (by simp[LN]) (λ j _ D=>MQ _ _ _ _ (by simp only;have:=(o j D).1;omega)),o⟩
theorem mG:∀(w:tW)(b o:Nat)(vs:List tV)(k:Nat),k≠b->(w.setCells b o vs).heap[k]?=w.heap[k]? :=by
 intro w b o vs
 induction vs generalizing w o with
 | nil=>intro k _;rfl
 | cons v r ih=>intro k C;exact(ih (w.setCell ⟨b,o,none⟩ v) (o+1) k C).trans (MQ _ _ _ _ C)
theorem lC{w:tW}{v:tV}{xs:List tV}(h:w.ownsRow aH e size v n xs){b:Nat}(C:b<aH)(vs:List tV)(o:Nat):(w.setCells b o vs).ownsRow aH e size v n xs:=by
 induction vs generalizing w o with
 | nil=>exact h
 | cons u r ih=>exact ih (QN (a:=⟨b,o,none⟩) h C u) (o+1)
def DC(w:tW)(rb:Nat)(s:tB)(e:Ending)(w':tW):Prop:=
 ∃(bb:Nat)(vc:tV)(ys:List pC),e=.returned (.agg (nS (.slice (some ⟨bb,0,none⟩) (jU s) (jU s)) (gP s) vc).toArray)/\
   pU w' (w.heap.size+2) bb (oH s)/\w'.ownsRow (bb+1) 110 1 vc ys.length (xD ys)/\ys.map (λ y=>y.2.map (·.1))=J8 s/\(∀y∈ys,oI w' (mV s) y/\∀k,V3 y k->bb<k)/\
   w.grownBy w' (some rb)/\zT w' rb s (Nv s)
theorem Pw(s:tB)(rb:Nat)(w:tW)(hs:s.size<=120000)(h:zT w rb s (0,false)):
  RA LK 51 #[.pointer (some ⟨rb,0,none⟩)] w λ e w'=>DC w rb s e w':=by
 have HI:=fV (IW.start h);have HT:=fV (iD (w.alloc (.cells LF 72)) LF 72 (w.heap.size+1) 258 bL (by simp));have O6:=h.hb;clear h;go_enter func51,ntmps51;go_wp2_with (first|(refine QR rfl 72 (.tmp 3) (.tmp 11) rfl (w.heap.size+1) 0 LF rfl rfl ?_ ?_ bZ ?_;(rw[bL];exact HT.o);(rw[bL];exact bP)));generalize ((w.alloc (.cells LF 72)).alloc (.cells LF 72)).setCells (w.heap.size+1) 0 Tryz.zeroCells72.toList=W0 at*;clear HT;have a0:((0,false):vY).1<=s.size:=zL;refine(mC s (0,false) 83 83 rb _ hs HI.o.rd a0).mono ?_;rintro e w1 ⟨rfl,sR,A0⟩;have hG:=fV (HI.o.step sR A0);have a1:=lV (lo:=83) (hi:=83) a0;clear HI sR A0;go_wp2_with fail;refine(mC s _ 84 84 rb _ hs hG.o.rd a1).mono ?_;rintro e w2 ⟨rfl,sW,A1⟩;have hH:=fV (hG.o.step sW A1);have a2:=lV (lo:=84) (hi:=84) a1;clear hG sW A1;go_wp2_with fail;refine(mC s _ 1 1 rb _ hs hH.o.rd a2).mono ?_;rintro e w3 ⟨rfl,tL,A2⟩;have hI:QP (IW w w3 rb s (x4 s) _ _ _):=fV (hH.o.step tL A2);have a3:(x4 s).1<=s.size:=lV (lo:=1) (hi:=1) a2;clear hH tL A2 a0 a1 a2;go_wp2_with fail;refine(mC s _ 1 8 rb _ hs hI.o.rd a3).mono ?_;rintro e w4 ⟨rfl,tO,A3⟩;have bN:QP (IW w w4 rb s (Wl s) _ _ _):=fV (hI.o.step tO A3);have a4:(Wl s).1<=s.size:=lV (lo:=1) (hi:=8) a3;have O7:1<=jU s/\jU s<=8:=Q7 (by omega);have ER:QP ((iX s 1 8 (x4 s)).1=jU s):=rfl;rw[ER.o];clear hI tO A3 a3 ER;obtain⟨ru,aW⟩:=xE (jU s)
 rw[aW]at O7 ⊢;replace aW:=fV aW;go_wp2_with fail;refine(Iv s _ ru 5 rb _ hs (by omega) bN.o.rd a4).mono ?_;rintro e w5 ⟨rfl,cP,tT,gL⟩;have e5:oO s 5 ru [] (Wl s)=(oH s,Nu s):=by rw[<-aW.o];rfl
 rw[e5]at cP gL;simp only at cP gL;have bO:=fV (bN.o.step tT gL);have a5:(Nu s).1<=s.size:=by have:=Db (hi:=5) ru [] (Wl s) a4;rw[e5]at this;exact this
 have M2:(oH s).length=ru:=by have:=lQ (s:=s) (hi:=5) ru [] (Wl s);rw[e5]at this;simpa using this
 have hL:QP (pU w5 (w.heap.size+2) w4.heap.size (oH s)):=fV ⟨bN.o.hz,by have:=(cP.lt w4.heap.size rfl).2;omega,nV cP⟩;have T2:w.heap.size+2<=w4.heap.size:=bN.o.hz;clear cP tT gL bN a4 e5;generalize w4.heap.size=bb at*;have aO:∀x∈oH s,x<=5:=AE _ _ _ (λ x hx=>by cases hx);obtain⟨L,EL⟩:=xE (oH s)
 rw[EL]at M2 aO hL;replace EL:=fV EL;replace aO:=fV aO;have c0:=bO.o.cell (Pk _ _ _);have f0:=bO.o.fz (k:=0) (by omega);have hJ:=fV (bO.o.set (k:=0) (u:= .slice (some ⟨bb,0,none⟩) ru ru) (by omega) (Vz _ _ _ _) bO.o.hl);have nL:=fV (hL.o.set (g:=w.heap.size+1) (k:=0) (by omega) (.slice (some ⟨bb,0,none⟩) ru ru));go_wp2_with fail;generalize w5.setCell ⟨w.heap.size+1,0,none⟩ (.slice (some ⟨bb,0,none⟩) ru ru)=W6 at*;clear bO hL c0 f0;refine(mC s _ 1 4 rb _ hs hJ.o.rd a5).mono ?_;rintro e w7 ⟨rfl,hS,B1⟩;have eN:=fV (hJ.o.step hS B1);have nN:=fV (nL.o.grown hS (by omega));have O3:1<=xK s/\xK s<=4:=Q7 (by omega);have a7:(iX s 1 4 (Nu s)).2.1<=s.size:=lV (lo:=1) (hi:=4) a5;have ER:QP ((iX s 1 4 (Nu s)).1=xK s):=rfl;have E6:QP (Pv s=((iX s 1 4 (Nu s)).2.1,(iX s 1 4 (Nu s)).2.2||vF (oH s) (1+xK s))):=rfl;rw[ER.o];rw[EL.o]at E6;clear hJ nL hS B1 a5 ER;generalize iX s 1 4 (Nu s)=N at*;obtain⟨mm,r7⟩:=N;simp only at a7 E6 eN;obtain⟨X,eM⟩:=xE (xK s)
 rw[eM]at O3 E6 ⊢;replace eM:=fV eM;have c0:=eN.o.cell (Pk _ _ _);go_wp2_with fail;clear c0
 go_loopw [29] (λ x wr=>∃k:Nat,x=.int .i64 (k:Int)/\k<=ru/\IW w wr rb s (r7.1,r7.2||vF (L.take k) (1+X)) (.slice (some ⟨bb,0,none⟩) ru ru) (MD 256 0) (.slice none 0 0)/\pU wr (w.heap.size+2) bb L) (λ x _=>ru-(QO x).toNat)
 case atStart=>
  refine⟨0,rfl,zL,?_,nN.o⟩;have e:(r7.1,r7.2||vF (L.take 0) (1+X))=r7:=by simp[vF]
  rw[e];exact eN.o
 case round=>
  obtain⟨k,rfl,hk,Q,U⟩:=hrel;have Y:=fV Q;have bT:=fV U;clear Q U eN nN;by_cases W3:k<ru
  ·have hU:k<L.length:=by omega
   have eT:=fV (Qj L (1+X) k hU);have hx:wr.cell? ⟨bb,k,none⟩=some (.int .i64 (L[k]:Int)):=by have:=bT.o.2.2 k _ (Q3 L k hU);rw[LM]at this;exact this
   have hX:L[k]<=5:=aO.o _ (OI hU);generalize L[k]=x at*;have hd:=dT k ru (by omega)
   have f2:=Y.o.rd.fz 2;have c2:=Y.o.rd.c2;by_cases hA:1+X<x
   ·have hR:decide ((1:Int)+(X:Int)<(x:Int))=true:=by simp;omega
    have HE:QP (vF (L.take (k+1)) (1+X)=true):=by unfold QP;rw[eT.o];simp[hA]
    have D:=fV (Y.o.step (lP (World.grownBy.refl _ _) 2 (.bool true)) Y.o.rd.setBad);have eO:=fV (bT.o.set (g:=rb) (k:=2) (by omega) (.bool true));clear eT hA;go_wp2;go_roundw
    case rel=>
     refine⟨k+1,by go_num,by omega,?_,eO.o⟩;rw[HE.o,Bool.or_true];exact D.o
    case measure=>simp[QO];omega
   ·have hR:decide ((1:Int)+(X:Int)<(x:Int))=false:=by simp;omega
    have HE:QP (vF (L.take (k+1)) (1+X)=vF (L.take k) (1+X)):=by unfold QP;rw[eT.o];simp[hA]
    clear eT hA;go_wp2;go_roundw
    case rel=>
     refine⟨k+1,by go_num,by omega,?_,bT.o⟩;rw[HE.o];exact Y.o
    case measure=>simp[QO];omega
  ·have e:k=ru:=by omega
   subst e;have D:QP (IW w wr rb s (Pv s) (.slice (some ⟨bb,0,none⟩) k k) (MD 256 0) (.slice none 0 0)):=by
    unfold QP;have:=Y.o;rw[List.take_of_length_le (by omega),<-E6.o]at this;exact this
   have a6:(Pv s).1<=s.size:=by rw[E6.o];exact a7
   have hd:=dF k k (by omega)
   clear Y;go_wp2_with fail;refine(mC s _ 0 255 rb _ hs D.o.rd a6).mono ?_;rintro e w8 ⟨rfl,hT,B2⟩;have F:QP (IW w w8 rb s (Tm s) _ _ _):=fV (D.o.step hT B2);have qL:=fV (bT.o.grown hT (by omega));have W7:=Q7 (s:=s) (lo:=0) (hi:=255) (r:=Pv s) (by omega);have a8:(Tm s).1<=s.size:=lV (lo:=0) (hi:=255) a6;have EC:QP (mV s=1+(iX s 0 255 (Pv s)).1):=rfl;clear D bT hT B2 a6;generalize (iX s 0 255 (Pv s)).1=Z at*;obtain⟨cl,aT⟩:=xE (mV s)
   rw[aT]at EC;have hQ:cl=1+Z:=EC.o;have h8:(cl:Int)-1=(Z:Int):=by omega
   have W1:(1:Int)+(Z:Int)=(cl:Int):=by omega
   have EX:QP (Z=cl-1):=by unfold QP;omega
   replace aT:=fV aT;replace hQ:=fV hQ;have N0:cl<=256:=by have:=hQ.o;omega
   clear EC;go_wp2_with fail
   go_loopg [44] 256 (λ gk x wr=>∃(xs:List Nat)(m:Nat)(r':vY),x=.int .i64 (m:Int)/\xs.length=m/\m+gk=256/\r'.1<=s.size/\oO s Z 256 [] (Tm s)=oO s Z gk xs r'/\
    IW w wr rb s r' (.slice (some ⟨bb,0,none⟩) k k) (xs++MD gk 0) (.slice none 0 0)/\pU wr (w.heap.size+2) bb L)
   case atStart=>exact⟨[],0,Tm s,rfl,rfl,rfl,a8,rfl,F.o,qL.o⟩
   case round=>
    obtain⟨xs,m,r',rfl,hX,O0,hW,cF,Q,U⟩:=hrel;have HQ:=fV cF;have bS:=fV Q;have eR:=fV U;have HX:=fV hX;clear cF Q U hX F qL;by_cases H0:m<256
    ·obtain⟨g',rfl⟩:∃g',gk=g'+1:=⟨gk-1,by omega⟩
     have hN:QP (oO s Z 256 [] (Tm s)=oO s Z g' (xs++[(iX s 0 Z r').1]) (iX s 0 Z r').2):=HQ.o;have hc:=mC s r' 0 Z rb wr hs bS.o.rd hW;have ha:=lV (lo:=0) (hi:=Z) hW;generalize iX s 0 Z r'=N at*;obtain⟨x,r2⟩:=N;simp only at*;have hR:decide ((m:Int)<256)=true:=by simp;omega
     go_wp2_with fail;refine hc.mono ?_;rintro e w9 ⟨rfl,I,cN⟩;have bC:=fV (bS.o.step I cN);have qR:=fV (eR.o.grown I (by omega));clear I cN bS eR hc HQ;have hV:m<(xs++MD (g'+1) 0).length:=by rw[bC.o.hl];exact H0
     have HE:QP ((xs++MD (g'+1) 0).set m x=(xs++[x])++MD g' 0):=by unfold QP;rw[<-HX.o];exact Nm xs g' x
     have lH:=fV (bC.o.set (k:=1+m) (u:= .int .i64 (x:Int)) (by omega) (Wa _ _ _ m x hV) (by rw[QF];exact bC.o.hl));have H6:=fV (qR.o.set (g:=w.heap.size+1) (k:=1+m) (by omega) (.int .i64 (x:Int)));have cm:=bC.o.cell (s8 _ _ _ m hV);have fm:=bC.o.fz (k:=1+m) (by omega);rw[HE.o]at lH;generalize (xs++MD (g'+1) 0)[m]=old at*;clear bC qR hV HE;have W4:(0:Int)<=(m:Int)/\(m:Int)<256:=by omega
     go_wp2;go_roundg g'
     case measure=>omega
     case rel=>exact⟨xs++[x],m+1,r2,by go_num,by simp[HX.o],by omega,ha,hN.o,lH.o,H6.o⟩
    ·have e:gk=0:=by omega
     subst e;have HE:QP (gP s=xs/\x7 s=r'):=by
      have e1:oO s Z 256 [] (Tm s)=(xs,r'):=HQ.o;have e2:mV s-1=Z:=by rw[aT.o,EX.o]
      unfold QP gP x7;rw[e2,e1];exact⟨rfl,rfl⟩
     have hK:=bS;rw[List.replicate_zero,OP]at hK;have hR:decide ((m:Int)<256)=false:=by simp;omega
     clear bS HQ O0;go_wp2_with fail
     go_loopg [10] X (λ gk _ wr=>∃(ys:List pC)(vc:tV)(j:Nat)(r2:vY),ys.length=j/\j+gk=X/\r2.1<=s.size/\
      pX s k cl X [] r'=pX s k cl gk (ys.map (λ y=>y.2.map (·.1))) r2/\IW w wr rb s r2 (.slice (some ⟨bb,0,none⟩) k k) xs vc/\pU wr (w.heap.size+2) bb L/\
      wr.ownsRow (bb+1) 110 1 vc j (xD ys)/\rJ wr cl bb vc ys)
     case atStart=>exact⟨[],.slice none 0 0,0,r',rfl,by omega,hW,rfl,hK.o,eR.o,LS _ _ _ _,λ y hy=>absurd hy (OJ)⟩
     case round=>
      obtain⟨ys,vc,j,r2,hC,W2,H3,cF,Q,U,H1,rT⟩:=hrel;have HQ:=fV cF;have C:=fV Q;have eS:=fV U;have bK:=fV H1;have hF:=fV rT;have HY:=fV hC;clear cF Q U H1 rT hC hK eR;obtain⟨va,aU,O8⟩:=gA bK.o;subst O8;by_cases S2:j<X
      ·obtain⟨g',rfl⟩:∃g',gk=g'+1:=⟨gk-1,by omega⟩
       have hN:QP (pX s k cl X [] r'=pX s k cl g' (ys.map (λ y=>y.2.map (·.1))++[(rE s k cl r2).1]) (rE s k cl r2).2):=HQ.o;have hc:=Wf s r2 k cl rb wr hs N0 C.o.rd H3;have ha:=Kx (ru:=k) (cl:=cl) H3;generalize rE s k cl r2=N at*;obtain⟨zl,r3⟩:=N;simp only at*;have N1:=dT j X (by omega)
       have aL:=C.o.cell (yI _ _ _ C.o.hl);go_wp2_with fail;refine hc.mono ?_;rintro e w9 ⟨B,zs,hB,rfl,H4,eL,aR,I,cN⟩;have D:=fV (C.o.step I cN);have eO:=fV (eS.o.grown I (by omega));have hM:QP (w9.ownsRow (bb+1) 110 1 (.slice va j aU) j (xD ys)):=fV (bK.o.kept I (by
        cases hv:(MY va j aU).ownBlock with
        | none=>exact .inl rfl
        | some q=>right;have:=(bK.o.lt q hv).1;intro e;injection e;omega))
       have T3:bb<wr.heap.size:=eS.o.2.1;have hY:QP (rJ w9 cl bb (.slice va j aU) (ys++[(B,zs)])):=fV ((hF.o.move I (λ q V=>by injection V;left;omega) (λ q _ V=>V)).snoc ⟨⟨(eL.lt B rfl).2,by
         intro i u hu;have:=eL.cells rfl i u hu;by_cases hi:i=0
         ·subst hi;simpa[Addr.add]using this
         ·simpa[Addr.add,hi]using this,λ z hz=>⟨(aR z hz).2.1,(aR z hz).2.2⟩⟩,λ q V=>by
         have W5:B<=q:=by
          rcases V with rfl|⟨z,hz,rfl⟩
          ·exact lR
          ·have:=(aR z hz).1;omega
         refine⟨by omega,λ e=>?_⟩;have:=(bK.o.lt q e).2;omega⟩)
       have HZ:=fV H4;clear I cN eL aR H4 C eS bK hF hc HQ aL;have aL:=D.o.cell (yI _ _ _ D.o.hl);have W8:wr.heap.size<=w9.heap.size:=by have:=hY.o (B,zs) (MT.2 (.inr (MR.2 rfl)));have:=this.1.lt;simp only at this;omega
       go_wp2_with (first|(at_builtin;refine gB w9 rfl (.tmp 65) (.tmp 67) 52 rfl (bb+1) 110 (.slice none 0 0) 1 24 underlying52 eJ rfl (by decide) (by decide) _ j (xD ys) [.slice (some ⟨B,0,none⟩) zs.length zs.length] _ rfl hM.o _ rfl rfl rfl (by simp[MF]) (by omega) (by omega) ?_;intro ga hE wa H2 eX rO S5;have F:=fV ((D.o.other (OC w9 _ none) (λ q V=>by cases V)).other eX (λ q V=>by have:=(hM.o.lt q V).1;omega));have O9:=F.o.cell (yI _ _ _ F.o.hl);have P0:=F.o.fz (k:=257) (by omega);clear aL));have O5:∀q,q<(w9.alloc (.cells #[.slice (some ⟨B,0,none⟩) zs.length zs.length] 110)).heap.size->(MY (some ⟨ga,0,none⟩) (j+1) hE).ownBlock=some q->(MY va j aU).ownBlock=some q:=λ q V e=>by
        have e':ga=q:=by simpa[MG]using e
        subst e';rcases rO with h1|h1
        ·exact h1
        ·simp at V;omega
       go_roundg g'
       case measure=>omega
       case rel=>
        refine⟨ys++[(B,zs)],.slice (some ⟨ga,0,none⟩) (j+1) hE,j+1,r3,by simp[HY.o],by omega,ha,?_,?_,?_,?_,?_⟩
        ·rw[OE,PW];simp only;rw[HZ.o];exact hN.o
        ·exact F.o.set (k:=257) (by omega) (Lm _ _ _ _ F.o.hl) F.o.hl
        ·refine pU.set ((eO.o.grown (g:=w.heap.size) (OC w9 _ _) (by omega)).block eX.size (eX.block bb (by simp;have:=eO.o.2.1;omega) (λ e=>?_))) (by omega) _;have:=(hM.o.lt bb e.symm).1;omega
        ·rw[Bx];exact QN H2 (by show w.heap.size+1<bb+1;omega) _
        ·exact rJ.set ((hY.o.move (OC w9 _ none) (λ q V=>by cases V) (λ q _ V=>V)).move eX (λ q V=> .inr V) O5) (by omega) _
      ·have e:gk=0:=by omega
       subst e;have iN:QP (J8 s=ys.map (λ y=>y.2.map (·.1))/\Nv s=r2):=by
        have e1:pX s k cl X [] r'=(ys.map (λ y=>y.2.map (·.1)),r2):=HQ.o;unfold QP J8 Nv;rw[aW.o,aT.o,eM.o,HE.o.2,e1];exact⟨rfl,rfl⟩
       have aL:=C.o.cell (yI _ _ _ C.o.hl);have N1:=dF j X (by omega)
       have hD:=fV (yJ (vb:= .slice (some ⟨bb,0,none⟩) k k) (vc:= .slice va j aU) (cs:=xs) rfl rfl);have J:=fV (nY (.slice (some ⟨bb,0,none⟩) k k) xs (.slice va j aU) C.o.hl);obtain⟨IL,bM⟩:=xE (nS (.slice (some ⟨bb,0,none⟩) k k) xs (.slice va j aU))
       have H5:QP (wr.rangeAt (w.heap.size+1) 0 IL):=by rw[<-bM];exact C.o.im
       rw[bM]at hD J;replace bM:=fV bM;have rL:QP (IL.toArray.size=258):=by unfold QP;simpa using J.o
       go_wp2_with (first|(refine QQ rfl 72 (.tmp 3) rfl (w.heap.size+1) 0 rfl IL _ H5.o MO rfl ?_ ?_;(rw[J.o];exact bP))|(refine QR rfl 72 (.tmp 2) (.tmp 70) rfl w.heap.size 0 IL.toArray rfl rfl ?_ ?_ (QS hD.o) ?_;(rw[rL.o];exact C.o.t0);(rw[rL.o];exact bP)));have L1:QP (wr.there w.heap.size 0 IL.length):=by unfold QP;rw[J.o];exact C.o.t0
       refine lE results51 w.heap.size 0 IL _ rfl ?_ MO rfl (by rw[J.o];exact bP) rfl ?_
       ·exact LZ _ _ _ _ L1.o
       ·have hP:=fX IL 0 wr w.heap.size (MZ w.heap.size _) lR;have hC:=HY.o;refine⟨bb,.slice va j aU,ys,?_,?_,?_,iN.o.1.symm,λ y hy=>?_,?_,?_⟩
        ·rw[aW.o,HE.o.1,bM.o]
        ·rw[EL.o];exact eS.o.block hP.size (mG wr w.heap.size 0 IL bb (by omega))
        ·rw[hC];exact lC bK.o (by omega) IL 0
        ·rw[aT.o];obtain⟨h1,h2⟩:=hF.o y hy;exact⟨h1.block hP.size (λ q _ ho=>mG wr w.heap.size 0 IL q (by have:=(h2 q ho).1;omega)),λ q ho=>(h2 q ho).1⟩
        ·exact oK C.o.g _ _ _ lR
        ·rw[iN.o.2];exact C.o.rd.below hP O6
theorem lM(s:tB)(i n:Nat)(most:Int)(w:tW)(Y:s.size<=QZ)(hi:i<=1000000000)(hn:n<=1000000000):
  RA LK 117 #[.string s,.int .i64 i,.int .i64 n,.int .i64 most] w λ e w'=>e=.returned (.bool (kT s i n most))/\w'=w:=by
 unfold QZ at Y;by_cases J:s.size<i+n
 ·have D:=Ie (most:=most) J;rw[D];clear D;go_enter func117,ntmps117;go_wp2;go_ret;exact⟨rfl,rfl⟩
 ·go_enter func117,ntmps117;go_wp2
  go_loop [9] (λ k=>∃j:Nat,j<=n/\k=.int .i64 ((i+j:Nat):Int)/\∀l,l<j->(bt s (i+l):Int)<=most) (λ k=>i+n-(QO k).toNat)
  case atStart=>exact⟨0,zL,rfl,λ l h=>absurd h (OF _)⟩
  case round=>
   obtain⟨j,hj,rfl,C⟩:=hrel;have Q:QP (∀l,l<j->(bt s (i+l):Int)<=most):=C;clear C;by_cases F:j<n
   ·have Z:=kL s (i+j) (by omega);have V:=mT s (i+j);by_cases U:(bt s (i+j):Int)<=most
    ·go_wp2;go_round
     case rel=>
      refine⟨j+1,F,by go_num,?_⟩;intro l X;by_cases e:l=j
      ·rw[e];exact U
      ·exact Q.o l (by omega)
     case measure=>simp[QO];omega
    ·have D:=Ve (i:=i) (most:=most) F (Int.not_le.mp U);have I:QP (kT s i n most=false):=D;clear D;go_wp2;go_ret;exact⟨by rw[I.o];rfl,rfl⟩
   ·have D:=oD (s:=s) (i:=i) (n:=n) (most:=most) (by omega) (λ l X=>Q.o l (by omega));have I:QP (kT s i n most=true):=D;clear D;go_wp2;go_ret;exact⟨by rw[I.o];rfl,rfl⟩
theorem E4(s:tB)(o C:Nat)(i n most:Int)(w:tW)(I:s.size<=1000000)(hi:o<=1000000000)(hn:C<=1000000000)(D:i=(o:Int))(F:n=(C:Int)):
  RA LK 117 #[.string s,.int .i64 i,.int .i64 n,.int .i64 most] w λ e w'=>e=.returned (.bool (kT s o C most))/\w'=w:=by
 subst D F;exact lM s o C most w (by unfold QZ;omega) hi hn
theorem U7{a:Nat}(o:a<=255)(C:b<=257):a*b<=65535:=NE (NH o C) (by decide)
theorem Ed(s:tB)(aX aM i b:Nat)(w:tW)(hs:s.size<=120000)(hi:i<=1000000)(hm:aM<=256)
  (h0:w.cell? ⟨b,0,none⟩=some (.string s)) (h1:w.cell? ⟨b,1,none⟩=some (.int .i64 aX)) (h4:w.cell? ⟨b,4,none⟩=some (.int .i64 aM)):
  RA LK 118 #[.pointer (some ⟨b,0,none⟩),.int .i64 i] w λ e w'=>
   e=.returned (.tuple #[.int .i64 (IQ s aX aM i),.int .i64 (tZ s aX aM i),.bool (rY s aX aM i)])/\∃q,w'=w.drewN q:=by
 by_cases hb:kT s i 1 100=true
 case neg=>
  have C:¬(rY s aX aM i=true):=by
   intro h;rw[nJ]at h;exact hb (oD h.1 (λ j hj=>by
    have:j=0:=by omega
    subst this;simp;have:=h.2.1;omega))
  obtain⟨J,I,V⟩:=Hm C;rw[J,I,V];clear J I V C;have hb:kT s i 1 100=false:=by simpa using hb
  go_enter PF,OY;go_wp2_with (first|(go_at_call 117;refine(lM _ _ 1 100 _ (by unfold QZ;omega) (by omega) (by omega)).mono ?_;rintro e w ⟨rfl,rfl⟩));go_ret3;exact⟨rfl,0,rfl⟩
 have bK:i+1<=s.size/\bt s i<=100:=by
  unfold kT at hb;simp only[ME,aE]at hb;have:=hb.2 0 (by omega);simp at this;exact⟨hb.1,by omega⟩
 obtain⟨bN,aT⟩:=bK;have eL:=kL s i (by omega);by_cases hz:bt s i=0
 ·have C:¬(rY s aX aM i=true):=by
   intro h;rw[nJ]at h;exact h.2.2.1 hz
  obtain⟨J,I,V⟩:=Hm C;rw[J,I,V];clear J I V C;go_enter PF,OY;go_wp2_with (first|(go_at_call 117;refine(lM _ _ 1 100 _ (by unfold QZ;omega) (by omega) (by omega)).mono ?_;rintro e w ⟨rfl,rfl⟩));go_ret3;exact⟨rfl,0,rfl⟩
 have U:=U7 (a:=bt s i) (b:=1+aM) (by omega) (by omega);have eR:(0:Int)<=(bt s i:Int)*(1+(aM:Int))/\(bt s i:Int)*(1+(aM:Int))<=65535:=by
  have e:((bt s i*(1+aM):Nat):Int)=(bt s i:Int)*(1+(aM:Int)):=by simp
  omega
 by_cases Y:s.size<i+1+bt s i*(1+aM)
 ·have C:¬(rY s aX aM i=true):=by
   intro h;rw[nJ]at h;omega
  obtain⟨J,I,V⟩:=Hm C;rw[J,I,V];have hl:(s.size:Int)<(i:Int)+1+(bt s i:Int)*(1+(aM:Int)):=by
   have e:((bt s i*(1+aM):Nat):Int)=(bt s i:Int)*(1+(aM:Int)):=by simp
   omega
  clear J I V C Y U;go_enter PF,OY;go_wp2_with (first|(go_at_call 117;refine(lM _ _ 1 100 _ (by unfold QZ;omega) (by omega) (by omega)).mono ?_;rintro e w ⟨rfl,rfl⟩));go_ret3;exact⟨rfl,0,rfl⟩
 have hl:(i:Int)+1+(bt s i:Int)*(1+(aM:Int))<=(s.size:Int):=by
  have e:((bt s i*(1+aM):Nat):Int)=(bt s i:Int)*(1+(aM:Int)):=by simp
  omega
 have HL:QP (i+1+bt s i*(1+aM)<=s.size):=by unfold QP;omega
 clear Y U;have eT:((bt s i:Int)==0)=false:=aC.2 (by omega);have eO:decide ((s.size:Int)<(i:Int)+1+(bt s i:Int)*(1+(aM:Int)))=false:=by simp;omega
 go_enter PF,OY;go_wp2_with (first|(go_at_call 117;refine(lM _ _ 1 100 _ (by unfold QZ;omega) (by omega) (by omega)).mono ?_;rintro e w ⟨rfl,rfl⟩))
 go_loopw [10] (λ k w'=>∃st q:Nat,st<=bt s i/\k=.int .i64 (st:Int)/\w'=w.drewN q/\∀l,l<st->I4 s aX aM (bt s i) (i+1+l*(1+aM))=true) (λ k _=>bt s i-(QO k).toNat)
 case atStart=>exact⟨0,0,zL,rfl,rfl,λ l h=>absurd h (OF _)⟩
 case round=>
  obtain⟨st,q,eS,rfl,rfl,Q⟩:=hrel;have HA:QP (∀l,l<st->I4 s aX aM (bt s i) (i+1+l*(1+aM))=true):=Q;clear Q;by_cases X:st<bt s i
  ·have U:st*(1+aM)+(1+aM)<=bt s i*(1+aM):=by
    have:=OL (1+aM) (show st+1<=bt s i from X);rw[NO]at this;omega
   have bO:(0:Int)<=(st:Int)*(1+(aM:Int))/\(st:Int)*(1+(aM:Int))+(1+(aM:Int))<=(bt s i:Int)*(1+(aM:Int)):=by
    have e:((bt s i*(1+aM):Nat):Int)=(bt s i:Int)*(1+(aM:Int)):=by simp
    have I:((st*(1+aM):Nat):Int)=(st:Int)*(1+(aM:Int)):=by simp
    omega
   have HM:QP (st*(1+aM)+(1+aM)<=bt s i*(1+aM)):=U;clear U;obtain⟨a,bC⟩:∃a:Nat,a=i+1+st*(1+aM):=⟨_,rfl⟩
   have ha:(i:Int)+1+(st:Int)*(1+(aM:Int))=(a:Int):=by
    have I:((st*(1+aM):Nat):Int)=(st:Int)*(1+(aM:Int)):=by simp
    omega
   have cP:a+1+aM<=s.size:=by omega
   have aR:QP (a=i+1+st*(1+aM)):=bC;clear bC bO;have bS:=kL s a (by omega);have eM:=mT s a;by_cases aO:bt s a<=aX
   ·have cN:decide (aX<bt s a)=false:=by simp;omega
    go_wp2;go_quiet (fail);go_wp2
    go_loopw [12] (λ k w'=>∃F q2:Nat,w'=w.drewN q2/\F<=aM/\k=.int .i64 ((F+1:Nat):Int)/\∀l,l<F->bt s (a+(l+1))<bt s i\/bt s (a+(l+1))=255) (λ k _=>1+aM-(QO k).toNat)
    case atStart=>exact⟨0,q+nq,by simp,zL,rfl,λ l h=>absurd h (OF _)⟩
    case round=>
     obtain⟨F,q2,rfl,eN,rfl,Q⟩:=hrel;have HK:QP (∀l,l<F->bt s (a+(l+1))<bt s i\/bt s (a+(l+1))=255):=Q;clear Q;by_cases Z:F<aM
     ·have bT:=kL s (a+(F+1)) (by omega);have cF:=mT s (a+(F+1));by_cases D:bt s (a+(F+1))<bt s i\/bt s (a+(F+1))=255
      ·have HG:QP (bt s (a+(F+1))<bt s i\/bt s (a+(F+1))=255):=D;by_cases bM:bt s i<=bt s (a+(F+1))
       ·have aW:bt s (a+(F+1))=255:=by omega
        clear D;go_wp2;go_roundw
        case rel=>
         refine⟨F+1,q2,rfl,Z,by go_num,?_⟩;intro l hl;by_cases e:l=F
         ·rw[e];exact HG.o
         ·exact HK.o l (by omega)
        case measure=>simp[QO];omega
       ·clear D;go_wp2;go_roundw
        case rel=>
         refine⟨F+1,q2,rfl,Z,by go_num,?_⟩;intro l hl;by_cases e:l=F
         ·rw[e];exact HG.o
         ·exact HK.o l (by omega)
        case measure=>simp[QO];omega
      ·have C:¬(rY s aX aM i=true):=by
        intro h;rw[nJ]at h;have h5:=h.2.2.2.2 st X;rw[qK,<-aR.o]at h5;exact D (h5.2 F Z)
       obtain⟨J,I,V⟩:=Hm C;have E:QP (IQ s aX aM i=0/\tZ s aX aM i=i/\rY s aX aM i=false):=⟨J,I,V⟩
       have bM:bt s i<=bt s (a+(F+1)):=by omega
       have aW:bt s (a+(F+1))≠255:=by omega
       clear J I V C D;go_wp2;go_ret3;refine⟨?_,q2,rfl⟩;rw[E.o.1,E.o.2.1,E.o.2.2]
       rfl
     ·have e:F=aM:=by omega
      subst e;go_wp2;go_roundw
      case rel=>
       refine⟨st+1,q2,X,by go_num,rfl,?_⟩;intro l hl;by_cases e:l=st
       ·rw[e,qK,<-aR.o];exact⟨aO,HK.o⟩
       ·exact HA.o l (by omega)
      case measure=>simp[QO];omega
   ·have C:¬(rY s aX aM i=true):=by
     intro h;rw[nJ]at h;have h5:=h.2.2.2.2 st X;rw[qK,<-aR.o]at h5;exact aO h5.1
    obtain⟨J,I,V⟩:=Hm C;have E:QP (IQ s aX aM i=0/\tZ s aX aM i=i/\rY s aX aM i=false):=⟨J,I,V⟩
    clear J I V C;go_wp2;go_quiet (fail);go_wp2;go_ret3;refine⟨?_,q+nq,by simp⟩;rw[E.o.1,E.o.2.1,E.o.2.2]
    rfl
  ·have e:st=bt s i:=by omega
   subst e;have aL:rY s aX aM i=true:=nJ.2 ⟨bN,aT,hz,HL.o,HA.o⟩;obtain⟨J,I⟩:=Ec aL;have E:QP (IQ s aX aM i=bt s i/\tZ s aX aM i=i+1+bt s i*(1+aM)/\rY s aX aM i=true):=⟨J,I,aL⟩
   clear J I aL;go_wp2;go_ret3;refine⟨?_,q,rfl⟩;rw[E.o.1,E.o.2.1,E.o.2.2];simp
theorem Wx(s:tB)(w:tW)(Z:s.size<=120000)(D:B0 s=false):
  RA LK 111 #[.string s] w λ e w'=>
   e=.returned (.tuple #[.pointer none,.bool false])/\w'=w:=by
 have J:QP (¬(4<=s.size/\(bt s 0=83/\bt s 1=84/\bt s 2=1)/\1<=bt s 3/\bt s 3<=8)):=by
  intro h;rw[pK.2 h]at D;cases D
 clear D;by_cases X:s.size<4
 ·go_enter NF,NB;go_wp2;go_ret2;exact⟨rfl,rfl⟩
 have Q:=kL s 3 (by omega);have I:=mT s 3;have C:=FM s (by omega);by_cases U:(s.extract 0 3).toList=[83,84,1]
 ·have F:¬(1<=bt s 3/\bt s 3<=8):=λ h=>J.o ⟨by omega,C.1 U,h⟩
  clear C;by_cases V:bt s 3<1
  ·clear F;go_enter NF,NB;go_wp2;go_ret2;exact⟨rfl,rfl⟩
  ·have Y:8<bt s 3:=by omega
   clear F;go_enter NF,NB;go_wp2;go_ret2;exact⟨rfl,rfl⟩
 ·clear C;go_enter NF,NB;go_wp2;go_ret2;exact⟨rfl,rfl⟩
theorem Wy(s:tB)(w:tW)(Y:s.size<=120000)(D:B0 s=true)(o:xJ s=false):
  RA LK 111 #[.string s] w λ e w'=>
   e=.returned (.tuple #[.pointer none,.bool false])/\Bl w w':=by
 obtain⟨V,F,U,X⟩:=pK.1 D;have F:=(FM s (by omega)).2 F;have I:(s[3]).toNat=iR s:=kL s 3 (by omega);unfold xJ iM at o;generalize iR s=n at*;clear D;by_cases C:kT s (4+n) 1 4=true
 ·have Z:bt s (4+n)=0:=by simpa[C]using o
  have Q:=sB C;have J:=kL s (4+n) (by omega);clear o;go_enter NF,NB;go_wp2_with (first|(go_at_call 117;refine(lM s (4+n) 1 4 _ (by unfold QZ;omega) (by omega) (by omega)).mono ?_;rintro e w ⟨rfl,rfl⟩));go_ret2;exact⟨rfl,bR.alloc lR _⟩
 ·have C:kT s (4+n) 1 4=false:=by simpa using C
  clear o;go_enter NF,NB;go_wp2_with (first|(go_at_call 117;refine(lM s (4+n) 1 4 _ (by unfold QZ;omega) (by omega) (by omega)).mono ?_;rintro e w ⟨rfl,rfl⟩));go_ret2;exact⟨rfl,bR.alloc lR _⟩
theorem Wz(s:tB)(w:tW)(hs:s.size<=120000)(I:B0 s=true)(F:xJ s=true)(D:zO s=false):
  RA LK 111 #[.string s] w λ e w'=>
   e=.returned (.tuple #[.pointer none,.bool false])/\Bl w w':=by
 obtain⟨h4,Q,h1,h8⟩:=pK.1 I;have Q:=(FM s (by omega)).2 Q;have U:(s[3]).toNat=iR s:=kL s 3 (by omega);unfold xJ at F;simp only[ME,aE]at F;obtain⟨J,hz⟩:=F;have Y:=sB J;have C:=yF J 0 (by omega);have V:(s[4+iR s]).toNat=iM s:=kL s (4+iR s) (by omega);have C:iM s<=4:=by unfold iM;simp at C;omega
 unfold zO at D;generalize iM s=m at*;generalize iR s=n at*;clear I;have Z:((m:Int)==0)=false:=aC.2 (by omega);by_cases o:kT s 4 n (1+(m:Int))=true
 ·have X:kT s (5+n) 1 255=false:=by simpa[o]using D
  clear D;go_enter NF,NB;go_wp2_with (first|(go_at_call 117;refine(lM s (4+n) 1 4 _ (by unfold QZ;omega) (by omega) (by omega)).mono ?_;rintro e w ⟨rfl,rfl⟩));go_quiet ((go_at_call 117;exact RA.quiet_of_same (lM s 4 n (1+m) _ (by unfold QZ;omega) (by omega) (by omega))));go_wp2_with fail;refine(E4 s (5+n) 1 _ _ 255 _ (by omega) (by omega) (by omega) (by omega) rfl).mono ?_;rintro e w ⟨rfl,rfl⟩;go_wp2;go_ret2;exact⟨rfl,by repeat (first|exact bR|apply _root_.Go.below_drewN|refine QJ ?_ lR _)⟩
 ·have o:kT s 4 n (1+(m:Int))=false:=by simpa using o
  clear D;go_enter NF,NB;go_wp2_with (first|(go_at_call 117;refine(lM s (4+n) 1 4 _ (by unfold QZ;omega) (by omega) (by omega)).mono ?_;rintro e w ⟨rfl,rfl⟩));go_quiet ((go_at_call 117;exact RA.quiet_of_same (lM s 4 n (1+m) _ (by unfold QZ;omega) (by omega) (by omega))));go_wp2_with fail;refine(E4 s (5+n) 1 _ _ 255 _ (by omega) (by omega) (by omega) (by omega) rfl).mono ?_;rintro e w ⟨rfl,rfl⟩;go_wp2;go_ret2;exact⟨rfl,by repeat (first|exact bR|apply _root_.Go.below_drewN|refine QJ ?_ lR _)⟩
def Y8(s:tB)(c:Nat):List tV:=(MH c).map λ i=> .int .i64 ((pF s i+1:Nat):Int)
def Hl(s:tB)(c:Nat):List tV:=(MH c).map λ i=> .int .i64 (bt s (pF s i))
structure rZ(w:tW)(b aH:Nat)(s:tB)(ca cs:Nat)(va vs:tV):Prop where
 c0:w.cell? ⟨b,0,none⟩=some (.string s)
 c1:w.cell? ⟨b,1,none⟩=some (.int .i64 (iR s))
 c2:w.cell? ⟨b,2,none⟩=some (.int .i64 (iM s))
 c3:w.cell? ⟨b,3,none⟩=some (.int .i64 ((6+iR s:Nat):Int))
 c4:w.cell? ⟨b,4,none⟩=some (.int .i64 (iK s))
 c5:w.cell? ⟨b,5,none⟩=some va
 c6:w.cell? ⟨b,6,none⟩=some vs
 f5:w.frozen? ⟨b,5,none⟩=false
 f6:w.frozen? ⟨b,6,none⟩=false
 ra:w.ownsRow aH 3 1 va ca (Y8 s ca)
 rs:w.ownsRow aH 3 1 vs cs (Hl s cs)
 hb:b<aH
 hz:aH<=w.heap.size
 ap:va.ownBlock=none\/va.ownBlock≠vs.ownBlock
theorem rZ.drewN{w:tW}{s:tB}{o vs:tV}(h:rZ w b aH s ca cs o vs)(q:Nat):rZ (w.drewN q) b aH s ca cs o vs:=
 ⟨h.c0,h.c1,h.c2,h.c3,h.c4,h.c5,h.c6,h.f5,h.f6,h.ra,h.rs,h.hb,h.hz,h.ap⟩
theorem K6{w:tW}{v:tV}{xs:List tV}(h:w.ownsRow aH e size v n xs){b:Nat}(o:b<aH):some b≠v.ownBlock:=by
 intro e;have:=h.lt b e.symm;omega
theorem rZ.app5{w w1:tW}{s:tB}{X vs:tV}(h:rZ w b aH s c cs X vs)(o:Obj){g aJ:Nat}
  (Q:w1.ownsRow aH 3 1 (.slice (some ⟨g,0,none⟩) (c+1) aJ) (c+1) (Y8 s c++[.int .i64 ((pF s c+1:Nat):Int)]))
  (D:(w.alloc o).grownBy w1 X.ownBlock) (Z:X.ownBlock=some g\/g=w.heap.size+1):
  rZ (w1.setCell ⟨b,5,none⟩ (.slice (some ⟨g,0,none⟩) (c+1) aJ)) b aH s (c+1) cs (.slice (some ⟨g,0,none⟩) (c+1) aJ) vs:=by
 have aL:=h.hb;have aO:=h.hz;have J:some b≠X.ownBlock:=K6 h.ra h.hb;have F:∀i v,w.cell? ⟨b,i,none⟩=some v->w1.cell? ⟨b,i,none⟩=some v:=λ i v V=>
  D.cell (by rw[MW (hn:=by omega)];exact V) J
 have I:∀i,w1.frozen? ⟨b,i,none⟩=w.frozen? ⟨b,i,none⟩:=λ i=>by
  rw[D.frozen_far ⟨b,i,none⟩ (by simp;omega) J,OD (hn:=by omega)]
 have C:∀i v,i≠5->w.cell? ⟨b,i,none⟩=some v->(w1.setCell ⟨b,5,none⟩ (.slice (some ⟨g,0,none⟩) (c+1) aJ)).cell? ⟨b,i,none⟩=some v:=λ i v hi V=>by
  rw[LD (h:=by intro e;injection e;omega)];exact F i v V
 refine⟨C 0 _ (by omega) h.c0,C 1 _ (by omega) h.c1,C 2 _ (by omega) h.c2,C 3 _ (by omega) h.c3,C 4 _ (by omega) h.c4,
  LH _ _ _ (F 5 _ h.c5),C 6 _ (by omega) h.c6,?_,?_,?_,?_,h.hb,?_,?_⟩
 ·rw[LG,I];exact h.f5
 ·rw[LG,I];exact h.f6
 ·have e:Y8 s (c+1)=Y8 s c++[.int .i64 ((pF s c+1:Nat):Int)]:=by
   unfold Y8;rw[PK,OE];rfl
  rw[e];exact QN Q h.hb _
 ·refine QN ((h.rs.alloc o).kept D ?_) h.hb _;rcases h.ap with e|e
  ·cases V:vs.ownBlock with
   | none=>exact .inl rfl
   | some k=>right;rw[e];simp
  ·exact .inr (Ne.symm e)
 ·have:=D.size;simp[LN]at this ⊢;omega
 ·right;show some g≠vs.ownBlock;intro e;rcases Z with U|U
  ·rcases h.ap with Y|Y
   ·rw[Y]at U;cases U
   ·exact Y (U.trans e)
  ·have:=h.rs.lt g e.symm;omega
theorem rZ.app6{w w1:tW}{s:tB}{Y vs:tV}(h:rZ w b aH s ca c Y vs)(o:Obj){g aJ:Nat}
  (Q:w1.ownsRow aH 3 1 (.slice (some ⟨g,0,none⟩) (c+1) aJ) (c+1) (Hl s c++[.int .i64 (bt s (pF s c))]))
  (D:(w.alloc o).grownBy w1 vs.ownBlock) (V:vs.ownBlock=some g\/g=w.heap.size+1):
  rZ (w1.setCell ⟨b,6,none⟩ (.slice (some ⟨g,0,none⟩) (c+1) aJ)) b aH s ca (c+1) Y (.slice (some ⟨g,0,none⟩) (c+1) aJ):=by
 have aL:=h.hb;have aO:=h.hz;have J:some b≠vs.ownBlock:=K6 h.rs h.hb;have F:∀i v,w.cell? ⟨b,i,none⟩=some v->w1.cell? ⟨b,i,none⟩=some v:=λ i v X=>
  D.cell (by rw[MW (hn:=by omega)];exact X) J
 have I:∀i,w1.frozen? ⟨b,i,none⟩=w.frozen? ⟨b,i,none⟩:=λ i=>by
  rw[D.frozen_far ⟨b,i,none⟩ (by simp;omega) J,OD (hn:=by omega)]
 have C:∀i v,i≠6->w.cell? ⟨b,i,none⟩=some v->(w1.setCell ⟨b,6,none⟩ (.slice (some ⟨g,0,none⟩) (c+1) aJ)).cell? ⟨b,i,none⟩=some v:=λ i v hi X=>by
  rw[LD (h:=by intro e;injection e;omega)];exact F i v X
 refine⟨C 0 _ (by omega) h.c0,C 1 _ (by omega) h.c1,C 2 _ (by omega) h.c2,C 3 _ (by omega) h.c3,C 4 _ (by omega) h.c4,
  C 5 _ (by omega) h.c5,LH _ _ _ (F 6 _ h.c6),?_,?_,?_,?_,h.hb,?_,?_⟩
 ·rw[LG,I];exact h.f5
 ·rw[LG,I];exact h.f6
 ·refine QN ((h.ra.alloc o).kept D ?_) h.hb _;exact h.ap
 ·have e:Hl s (c+1)=Hl s c++[.int .i64 (bt s (pF s c))]:=by
   unfold Hl;rw[PK,OE];rfl
  rw[e];exact QN Q h.hb _
 ·have:=D.size;simp[LN]at this ⊢;omega
 ·right;show Y.ownBlock≠some g;intro e;rcases V with Z|Z
  ·rcases h.ap with U|U
   ·rw[U]at e;cases e
   ·exact U (e.trans Z.symm)
  ·have:=h.ra.lt g e;omega
theorem rZ.kept{w w1:tW}{s:tB}{Q vs v:tV}{xs:List tV}(h:rZ w b aH s ca cs Q vs){o:Obj}
  (J:w.ownsRow aH 3 1 v n xs) (D:(w.alloc o).grownBy w1 v.ownBlock):
  w1.cell? ⟨b,5,none⟩=some Q/\w1.frozen? ⟨b,5,none⟩=false/\w1.cell? ⟨b,6,none⟩=some vs/\w1.frozen? ⟨b,6,none⟩=false:=by
 have U:=h.hb;have V:=h.hz;have I:some b≠v.ownBlock:=K6 J h.hb;have C:∀i v,w.cell? ⟨b,i,none⟩=some v->w1.cell? ⟨b,i,none⟩=some v:=λ i v J=>
  D.cell (by rw[MW (hn:=by omega)];exact J) I
 have F:∀i,w1.frozen? ⟨b,i,none⟩=w.frozen? ⟨b,i,none⟩:=λ i=>by
  rw[D.frozen_far ⟨b,i,none⟩ (by simp;omega) I,OD (hn:=by omega)]
 exact⟨C 5 _ h.c5,(F 5).trans h.f5,C 6 _ h.c6,(F 6).trans h.f6⟩
theorem rZ.start(w:tW)(s:tB)(k D I:Nat)(J:iK s=k+1):
  rZ (((((w.alloc (.cells #[.string s,.int .i64 (iR s),.int .i64 (iM s),.int .i64 0,.int .i64 0,.slice none 0 0,.slice none 0 0] 227)).drewN D).setCell ⟨w.heap.size,4,none⟩ (.int .i64 ((k:Int)+1))).setCell
   ⟨w.heap.size,3,none⟩ (.int .i64 (4+(iR s:Int)+2))).drewN I) w.heap.size (w.heap.size+1) s 0 0 (.slice none 0 0) (.slice none 0 0):=by
 have C:∀i v, #[NK s,.int .i64 (iR s),.int .i64 (iM s),.int .i64 0,.int .i64 0,.slice none 0 0,.slice none 0 0][i]?=some v->
   ((w.alloc (.cells #[.string s,.int .i64 (iR s),.int .i64 (iM s),.int .i64 0,.int .i64 0,.slice none 0 0,.slice none 0 0] 227)).drewN D).cell? ⟨w.heap.size,i,none⟩=some v:=λ i v h=>by
  show(w.alloc _).cell? _=_;rw[LO];exact h
 have F:∀i,((w.alloc (.cells #[.string s,.int .i64 (iR s),.int .i64 (iM s),.int .i64 0,.int .i64 0,.slice none 0 0,.slice none 0 0] 227)).drewN D).frozen? ⟨w.heap.size,i,none⟩=false:=λ i=>by
  show(w.alloc _).frozen? _=_;rw[MJ]
 have Q:((w.alloc (.cells #[.string s,.int .i64 (iR s),.int .i64 (iM s),.int .i64 0,.int .i64 0,.slice none 0 0,.slice none 0 0] 227)).drewN D).heap.size=w.heap.size+1:=by
  show(w.alloc _).heap.size=_;simp
 generalize ((w.alloc (.cells #[.string s,.int .i64 (iR s),.int .i64 (iM s),.int .i64 0,.int .i64 0,.slice none 0 0,.slice none 0 0] 227)).drewN D)=W at*;refine rZ.drewN ?_ I;have o:∀i v,i≠3->i≠4->W.cell? ⟨w.heap.size,i,none⟩=some v->((W.setCell ⟨w.heap.size,4,none⟩ (.int .i64 ((k:Int)+1))).setCell ⟨w.heap.size,3,none⟩ (.int .i64 (4+(iR s:Int)+2))).cell? ⟨w.heap.size,i,none⟩=some v:=λ i v V X U=>by
  rw[LD (h:=by intro e;injection e;omega),LD (h:=by intro e;injection e;omega)];exact U
 refine⟨o 0 _ (by omega) (by omega) (C 0 _ rfl),o 1 _ (by omega) (by omega) (C 1 _ rfl),o 2 _ (by omega) (by omega) (C 2 _ rfl),?_,?_,
  o 5 _ (by omega) (by omega) (C 5 _ rfl),o 6 _ (by omega) (by omega) (C 6 _ rfl),?_,?_,LS _ _ _ _,LS _ _ _ _,by omega,?_,.inl rfl⟩
 ·rw[LH (u:= .int .i64 0)]
  ·congr 2;omega
  ·rw[LD (h:=by intro e;injection e;omega)];exact C 3 _ rfl
 ·rw[LD (h:=by intro e;injection e;omega),LH (h:=C 4 _ rfl)];rw[J];rfl
 ·rw[LG,LG];exact F 5
 ·rw[LG,LG];exact F 6
 ·simp[LN];omega
theorem Vy{s:tB}(C:s.size<=120000)(o:iR s<=8)(h:∀l,l<c->rY s (iR s) (iK s) (pF s l)=true):pF s c<=120000:=by
 cases c with
 | zero=>show 262+iR s<=120000;omega
 | succ n=>have:=(B3 (h n (OB n))).2;omega
theorem Qm(s:tB)(w:tW)(hs:s.size<=120000)(hA:B0 s=true)(hB:xJ s=true)(hC:zO s=true):
  RA LK 111 #[.string s] w λ e w'=>
   ∃v,e=.returned (.tuple #[v,.bool (iF s)])/\Bl w w'/\(iF s=true->v=.pointer (some ⟨w.heap.size,0,none⟩)/\∃va vs,rZ w' w.heap.size (w.heap.size+1) s (iM s) (iM s) va vs):=by
 obtain⟨h4,hp,h1,h8⟩:=pK.1 hA;have hp:=(FM s (by omega)).2 hp;have hE:(s[3]).toNat=iR s:=kL s 3 (by omega);have aL:=hB;unfold xJ at aL;simp only[ME,aE]at aL;obtain⟨hb,hz⟩:=aL;have hM:=sB hb;have bN:=yF hb 0 (by omega);have hF:(s[4+iR s]).toNat=iM s:=kL s (4+iR s) (by omega);have bN:iM s<=4:=by unfold iM;simp at bN;omega
 have aO:=hC;unfold zO at aO;simp only[ME]at aO;obtain⟨hG,cP⟩:=aO;have eR:=sB cP;have hbk:(s[4+iR s+1]).toNat=bt s (5+iR s):=by rw[kL s (4+iR s+1) (by omega)];congr 1;omega
 have hL:=mT s (5+iR s);have hP:((iM s:Int)==0)=false:=aC.2 (by omega);have HK:QP (iK s=bt s (5+iR s)+1):=rfl;have hJ:decide ((s.size:Int)<4)=false:=by simp;omega
 have hI:decide ((iR s:Int)<1)=false:=by simp;omega
 have hK:decide (8<(iR s:Int))=false:=by simp;omega
 by_cases hD:yH s=true
 ·have hd:kT s (6+iR s) 256 (bt s (5+iR s):Int)=true:=by
   have:yH s=kT s (6+iR s) 256 (bt s (5+iR s):Int):=by unfold yH iK;congr 1;omega
   rw[<-this];exact hD
  have eS:=sB hd;have HH:QP (B0 s=true/\xJ s=true/\zO s=true/\yH s=true):=⟨hA,hB,hC,hD⟩
  clear hA hB hC hD;generalize hkk:bt s (5+iR s)=k at*;have gL:QP (bt s (5+iR s)=k):=hkk;clear hkk;go_enter NF,NB;go_wp2_with (first|(go_at_call 117;refine(lM s (4+iR s) 1 4 _ (by unfold QZ;omega) (by omega) (by omega)).mono ?_;rintro e w ⟨rfl,rfl⟩));go_quiet ((go_at_call 117;exact RA.quiet_of_same (lM s 4 (iR s) (1+iM s) _ (by unfold QZ;omega) (by omega) (by omega))));go_wp2_with fail;refine(E4 s (5+iR s) 1 _ _ 255 _ (by omega) (by omega) (by omega) (by omega) rfl).mono ?_;rintro e w ⟨rfl,rfl⟩;go_wp2_with fail;go_quiet ((go_at_call 117;exact RA.quiet_of_same (E4 s (6+iR s) 256 _ _ k _ (by omega) (by omega) (by omega) (by omega) rfl)));go_wp2_with fail;rw[hd]
  go_loopw [8,9] (λ a c wr=>∃(cn:Nat)(va vs:tV),cn<=iM s/\c=.int .i64 cn/\a=.int .i64 (pF s cn)/\(∀l,l<cn->rY s (iR s) (iK s) (pF s l)=true)/\rZ wr w.heap.size (w.heap.size+1) s cn cn va vs/\Bl w wr)
   (λ _ c _=>4-(QO c).toNat)
  case atStart=>
   refine⟨0,.slice none 0 0,.slice none 0 0,zL,rfl,?_,λ l h=>absurd h (OF _),?_,?_⟩
   ·show _=ML .i64 ((262+iR s:Nat):Int);go_num
   ·exact rZ.start w s k _ _ (by rw[HK.o])
   ·exact _root_.Go.below_drewN (((_root_.Go.below_drewN ((MZ w.heap.size w).alloc lR _) _).setCell (p:=⟨w.heap.size,4,none⟩) lR _).setCell (p:=⟨w.heap.size,3,none⟩) lR _) _
  case round=>
   obtain⟨cn,va,vs,hH,rfl,rfl,U,C,J⟩:=hrel;have hN:=Vy hs h8 U;have bM:=C.c2;have HA:QP (∀l,l<cn->rY s (iR s) (iK s) (pF s l)=true):=U;clear U;have bT:=J.size;by_cases Y:cn<iM s
   ·cases hst:rY s (iR s) (iK s) (pF s cn)with
    | false=>
     have bO:=Qh Y hst;have V:=Hm (s:=s) (aX:=iR s) (aM:=iK s) (i:=pF s cn) (by rw[hst];simp);have HN:QP (iF s=false):=bO;clear bO;go_wp2_with fail;refine(Ed s (iR s) (iK s) (pF s cn) w.heap.size _ hs (by omega) (Ti s) C.c0 C.c1 C.c4).mono ?_;rintro e eL ⟨rfl,q,rfl⟩;rw[V.1,V.2.1,V.2.2];go_wp2;go_ret2;refine⟨.pointer none,by rw[HN.o];rfl,_root_.Go.below_drewN J _,λ h=>?_⟩;rw[HN.o]at h;cases h
    | true=>
     have Z:=Ec hst;have bC:=B3 hst;go_wp2_with fail;refine(Ed s (iR s) (iK s) (pF s cn) w.heap.size _ hs (by omega) (Ti s) C.c0 C.c1 C.c4).mono ?_;rintro e eL ⟨rfl,q,rfl⟩;rw[Z.1,Z.2,hst];have D:=C.drewN q;have aR:=_root_.Go.below_drewN J q;have eN:=D.hz;generalize wr.drewN q=wq at*;clear C J bT bM;have eO:=D.c5;go_wp2_with (first
      | (at_builtin;refine gB wq rfl (.tmp 134) (.tmp 137) 59 rfl (w.heap.size+1) 3 (.int .i64 0) 1 8 ND bU rfl (by decide) (by decide) va cn (Y8 s cn) [.int .i64 ((pF s cn:Int)+1)] _ rfl D.ra _ rfl rfl rfl (by simp[MF]) (by omega) (by omega) ?_;intro g aJ w1 bS Q cF eT;obtain⟨k5,hR,k6,hS⟩:=D.kept D.ra Q;have F:=D.app5 _ bS Q cF;have hQ:=F.hz)
      | (at_builtin;refine gB (w1.setCell ⟨w.heap.size,5,none⟩ (.slice (some ⟨g,0,none⟩) (cn+1) aJ)) rfl (.tmp 145) (.tmp 147) 59 rfl (w.heap.size+1) 3 (.int .i64 0) 1 8 ND bU rfl (by decide) (by decide) vs cn (Hl s cn) [.int .i64 (bt s (pF s cn))] _ rfl F.rs w1.heap.size (by simp) rfl rfl (by simp[MF]) (by omega) (by omega) ?_;intro g2 eM w2 aW I bK eX;obtain⟨m5,hT,m6,hU⟩:=F.kept F.rs I;have aT:=F.app6 _ aW I bK))
     go_roundw
     case rel=>
      refine⟨cn+1,_,_,Y,by go_num,?_,?_,aT,?_⟩
      ·rw[bC.1];simp
      ·intro l hl;by_cases e:l=cn
       ·rw[e];exact hst
       ·exact HA.o l (by omega)
      ·have cN:=(lN aR (by omega) D.ra (by omega) Q).setCell (p:=⟨w.heap.size,5,none⟩) lR (.slice (some ⟨g,0,none⟩) (cn+1) aJ);exact(lN cN (by omega) F.rs (by omega) I).setCell (p:=⟨w.heap.size,6,none⟩) lR _
     case measure=>simp[QO];omega
   ·have e:cn=iM s:=by omega
    have X:iF s=decide (pF s cn=s.size):=by
     rw[ON,mM,aE,e];rw[e]at HA;exact⟨λ h=>h.2.2.2.2.2,λ h=>⟨HH.o.1,HH.o.2.1,HH.o.2.2.1,HH.o.2.2.2,HA.o,h⟩⟩
    have HF:QP (iF s=decide (pF s cn=s.size)):=X;have E:QP (cn=iM s):=e;clear X e;go_wp2;go_ret2;refine⟨.pointer (some ⟨w.heap.size,0,none⟩),?_,J,λ _=>⟨rfl,va,vs,?_⟩⟩
    ·rw[HF.o];simp;rw[ON,beq_iff_eq,aE];omega
    ·rw[<-E.o];exact C
 ·have hd:kT s (6+iR s) 256 (bt s (5+iR s):Int)=false:=by
   have:yH s=kT s (6+iR s) 256 (bt s (5+iR s):Int):=by unfold yH iK;congr 1;omega
   rw[<-this];simpa using hD
  have HN:QP (iF s=false):=Wu (by simpa using hD);clear hA hB hC hD;generalize hkk:bt s (5+iR s)=k at*;clear hkk;go_enter NF,NB;go_wp2_with (first|(go_at_call 117;refine(lM s (4+iR s) 1 4 _ (by unfold QZ;omega) (by omega) (by omega)).mono ?_;rintro e w ⟨rfl,rfl⟩));go_quiet ((go_at_call 117;exact RA.quiet_of_same (lM s 4 (iR s) (1+iM s) _ (by unfold QZ;omega) (by omega) (by omega))));go_wp2_with fail;refine(E4 s (5+iR s) 1 _ _ 255 _ (by omega) (by omega) (by omega) (by omega) rfl).mono ?_;rintro e w ⟨rfl,rfl⟩;go_wp2_with fail;go_quiet ((go_at_call 117;exact RA.quiet_of_same (E4 s (6+iR s) 256 _ _ k _ (by omega) (by omega) (by omega) (by omega) rfl)));go_wp2;go_ret2;refine⟨.pointer none,by rw[HN.o];rfl,?_,λ h=>?_⟩
  ·exact _root_.Go.below_drewN (((_root_.Go.below_drewN ((MZ w.heap.size w).alloc lR _) _).setCell (p:=⟨w.heap.size,4,none⟩) lR _).setCell (p:=⟨w.heap.size,3,none⟩) lR _) _
  ·rw[HN.o]at h;cases h
theorem yM(s:tB)(w:tW)(o:s.size<=120000):
  RA LK 111 #[.string s] w λ e w'=>
   ∃v,e=.returned (.tuple #[v,.bool (iF s)])/\Bl w w'/\(iF s=true->v=.pointer (some ⟨w.heap.size,0,none⟩)/\∃D vs,rZ w' w.heap.size (w.heap.size+1) s (iM s) (iM s) D vs):=by
 cases hA:B0 s with
 | false=>
  refine(Wx s w o hA).mono ?_;rintro e w' ⟨rfl,rfl⟩;rw[Wr hA];exact⟨_,rfl,bR,λ h=>by cases h⟩
 | true=>
  cases hB:xJ s with
  | false=>
   refine(Wy s w o hA hB).mono ?_;rintro e w' ⟨rfl,C⟩;rw[Ws hB];exact⟨_,rfl,C,λ h=>by cases h⟩
  | true=>
   cases hC:zO s with
   | false=>
    refine(Wz s w o hA hB hC).mono ?_;rintro e w' ⟨rfl,C⟩;rw[Wt hC];exact⟨_,rfl,C,λ h=>by cases h⟩
   | true=>exact Qm s w o hA hB hC
def G5(s:tB):Int:=if 120000<s.size then 1 else if iF s=true then 0 else 5
theorem T6(s:tB)(w:tW)(F:s.size<=QZ):
  RA LK 87 #[.string s] w λ e w'=>e=.returned (.int .i64 (G5 s))/\Bl w w':=by
 unfold QZ at F;by_cases D:120000<s.size
 ·have o:G5 s=1:=by unfold G5;rw[aB D]
  rw[o];clear o;go_enter func87,ntmps87;go_wp2;go_ret;exact⟨rfl,bR⟩
 ·cases hi:iF s with
  | true=>
   have o:G5 s=0:=by unfold G5;rw[aA D,aB hi]
   rw[o];clear o;go_enter func87,ntmps87;go_wp2_with (go_at_call 111;refine(yM s _ (by omega)).mono ?_;rintro e w1 ⟨v,rfl,C,_⟩);go_ret;exact⟨rfl,C⟩
  | false=>
   have o:G5 s=5:=by unfold G5;rw[aA D,aA (by rw[hi];decide)]
   rw[o];clear o;go_enter func87,ntmps87;go_wp2_with (go_at_call 111;refine(yM s _ (by omega)).mono ?_;rintro e w1 ⟨v,rfl,C,_⟩);go_ret;exact⟨rfl,C⟩
def Zn(w:tW)(s:tB)(e:Ending)(w':tW):Prop:=
 Bl w w'/\((¬(s.size<=120000/\iF s=true)/\e=.returned (.tuple #[.agg LF,.int .i64 (G5 s)]))\/(s.size<=120000/\iF s=true/\
  ∃(bb:Nat)(vc:tV)(ys:List pC),e=.returned (.tuple #[.agg (nS (.slice (some ⟨bb,0,none⟩) (jU s) (jU s)) (gP s) vc).toArray,.int .i64 0])/\
   pU w' w.heap.size bb (oH s)/\w'.ownsRow (bb+1) 110 1 vc ys.length (xD ys)/\ys.map (λ y=>y.2.map (·.1))=J8 s/\(∀y∈ys,oI w' (mV s) y)/\(∀y∈ys,∀k,V3 y k->bb<k)))
theorem wS{w w':tW}{v:tV}{xs:List tV}(F:w.ownsRow aH e size v m xs)(I:Bl w w'):w'.ownsRow aH e size v m xs:=by
 refine⟨F.1,?_⟩;have D:=F.lt;rcases F.2 with J|⟨g,aJ,o,rfl,C,hg,rest⟩
 ·exact .inl J
 ·exact .inr ⟨g,aJ,o,rfl,C,(I.block g (D g rfl).2).trans hg,rest⟩
theorem F0(s:tB)(w:tW):
  RA LK 24 #[.string s] w λ e w'=>Zn w s e w':=by
 by_cases I:120000<s.size
 ·have HT:=fV (iD w LF 72 w.heap.size 258 bL rfl);have hd:decide ((120000:Int)<(s.size:Int))=true:=by simp;omega
  go_enter func24,ntmps24;go_wp2_with (first|(refine QR rfl 72 (.tmp 2) (.tmp 9) rfl w.heap.size 0 LF rfl rfl ?_ ?_ bZ ?_;(rw[bL];exact HT.o);(rw[bL];exact bP)));refine jH OU w.heap.size 0 Tryz.zeroCells72.toList _ (.int .i64 1) rfl rfl ?_ MO rfl (by rw[LU,bL];exact bP) rfl ?_
  ·exact LZ _ _ _ _ (by rw[LU,bL];exact HT.o)
  ·refine⟨fX _ 0 _ w.heap.size (bR.alloc lR _) lR,.inl ⟨λ h=>by omega,?_⟩⟩;have e:G5 s=1:=by unfold G5;rw[aB I]
   rw[e]
 ·have hd:decide ((120000:Int)<(s.size:Int))=false:=by simp;omega
  have bN:QP (zT ((w.alloc (.cells LF 72)).alloc (.cells #[.string s,.int .i64 0,.bool false] 138)) (w.heap.size+1) s (0,false)):=by
   have e:w.heap.size+1=(w.alloc (.cells LF 72)).heap.size:=by simp
   rw[e];refine⟨?_,?_,?_,?_,?_⟩
   ·rw[LO];rfl
   ·rw[LO];rfl
   ·rw[LO];rfl
   ·intro i;rw[MJ]
   ·simp
  have HT:=fV (QA (iD w LF 72 w.heap.size 258 bL rfl) (.cells #[.string s,.int .i64 0,.bool false] 138));have HB:QP (Bl w ((w.alloc (.cells LF 72)).alloc (.cells #[.string s,.int .i64 0,.bool false] 138))):=(bR.alloc lR _).alloc (by simp) _;have hz:w.heap.size+2=((w.alloc (.cells LF 72)).alloc (.cells #[.string s,.int .i64 0,.bool false] 138)).heap.size:=by simp
  go_enter func24,ntmps24;go_wp2_with fail;generalize (w.alloc (.cells LF 72)).alloc (.cells #[.string s,.int .i64 0,.bool false] 138)=W at*;refine(Pw s (w.heap.size+1) W (by omega) bN.o).mono ?_;rintro e w1 ⟨bb,vc,ys,rfl,hn,ho,hm,hc,hg,hl⟩;have J:=fV (nY (.slice (some ⟨bb,0,none⟩) (jU s) (jU s)) (gP s) vc (by unfold gP;rw[lQ];rfl));have aL:=fV (yJ (vb:= .slice (some ⟨bb,0,none⟩) (jU s) (jU s)) (vc:=vc) (cs:=gP s) rfl (by obtain⟨va,aU,rfl⟩:=gA ho;rfl));obtain⟨IL,Y⟩:=xE (nS (.slice (some ⟨bb,0,none⟩) (jU s) (jU s)) (gP s) vc)
  rw[Y]at J aL ⊢;replace Y:=fV Y;have C:QP (IL.toArray.size=258):=by unfold QP;simpa using J.o
  have aT:QP (IL.toArray.toList=IL):=by unfold QP;simp
  have D:QP (IL.toArray.all (·.oneCell')=true):=QS aL.o;obtain⟨Q,X⟩:=xE (IL.toArray)
  rw[X]at C aT D ⊢;replace X:=fV X;have HN:=fV hn;have HO:=fV ho;have HM:=fV hm;have HC:=fV hc;have bK:QP (Bl w w1):=HB.o.trans ((Lh hg (by omega)).mono (by omega));have bT:=fV (gJ HT.o (hg.block w.heap.size (by omega) (by intro e;injection e;omega)));have bS:=fV hl;have eS:w.heap.size+2<=w1.heap.size:=by have:=hg.size;omega
  have c1:=hl.c1;have c2:=hl.c2;have aR:=fV (BH s);have eO:=x8 s;have eR:w.heap.size+4<=bb:=by have:=HN.o.1;omega
  clear hn ho hm hc hg hl bN HB HT hz;generalize Nv s=R at*;have Z:=fV (iD w1 LF 72 w1.heap.size 258 bL rfl);have F:QP (Bl w1 ((w1.alloc (.cells LF 72)).setCells w1.heap.size 0 Q.toList)):=fX _ 0 _ w1.heap.size (bR.alloc lR _) lR;have eM:QP (((w1.alloc (.cells LF 72)).setCells w1.heap.size 0 Q.toList).rangeAt w1.heap.size 0 IL):=by
   have h:=LZ (w1.alloc (.cells LF 72)) w1.heap.size 0 Q.toList (by rw[LU,C.o];exact Z.o);rw[aT.o]at h ⊢;exact h
  have aO:QP (Bl w ((w1.alloc (.cells LF 72)).setCells w1.heap.size 0 Q.toList)):=bK.o.trans (F.o.mono (by omega));have U:=fV (sH bT.o F.o (by omega));have bO:=fV (bS.o.below F.o (by omega));clear c1 c2;have c1:=bO.o.c1;have c2:=bO.o.c2;have cP:=fV (HN.o.block F.o.size (F.o.block bb HN.o.2.1));have eL:=fV (wS HO.o F.o);have bM:QP (∀y∈ys,oI ((w1.alloc (.cells LF 72)).setCells w1.heap.size 0 Q.toList) (mV s) y/\∀k,V3 y k->bb<k):=λ y hy=>⟨(HC.o y hy).1.below F.o lR,(HC.o y hy).2⟩
  obtain⟨a,b⟩:=R;simp only at*;generalize hW2:(w1.alloc (.cells LF 72)).setCells w1.heap.size 0 Q.toList=w2 at*;have aW:=fV hW2;clear bK bT bS HN HO HC F hW2
  cases b with
  | true=>
   have V:QP (iF s=false):=by have:=aR.o;unfold QP;simpa using this
   go_wp2_with (first|(refine QR rfl 72 (.tmp 5) (.tmp 12) rfl w1.heap.size 0 Q rfl rfl ?_ ?_ D.o ?_;(rw[C.o];exact Z.o);(rw[C.o];exact bP);rw[aW.o])|(refine QR rfl 72 (.tmp 2) (.tmp 22) rfl w.heap.size 0 LF rfl rfl ?_ ?_ bZ ?_;(rw[bL];exact U.o);(rw[bL];exact bP)));refine jH OU w.heap.size 0 Tryz.zeroCells72.toList _ (.int .i64 5) rfl rfl ?_ MO rfl (by rw[LU,bL];exact bP) rfl ?_
   ·exact LZ _ _ _ _ (by rw[LU,bL];exact U.o)
   ·refine⟨fX _ 0 _ w.heap.size aO.o lR,.inl ⟨λ h=>(by have h2:=h.2;rw[V.o]at h2;cases h2),?_⟩⟩;have e:G5 s=5:=by unfold G5;rw[aA I,V.o];rfl
    rw[e]
  | false=>
   by_cases cN:a<s.size
   ·have V:QP (iF s=false):=by have:=aR.o;unfold QP;simpa[cN]using this
    have eN:decide ((a:Int)<(s.size:Int))=true:=by simp;omega
    go_wp2_with (first|(refine QR rfl 72 (.tmp 5) (.tmp 12) rfl w1.heap.size 0 Q rfl rfl ?_ ?_ D.o ?_;(rw[C.o];exact Z.o);(rw[C.o];exact bP);rw[aW.o])|(refine QR rfl 72 (.tmp 2) (.tmp 22) rfl w.heap.size 0 LF rfl rfl ?_ ?_ bZ ?_;(rw[bL];exact U.o);(rw[bL];exact bP)));refine jH OU w.heap.size 0 Tryz.zeroCells72.toList _ (.int .i64 5) rfl rfl ?_ MO rfl (by rw[LU,bL];exact bP) rfl ?_
    ·exact LZ _ _ _ _ (by rw[LU,bL];exact U.o)
    ·refine⟨fX _ 0 _ w.heap.size aO.o lR,.inl ⟨λ h=>(by have h2:=h.2;rw[V.o]at h2;cases h2),?_⟩⟩;have e:G5 s=5:=by unfold G5;rw[aA I,V.o];rfl
     rw[e]
   ·have cF:QP (iF s=true):=by have:=aR.o;unfold QP;simpa[cN]using this
    have eN:decide ((a:Int)<(s.size:Int))=false:=by simp;omega
    go_wp2_with (first|(refine QR rfl 72 (.tmp 5) (.tmp 12) rfl w1.heap.size 0 Q rfl rfl ?_ ?_ D.o ?_;(rw[C.o];exact Z.o);(rw[C.o];exact bP);rw[aW.o])|(refine QQ rfl 72 (.tmp 5) rfl w1.heap.size 0 rfl IL _ eM.o MO rfl ?_ ?_;(rw[J.o];exact bP);rw[X.o])|(refine QR rfl 72 (.tmp 2) (.tmp 23) rfl w.heap.size 0 Q rfl rfl ?_ ?_ D.o ?_;(rw[C.o];exact U.o);(rw[C.o];exact bP)));refine jH OU w.heap.size 0 IL _ (.int .i64 0) rfl rfl ?_ MO rfl (by rw[J.o];exact bP) rfl ?_
    ·have h:=LZ w2 w.heap.size 0 Q.toList (by rw[LU,C.o];exact U.o);rw[aT.o]at h ⊢;exact h
    ·have bC:Below w.heap.size w2 (w2.setCells w.heap.size 0 Q.toList):=fX _ 0 _ w.heap.size bR lR;refine⟨aO.o.trans bC,.inr ⟨by omega,cF.o,bb,vc,ys,by rw[Y.o],?_,lC eL.o (by omega) _ 0,HM.o,λ y hy=>?_,λ y hy=>(bM.o y hy).2⟩⟩
     ·obtain⟨_,n2,n3⟩:=cP.o.block bC.size (mG w2 w.heap.size 0 Q.toList bb (by omega));exact⟨by omega,n2,n3⟩
     ·obtain⟨h1,h2⟩:=bM.o y hy;exact h1.block bC.size (λ q _ ho=>mG w2 w.heap.size 0 Q.toList q (by have:=h2 q ho;omega))
theorem Mr{w:tW}{s:tB}(hi:iF s=true){bb:Nat}{vc:tV}{ys:List pC}{lo:Nat}(hn:pU w lo bb (oH s))(ho:w.ownsRow (bb+1) 110 1 vc ys.length (xD ys))
  (hm:ys.map (λ y=>y.2.map (·.1))=J8 s) (hc:∀y∈ys,oI w (mV s) y) (hk:∀y∈ys,∀k,V3 y k->bb<k):∃vg aJ yb zb,vc=.slice (some ⟨vg,0,none⟩) (iM s) aJ/\IM w s bb vg yb zb w.heap.size/\KW s bb vg yb zb lo:=by
 have hd:=B4 hi;have aL:=(Gh hi).1;have aO:ys.length=iM s:=by have:=congrArg QC (hm.trans aL);simpa using this
 have hM:=(kZ hi).2.2.1;have aW:=ho.lt;obtain⟨g,aJ,rfl,bC,bK⟩:=ho.form (by omega);have aR:=nV ho;have U:∀c,c<iM s->∃y,ys[c]?=some y/\y∈ys/\y.2.map (·.1)=By s c:=λ c o=>by
  have X:c<ys.length:=by omega
  refine⟨ys[c],LQ X,OI X,?_⟩;have:=congrArg (λ l=>l[c]?) (hm.trans aL);simp only[MC,LQ X,MM o,PM]at this;injection this
 have hz:∀c st,c<iM s->st<rA s c->∀y,ys[c]?=some y->y∈ys->y.2.map (·.1)=By s c->∃z,y.2[st]?=some z/\z∈y.2/\z.1=Jh s (iK s) (qD s c st):=λ c st o D y _ _ he=>by
  have hl:y.2.length=rA s c:=by have:=congrArg QC he;unfold By at this;simpa using this
  have Z:st<y.2.length:=by omega
  refine⟨y.2[st],LQ Z,OI Z,?_⟩;have:=congrArg (λ l=>l[st]?) he;unfold By at this;simp only[MC,LQ Z,MM D,PM]at this;injection this
 have Y:∀c,c<iM s->∀y,ys[c]?=some y->y.2.map (·.1)=By s c->y.2.length=rA s c:=λ c _ y _ he=>by
  have:=congrArg QC he;unfold By at this;simpa using this
 have C:∀(b k:Nat)(l:List tV)(v:tV),w.rangeAt b 0 l->l[k]?=some v->w.cell? ⟨b,k,none⟩=some v:=λ b k l v hr hk=>by
  have:=hr k v hk;rw[LM]at this;exact this
 refine⟨g,aJ,λ c=>((ys[c]?).getD (0,[])).1,λ c st=>((((ys[c]?).getD (0,[])).2[st]?).getD ((0,[]),0)).2,by rw[aO],?_,?_⟩;refine⟨λ r hr=>?_,λ c o=>?_,λ c st o D=>?_,λ c st o D=>?_,λ c st v o D hv=>?_,hn.2.1,(aW g rfl).2,λ c o=>?_,λ c st o D=>?_⟩
 ·refine C _ _ _ _ hn.2.2 ?_;rw[hd.be];unfold oZ;rw[MC,MC,MM hr];rfl
 ·obtain⟨y,F,I,J⟩:=U c o;refine C _ _ _ _ aR ?_;rw[Fz ys c y F,F,Y c o y F J];rfl
 ·obtain⟨y,F,I,J⟩:=U c o;obtain⟨z,Q,V,h6⟩:=hz c st o D y F I J;simp only[F,NG];refine C _ _ _ _ (hc y I).rg ?_;rw[(Bd _ _ st z Q).1,h6];rfl
 ·obtain⟨y,F,I,J⟩:=U c o;obtain⟨z,Q,V,h6⟩:=hz c st o D y F I J;simp only[F,NG,Q];refine C _ _ _ _ (hc y I).rg ?_;rw[(Bd _ _ st z Q).2,hd.cl]
 ·obtain⟨y,F,I,J⟩:=U c o;obtain⟨z,Q,V,h6⟩:=hz c st o D y F I J;simp only[F,NG,Q];refine C _ _ _ _ ((hc y I).bF z V).2 (B6 _ _ _ ?_);rw[h6];unfold Jh;rw[MC,MM (wK hi v hv)];unfold Tk iA;rw[PM,show qD s c st+(tK s v+1)=qD s c st+1+tK s v by omega]
 ·obtain⟨y,F,I,J⟩:=U c o;simp only[F,NG];exact(hc y I).lt
 ·obtain⟨y,F,I,J⟩:=U c o;obtain⟨z,Q,V,h6⟩:=hz c st o D y F I J;simp only[F,NG,Q];exact((hc y I).bF z V).1
 ·have aT:=hn.1;refine⟨aT,by omega,λ c o=>?_,λ c st o D=>?_⟩
  ·obtain⟨y,F,I,J⟩:=U c o;simp only[F,NG];have:=hk y I y.1 (.inl rfl);omega
  ·obtain⟨y,F,I,J⟩:=U c o;obtain⟨z,Q,V,h6⟩:=hz c st o D y F I J;simp only[F,NG,Q];have:=hk y I z.2 (.inr ⟨z,V,rfl⟩);omega
structure sA(w:tW)(B b g aJ:Nat)(s:tB):Prop where
 c0:w.cell? ⟨b,0,none⟩=some (.string s)
 c3:w.cell? ⟨b,3,none⟩=some (.int .i64 ((6+iR s:Nat):Int))
 c4:w.cell? ⟨b,4,none⟩=some (.int .i64 (iK s))
 c5:w.cell? ⟨b,5,none⟩=some (.slice (some ⟨g,0,none⟩) (iM s) aJ)
 at_:∀i,i<iM s->w.cell? ⟨g,i,none⟩=some (.int .i64 ((pF s i+1:Nat):Int))
 hb:b<B
 hg:g<B
theorem sA.below{w w':tW}{B':Nat}{s:tB}(h:sA w B b g aJ s)(o:Below B' w w')(D:B<=B'):sA w' B b g aJ s:=by
 have C:=h.hb;have hg:=h.hg;exact⟨(o.cell (p:=⟨b,0,none⟩) (by show b<B';omega)).trans h.c0,(o.cell (p:=⟨b,3,none⟩) (by show b<B';omega)).trans h.c3,(o.cell (p:=⟨b,4,none⟩) (by show b<B';omega)).trans h.c4,
  (o.cell (p:=⟨b,5,none⟩) (by show b<B';omega)).trans h.c5,λ i hi=>(o.cell (p:=⟨g,i,none⟩) (by show g<B';omega)).trans (h.at_ i hi),C,hg⟩
theorem sA.drewN{w:tW}{s:tB}(h:sA w B b g aJ s)(q:Nat):sA (w.drewN q) B b g aJ s:=
 ⟨h.c0,h.c3,h.c4,h.c5,h.at_,h.hb,h.hg⟩
theorem rZ.rd{w:tW}{s:tB}{F vs:tV}(h:rZ w b aH s (iM s) (iM s) F vs)(J:1<=iM s):∃g aJ,sA w w.heap.size b g aJ s:=by
 obtain⟨g,aJ,rfl,D,C⟩:=h.ra.form (by omega);have I:=h.hb;refine⟨g,aJ,h.c0,h.c3,h.c4,h.c5,λ i hi=>?_,by omega,C⟩;have:=h.ra.cells (g:=g) rfl i (.int .i64 ((pF s i+1:Nat):Int)) (by unfold Y8;rw[MC,MM hi];rfl);have o:(⟨g,0,none⟩:Addr).add i=⟨g,i,none⟩:=by unfold Addr.add;split<;>simp_all
 rw[o]at this;exact this
def H8(s:tB)(c st v:Nat):Int:=if iA s c st v=255 then -1 else iA s c st v
theorem P9(s:tB)(B b g aJ c st:Nat)(w:tW)(hi:iF s=true)(hs:s.size<=120000)(Q:c<iM s)(I:st<rA s c)(hw:sA w B b g aJ s):
  RA LK 126 #[.pointer (some ⟨b,0,none⟩),.int .i64 c,.int .i64 st] w λ e w'=>e=.returned (.int .i64 (jM s c st))/\∃q,w'=w.drewN q:=by
 obtain⟨k0,k3,k4,k5,J,_,_⟩:=hw;have kc:=J c Q;clear J;have C:=Rl hi Q I;have D:=Nd s c st;have X:pF s c<=120000:=by unfold qD at C;omega
 have hK:=Ti s;have hn:=K5 hi Q;have F:=U7 (a:=st) (b:=1+iK s) (by omega) (by omega);have U:(0:Int)<=(st:Int)*(1+(iK s:Int))/\(st:Int)*(1+(iK s:Int))<=65535:=by
  have e:((st*(1+iK s):Nat):Int)=(st:Int)*(1+(iK s:Int)):=by simp
  omega
 have aO:=(kZ hi).2.2.2.1;have aL:(0:Int)<=(c:Int)/\(c:Int)<(iM s:Int):=by omega
 obtain⟨r,V⟩:=xE (qD s c st)
 have E:QP (jM s c st=bt s r):=by unfold QP jM;rw[V]
 rw[V]at C D;clear F hn hi I V;have Y:=kL s r (by omega);have Z:=mT s r;have aR:IntKind.i64.wrap (1+(iK s:Int))=1+(iK s:Int):=IntWalk.i64_in _ (by omega);have aT:IntKind.i64.wrap ((st:Int)*(1+(iK s:Int)))=(st:Int)*(1+(iK s:Int)):=IntWalk.i64_in _ (by omega);have aW:IntKind.i64.wrap ((pF s c:Int)+1+(st:Int)*(1+(iK s:Int)))=(r:Int):=by
  rw[<-D];simp only[OO,QE];exact IntWalk.i64_in _ (by omega)
 clear D U;go_enter func126,ntmps126;go_wp2;go_quiet (fail);go_wp2;go_ret;exact⟨by rw[E.o];rfl,_,rfl⟩
theorem Cm(s:tB)(B b g aJ c st v:Nat)(w:tW)(hi:iF s=true)(hs:s.size<=120000)(Y:c<iM s)(J:st<rA s c)(hv:v<256)(hw:sA w B b g aJ s):
  RA LK 125 #[.pointer (some ⟨b,0,none⟩),.int .i64 c,.int .i64 st,.int .u8 v] w λ e w'=>e=.returned (.int .i64 (H8 s c st v))/\∃q,w'=w.drewN q:=by
 obtain⟨k0,k3,k4,k5,X,_,_⟩:=hw;have kc:=X c Y;clear X;have C:=EU hi Y J hv;have F:=Rl hi Y J;have Q:=wK hi v hv;have I:=Nd s c st;have aW:pF s c<=120000:=by unfold qD at F;omega
 have hK:=Ti s;have hn:=K5 hi Y;have V:=U7 (a:=st) (b:=1+iK s) (by omega) (by omega);have aR:(0:Int)<=(st:Int)*(1+(iK s:Int))/\(st:Int)*(1+(iK s:Int))<=65535:=by
  have e:((st*(1+iK s):Nat):Int)=(st:Int)*(1+(iK s:Int)):=by simp
  omega
 have bN:=(kZ hi).2.2.2.1;have hR:=(kZ hi).1;have aT:=(kZ hi).2.2.2.2;have bM:(0:Int)<=(c:Int)/\(c:Int)<(iM s:Int):=by omega
 obtain⟨r,hr⟩:=xE (qD s c st)
 obtain⟨k,Z⟩:=xE (tK s v)
 obtain⟨t,ht⟩:=xE (r+1+k)
 obtain⟨a,ha⟩:=xE (6+iR s+v)
 have E:QP (H8 s c st v=if bt s t=255 then -1 else(bt s t:Int)):=by unfold QP H8 iA;rw[hr,Z,ht]
 rw[hr]at F I C;rw[Z]at C Q;rw[ht]at C;have U:bt s a=k:=by rw[<-ha];exact Z
 have aL:a<s.size:=by omega
 have bS:IntKind.i64.wrap (6+(iR s:Int)+(v:Int))=(a:Int):=by rw[<-ha];simp only[OO];exact IntWalk.i64_in _ (by omega)
 have eL:IntKind.i64.wrap ((r:Int)+1+(k:Int))=(t:Int):=by rw[<-ht];simp only[OO];exact IntWalk.i64_in _ (by omega)
 have bO:r<=120000/\k<256:=by omega
 clear V hn hi J hr Z ht ha;have aO:=kL s a aL;rw[U]at aO;clear U;have bC:=kL s t C;have bK:=mT s t;have eO:IntKind.i64.wrap (v:Int)=(v:Int):=IntWalk.i64_in _ (by omega);have eN:IntKind.i64.wrap (k:Int)=(k:Int):=IntWalk.i64_in _ (by omega);have eM:IntKind.i64.wrap (bt s t:Int)=(bt s t:Int):=IntWalk.i64_in _ (by omega);have bT:IntKind.i64.wrap (1+(iK s:Int))=1+(iK s:Int):=IntWalk.i64_in _ (by omega);have cF:IntKind.i64.wrap ((st:Int)*(1+(iK s:Int)))=(st:Int)*(1+(iK s:Int)):=IntWalk.i64_in _ (by omega);have cN:IntKind.i64.wrap ((pF s c:Int)+1+(st:Int)*(1+(iK s:Int)))=(r:Int):=by
  rw[<-I];simp only[OO,QE];exact IntWalk.i64_in _ (by omega)
 have cP:IntKind.i64.wrap ((r:Int)+1)=(r:Int)+1:=IntWalk.i64_in _ (by omega);clear I aR;by_cases D:bt s t=255
 ·go_enter func125,ntmps125;go_wp2;go_quiet (fail);go_wp2;go_quiet (fail);go_wp2;go_ret;exact⟨by rw[E.o,aB D];rfl,_,rfl⟩
 ·have hd:((bt s t:Int)==255)=false:=aC.2 (by omega);go_enter func125,ntmps125;go_wp2;go_quiet (fail);go_wp2;go_quiet (fail);go_wp2;go_ret;exact⟨by rw[E.o,aA D];rfl,_,rfl⟩
theorem Ma(s aI:tB)(B b g aJ c p:Nat)(w:tW)(hi:iF s=true)(hs:s.size<=120000)(bK:aI.size<=300)(hp:p<=aI.size)(J:c<iM s)(hw:sA w B b g aJ s):
  RA LK 120 #[.pointer (some ⟨b,0,none⟩),.string aI,.int .i64 p,.int .i64 c] w λ e w'=>
   e=.returned (.tuple #[.int .i64 (Fc s aI c p).1,.int .i64 (Fc s aI c p).2])/\∃q,w'=w.drewN q:=by
 have HL:QP (Fc s aI c p=sN s aI c p (aI.size-p)):=rfl;go_enter func120,ntmps120;go_wp2_with fail
 go_loopw [10] (λ x w'=>∃d q:Nat,p+d<=aI.size/\x=.int .i64 ((p:Int)+(d:Int))/\w'=w.drewN q/\Fc s aI c p=sN s aI c p d) (λ x _=>(QO x).toNat)
 case atStart=>exact⟨aI.size-p,0,by omega,by congr 1;omega,rfl,HL.o⟩
 case round=>
  obtain⟨d,q,hd,rfl,rfl,Y⟩:=hrel;have HG:QP (Fc s aI c p=sN s aI c p d):=Y;clear Y;by_cases bM:0<d
  ·obtain⟨e,he⟩:∃e,d=e+1:=⟨d-1,by omega⟩
   have I:QP (d=e+1):=he;have bC:e<d:=by omega
   clear he;have aT:decide ((p:Int)<(p:Int)+(d:Int))=true:=by simp;omega
   go_wp2_with fail
   go_loopw [11,12] (λ x y w'=>∃j q:Nat,j<=d/\y=.int .i64 ((p:Int)+(j:Int))/\w'=w.drewN q/\((∃st:Nat,oP s aI c p j=some st/\x=.int .i64 (st:Int))\/(oP s aI c p d=none/\x=.int .i64 (-1)))) (λ _ y _=>aI.size-(QO y).toNat)
   case atStart=>exact⟨0,q,by omega,by simp,rfl,.inl ⟨0,rfl,rfl⟩⟩
   case round=>
    obtain⟨j,q2,hj,rfl,rfl,V⟩:=hrel;rcases V with⟨st,aO,rfl⟩|⟨aL,rfl⟩
    ·have U:QP (oP s aI c p j=some st):=aO;clear aO;by_cases Q:j<d
     ·have aW:=kL aI (p+j) (by omega);have aR:=mT aI (p+j);go_wp2_with fail;refine(Cm s B b g aJ c st (bt aI (p+j)) _ hi hs J (yS hi J j st U.o) aR (hw.drewN _)).mono ?_;rintro e' w2 ⟨rfl,q3,rfl⟩;go_wp2_with fail;go_roundw
      case rel=>
       refine⟨j+1,q2+q3,Q,by go_num,by simp,?_⟩;have F:=Am U.o;by_cases D:iA s c st (bt aI (p+j))=255
       ·rw[aB D]at F;exact .inr ⟨Ns F _ Q,by unfold H8;rw[aB D]⟩
       ·rw[aA D]at F;exact .inl ⟨_,F,by unfold H8;rw[aA D]⟩
      case measure=>simp[QO];omega
     ·have ej:j=d:=by omega
      subst ej;by_cases hm:0<jM s c st
      ·have bN:=Tt hi J (yS hi J _ st U.o);have hR:=(kZ hi).1;have C:=Cr (d:=e) (by rw[<-I.o];exact Yv U.o hm);have X:QP (sN s aI c p j=(((jM s c st-1:Nat):Int),p+j)):=by rw[<-I.o]at C;exact C
       clear C;go_wp2_with fail;refine(P9 s B b g aJ c st _ hi hs J (yS hi J _ st U.o) (hw.drewN _)).mono ?_;rintro e' w2 ⟨rfl,q3,rfl⟩;go_wp2;go_ret2;refine⟨?_,q2+q3,by simp⟩;rw[HG.o,X.o];simp;omega
      ·have Z:jM s c st=0:=by omega
       have C:=K2 (d:=e) (by rw[<-I.o];exact CJ U.o Z);have X:QP (sN s aI c p j=sN s aI c p e):=by rw[<-I.o]at C;exact C
       clear C;go_wp2_with fail;refine(P9 s B b g aJ c st _ hi hs J (yS hi J _ st U.o) (hw.drewN _)).mono ?_;rintro e' w2 ⟨rfl,q3,rfl⟩;rw[Z];go_wp2;go_roundw
       case rel=>exact⟨e,q2+q3,by omega,by have:=I.o;go_num,by simp,by rw[HG.o,X.o]⟩
       case measure=>simp[QO];omega
    ·have C:=K2 (d:=e) (by rw[<-I.o];exact Sp aL);have X:QP (sN s aI c p d=sN s aI c p e):=by rw[<-I.o]at C;exact C
     clear C aL;go_wp2_with fail
     all_goals
      go_roundw
      case rel=>exact⟨e,q2,by omega,by have:=I.o;go_num,rfl,by rw[HG.o,X.o]⟩
      case measure=>simp[QO];omega
  ·have e0:d=0:=by omega
   subst e0;go_wp2;go_ret2;refine⟨?_,q,rfl⟩;rw[HG.o]
   rfl
theorem G8{w w':tW}(h:Below B w.drew w'):Below B w w':=⟨h.os,h.tape,h.output,h.size,h.block⟩
structure Zr(w:tW)(B:Nat)(v:tV)(l:List (Int×Int×Int)):Prop where
 sh:(v=.slice none 0 0/\l=[])\/∃g aJ,v=.slice (some ⟨g,0,none⟩) l.length aJ/\g<B/\l.length<=aJ/\aJ<=QZ/\
  ∀k x,l[k]?=some x->w.cell? ⟨g,k*3,none⟩=some (.int .i64 x.1)/\w.cell? ⟨g,k*3+1,none⟩=some (.int .i64 x.2.1)/\w.cell? ⟨g,k*3+2,none⟩=some (.int .i64 x.2.2)
theorem mX{w:tW}{e:Nat}{v:tV}{l:List (Int×Int×Int)}(h:w.ownsRow aH e 3 v n (hZ l)):Zr w w.heap.size v l:=by
 have hn:n=l.length:=by have:=h.1;rw[Ex]at this;omega
 subst hn;refine⟨?_⟩;rcases h.2 with⟨rfl,Y⟩|⟨g,aJ,X,rfl,hb,hg,F,D,Z,I⟩
 ·exact .inl ⟨rfl,List.eq_nil_of_length_eq_zero Y⟩
 ·refine .inr ⟨g,aJ,rfl,(NY.1 hg).1,F,D,λ k x hx=>?_⟩;have C:=h.cells (g:=g) rfl;have o:∀j,(⟨g,0,none⟩:Addr).add j=⟨g,j,none⟩:=λ j=>by unfold Addr.add;split<;>simp_all
  obtain⟨a1,U,V⟩:=Ow l k x hx;have J:=C _ _ a1;have b2:=C _ _ U;have Q:=C _ _ V;rw[o]at J b2 Q;exact⟨J,b2,Q⟩
theorem Th(l:List (Int×Int×Int))(v:tV)(x y z:Int)(w:tW)(hl:l.length<=1000000)(hr:Zr w w.heap.size v l):
  RA LK 124 #[v,.agg #[.int .i64 x,.int .i64 y,.int .i64 z]] w λ e w'=>e=.returned (.bool (sV l (x,y,z)))/\Bl w w':=by
 rcases hr.sh with⟨rfl,rfl⟩|⟨g,aJ,rfl,hg,Z,h2,C⟩
 ·go_enter func124,ntmps124;go_wp2_with fail
  go_loop [5] (λ i=>i=.int .i64 0) (λ _=>0)
  case atStart=>rfl
  case round=>
   subst hrel;go_wp2;go_ret;exact⟨rfl,bR.alloc lR _⟩
 ·have aO:(w.alloc (.cells #[.int .i64 x,.int .i64 y,.int .i64 z] 234)).cell? ⟨w.heap.size,0,none⟩=some (.int .i64 x):=by rw[LO];rfl
  have aR:(w.alloc (.cells #[.int .i64 x,.int .i64 y,.int .i64 z] 234)).cell? ⟨w.heap.size,1,none⟩=some (.int .i64 y):=by rw[LO];rfl
  have aT:(w.alloc (.cells #[.int .i64 x,.int .i64 y,.int .i64 z] 234)).cell? ⟨w.heap.size,2,none⟩=some (.int .i64 z):=by rw[LO];rfl
  have HC:QP (∀k u,l[k]?=some u->(w.alloc (.cells #[.int .i64 x,.int .i64 y,.int .i64 z] 234)).cell? ⟨g,k*3,none⟩=some (.int .i64 u.1)/\
    (w.alloc (.cells #[.int .i64 x,.int .i64 y,.int .i64 z] 234)).cell? ⟨g,k*3+1,none⟩=some (.int .i64 u.2.1)/\(w.alloc (.cells #[.int .i64 x,.int .i64 y,.int .i64 z] 234)).cell? ⟨g,k*3+2,none⟩=some (.int .i64 u.2.2)):=by
   intro k u X;rw[MW (hn:=hg),MW (hn:=hg),MW (hn:=hg)];exact C k u X
  have I:Bl w (w.alloc (.cells #[.int .i64 x,.int .i64 y,.int .i64 z] 234)):=bR.alloc lR _;clear C hr;go_enter func124,ntmps124;go_wp2_with fail;generalize w.alloc (.cells #[.int .i64 x,.int .i64 y,.int .i64 z] 234)=W at*
  go_loopw [5] (λ i w'=>∃k q:Nat,k<=l.length/\i=.int .i64 (k:Int)/\w'=W.drewN q/\∀j,j<k->l[j]? ≠some (x,y,z)) (λ i _=>l.length-(QO i).toNat)
  case atStart=>exact⟨0,0,zL,rfl,rfl,λ j h=>absurd h (OF _)⟩
  case round=>
   obtain⟨k,q,hk,rfl,rfl,F⟩:=hrel;have HA:QP (∀j,j<k->l[j]? ≠some (x,y,z)):=F;clear F;by_cases Q:k<l.length
   ·obtain⟨⟨a,b,c⟩,X⟩:∃u,l[k]?=some u:=⟨_,LQ Q⟩
    obtain⟨k0,k1,k2⟩:=HC.o k _ X;have HU:QP (l[k]?=some (a,b,c)):=X;clear X;simp only at k0 k1 k2;have aL:(0:Int)<=(k:Int)/\(k:Int)<(l.length:Int):=by omega
    have D:((a==x)=true/\(b==y)=true/\(c==z)=true)\/(((a==x)=false)\/((a==x)=true/\(b==y)=false)\/((a==x)=true/\(b==y)=true/\(c==z)=false)):=by
     cases (a==x)<;>cases (b==y)<;>cases (c==z)<;>simp
    rcases D with⟨Y,e2,e3⟩|D
    ·have J:l.contains (x,y,z)=true:=by
      have Z:(a,b,c)=(x,y,z):=by rw[beq_iff_eq.1 Y,beq_iff_eq.1 e2,beq_iff_eq.1 e3]
      rw[NS,<-Z];exact List.mem_of_getElem? HU.o
     have HI:QP (sV l (x,y,z)=true):=J;clear J;go_wp2;go_quiet (fail);go_wp2;go_ret;exact⟨by rw[HI.o];rfl,_root_.Go.below_drewN (_root_.Go.below_drewN I _) _⟩
    ·have U:(a,b,c)≠(x,y,z):=by
      intro h;injection h with Z h2;injection h2 with h2 h3;subst Z h2 h3;simp at D
     have HN:QP ((a,b,c)≠(x,y,z)):=U;clear U;rcases D with Y|⟨Y,e2⟩|⟨Y,e2,e3⟩
     all_goals
      go_wp2;go_quiet (fail);go_wp2;go_roundw
      case rel=>
       refine⟨k+1,_,Q,by go_num,rfl,λ j hj=>?_⟩;by_cases ej:j=k
       ·rw[ej,HU.o];intro h;exact HN.o (Option.some.inj h)
       ·exact HA.o j (by omega)
      case measure=>simp[QO];omega
   ·have V:l.contains (x,y,z)=false:=by
     rw[Bool.eq_false_iff];intro h;rw[NS]at h;obtain⟨j,hj⟩:=List.mem_iff_getElem?.1 h;have:j<l.length:=(LI.1 hj).1;exact HA.o j (by omega) hj
    have HI:QP (sV l (x,y,z)=false):=V;clear V;go_wp2;go_ret;exact⟨by rw[HI.o];rfl,_root_.Go.below_drewN I _⟩
section
structure jG(w:tW)(cb aH top ib:Nat)(aI:tB)(c:Nat)(H:List (Int×Int×Int))(n:Nat)(T:List (Int×Int×Int))(vh vt:tV):Prop where
 c0:w.cell? ⟨cb,0,none⟩=some (.pointer (some ⟨ib,0,none⟩))
 c1:w.cell? ⟨cb,1,none⟩=some (.string aI)
 c2:w.cell? ⟨cb,2,none⟩=some (.int .i64 c)
 c3:w.cell? ⟨cb,3,none⟩=some vh
 c4:w.cell? ⟨cb,4,none⟩=some (.int .i64 n)
 c5:w.cell? ⟨cb,5,none⟩=some vt
 fz:∀i,w.frozen? ⟨cb,i,none⟩=false
 rh:w.ownsRow aH 234 3 vh H.length (hZ H)
 rt:w.ownsRow aH 79 3 vt T.length (hZ T)
 hb:cb<aH
 hz:top<=w.heap.size
 hbt:aH<=top
 lh:∀k,vh.ownBlock=some k->k<top
 lt:∀k,vt.ownBlock=some k->k<top
 ap:vh.ownBlock=none\/vh.ownBlock≠vt.ownBlock
variable {w w':tW}{cb aH top ib:Nat}{aI:tB}{c:Nat}{H:List (Int×Int×Int)}{n:Nat}{T:List (Int×Int×Int)}{vh vt:tV}
theorem jG.below(h:jG w cb aH top ib aI c H n T vh vt)(D:Below top w w'):jG w' cb aH top ib aI c H n T vh vt:=by
 have X:=h.hb;have Q:=h.hbt;have o:cb<top:=by omega
 have cl:∀i,w'.cell? ⟨cb,i,none⟩=w.cell? ⟨cb,i,none⟩:=λ i=>D.cell (p:=⟨cb,i,none⟩) o
 have C:∀(v:tV)(m:Nat)(xs:List tV)(e:TypeId),w.ownsRow aH e 3 v m xs->(∀k,v.ownBlock=some k->k<top)->w'.ownsRow aH e 3 v m xs:=λ v m xs e J U=>by
  refine⟨J.1,?_⟩;rcases J.2 with V|⟨g,aJ,F,rfl,I,hg,rest⟩
  ·exact .inl V
  ·exact .inr ⟨g,aJ,F,rfl,I,(D.block g (U g rfl)).trans hg,rest⟩
 exact⟨(cl 0).trans h.c0,(cl 1).trans h.c1,(cl 2).trans h.c2,(cl 3).trans h.c3,(cl 4).trans h.c4,(cl 5).trans h.c5,
  λ i=>(D.frozen (p:=⟨cb,i,none⟩) o).trans (h.fz i),C _ _ _ _ h.rh h.lh,C _ _ _ _ h.rt h.lt,h.hb,NE h.hz D.size,h.hbt,h.lh,h.lt,h.ap⟩
theorem jG.drewN(h:jG w cb aH top ib aI c H n T vh vt)(q:Nat):jG (w.drewN q) cb aH top ib aI c H n T vh vt:=
 ⟨h.c0,h.c1,h.c2,h.c3,h.c4,h.c5,h.fz,h.rh,h.rt,h.hb,h.hz,h.hbt,h.lh,h.lt,h.ap⟩
theorem jG.other(h:jG w cb aH top ib aI c H n T vh vt)(i:Nat)(v:tV):∀j u,j≠i->w.cell? ⟨cb,j,none⟩=some u->(w.setCell ⟨cb,i,none⟩ v).cell? ⟨cb,j,none⟩=some u:=λ j u C o=>by
 have _:=h;rw[LD (h:=by intro e;injection e;omega)];exact o
theorem jG.steps(h:jG w cb aH top ib aI c H n T vh vt)(m:Nat):jG (w.setCell ⟨cb,4,none⟩ (.int .i64 m)) cb aH top ib aI c H m T vh vt:=by
 have o:=h.other 4 (.int .i64 m);refine⟨o 0 _ (by omega) h.c0,o 1 _ (by omega) h.c1,o 2 _ (by omega) h.c2,o 3 _ (by omega) h.c3,LH _ _ _ h.c4,o 5 _ (by omega) h.c5,
  λ i=>by rw[LG];exact h.fz i,QN h.rh h.hb _,QN h.rt h.hb _,h.hb,?_,h.hbt,h.lh,h.lt,h.ap⟩
 have:=h.hz;simp[LN];omega
theorem jG.bE(h:jG w cb aH top ib aI c H n T vh vt)(m:Nat):jG (w.setCell ⟨cb,2,none⟩ (.int .i64 m)) cb aH top ib aI m H n T vh vt:=by
 have o:=h.other 2 (.int .i64 m);refine⟨o 0 _ (by omega) h.c0,o 1 _ (by omega) h.c1,LH _ _ _ h.c2,o 3 _ (by omega) h.c3,o 4 _ (by omega) h.c4,o 5 _ (by omega) h.c5,
  λ i=>by rw[LG];exact h.fz i,QN h.rh h.hb _,QN h.rt h.hb _,h.hb,?_,h.hbt,h.lh,h.lt,h.ap⟩
 have:=h.hz;simp[LN];omega
theorem jG.raise(h:jG w cb aH top ib aI c H n T vh vt):jG w cb aH w.heap.size ib aI c H n T vh vt:=by
 have D:=h.hz;have C:=h.hbt;exact⟨h.c0,h.c1,h.c2,h.c3,h.c4,h.c5,h.fz,h.rh,h.rt,h.hb,lR,by omega,λ k o=>by have:=h.lh k o;omega,λ k o=>by have:=h.lt k o;omega,h.ap⟩
theorem jG.again3(h:jG w cb aH top ib aI c H n T vh vt):jG (w.setCell ⟨cb,3,none⟩ vh) cb aH top ib aI c H n T vh vt:=by
 have o:=h.other 3 vh;refine⟨o 0 _ (by omega) h.c0,o 1 _ (by omega) h.c1,o 2 _ (by omega) h.c2,LH _ _ _ h.c3,o 4 _ (by omega) h.c4,o 5 _ (by omega) h.c5,
  λ i=>by rw[LG];exact h.fz i,QN h.rh h.hb _,QN h.rt h.hb _,h.hb,?_,h.hbt,h.lh,h.lt,h.ap⟩
 have:=h.hz;simp[LN];omega
theorem jG.step1(h:jG w cb aH top ib aI c H n T vh vt):jG (w.setCell ⟨cb,4,none⟩ (.int .i64 ((n:Int)+1))) cb aH top ib aI c H (n+1) T vh vt:=
 h.steps (n+1)
theorem rG{w w':tW}{v:tV}{xs:List tV}(h:w.ownsRow aH e size v m xs)(D:Below B w w')(J:w.heap.size<=B):w'.ownsRow aH e size v m xs:=by
 refine⟨h.1,?_⟩;rcases h.2 with I|⟨g,aJ,o,rfl,C,hg,rest⟩
 ·exact .inl I
 ·have F:g<w.heap.size:=(NY.1 hg).1;exact .inr ⟨g,aJ,o,rfl,C,(D.block g (by omega)).trans hg,rest⟩
theorem sM(h:p):QP p:=h
theorem iL{w:tW}{v:tV}{xs:List tV}(h:w.ownsRow aH e size v m xs):v=.slice none 0 0\/∃g aJ,v=.slice (some ⟨g,0,none⟩) m aJ:=by
 rcases h.2 with⟨e,_⟩|⟨g,aJ,_,e,_⟩
 ·exact .inl e
 ·exact .inr ⟨g,aJ,e⟩
theorem yY(l:List (Int×Int×Int)):∀u∈hZ l,u.oneCell'=true:=by
 intro u o;unfold hZ at o;rw[List.mem_flatMap]at o;obtain⟨x,_,C⟩:=o;simp at C;rcases C with rfl|rfl|rfl<;>rfl
theorem jG.kept(h:jG w cb aH top ib aI c H n T vh vt){w1:tW}{o:Option Nat}(F:∀k,o=some k->aH<=k)(hg:w.grownBy w1 o):
  (∀i u,w.cell? ⟨cb,i,none⟩=some u->w1.cell? ⟨cb,i,none⟩=some u)/\∀i,w1.frozen? ⟨cb,i,none⟩=false:=by
 have J:=h.hb;have D:=h.hbt;have Q:=h.hz;have C:some cb≠o:=λ e=>by have:=F cb e.symm;omega
 exact⟨λ i u I=>hg.cell I C,λ i=>(hg.frozen_far ⟨cb,i,none⟩ (by show cb<_;omega) C).trans (h.fz i)⟩
theorem jG.hope(h:jG w cb aH top ib aI c H n T vh vt){w1:tW}{S:List (Int×Int×Int)}{g m aJ:Nat}(Y:m=H.length+S.length)
  (F:w1.ownsRow aH 234 3 (.slice (some ⟨g,0,none⟩) m aJ) m (hZ H++hZ S))
  (C:w.grownBy w1 vh.ownBlock) (Q:vh.ownBlock=some g\/g=w.heap.size) (X:g<w1.heap.size):
  jG (w1.setCell ⟨cb,3,none⟩ (.slice (some ⟨g,0,none⟩) m aJ)) cb aH w1.heap.size ib aI c (H++S) n T (.slice (some ⟨g,0,none⟩) m aJ) vt:=by
 have hb:=h.hb;have V:=h.hbt;have hz:=h.hz;have Z:=C.size;obtain⟨U,kf⟩:=h.kept (λ k D=>(h.rh.lt k D).1) C;have o:∀j u,j≠3->w.cell? ⟨cb,j,none⟩=some u->(w1.setCell ⟨cb,3,none⟩ (.slice (some ⟨g,0,none⟩) m aJ)).cell? ⟨cb,j,none⟩=some u:=λ j u hj hu=>by
  rw[LD (h:=by intro e;injection e;omega)];exact U j u hu
 refine⟨o 0 _ (by omega) h.c0,o 1 _ (by omega) h.c1,o 2 _ (by omega) h.c2,LH _ _ _ (U 3 _ h.c3),o 4 _ (by omega) h.c4,o 5 _ (by omega) h.c5,
  λ i=>by rw[LG];exact kf i,?_,?_,h.hb,by simp[LN],by omega,?_,?_,?_⟩
 ·rw[LR,<-Y,Ew];exact QN F h.hb _
 ·refine QN (h.rt.kept C ?_) h.hb _;rcases h.ap with e|e
  ·cases hv:vt.ownBlock with
   | none=>exact .inl rfl
   | some k=>right;rw[e];simp
  ·exact .inr (Ne.symm e)
 ·intro k D;have:g=k:=by simpa[MG]using D
  omega
 ·intro k D;have:=h.lt k D;omega
 ·right;show some g≠vt.ownBlock;intro e;rcases Q with I|I
  ·rcases h.ap with J|J
   ·rw[J]at I;cases I
   ·exact J (I.trans e)
  ·have:=h.lt g e.symm;omega
theorem jG.tell(h:jG w cb aH top ib aI c H n T vh vt){w1:tW}{o:Obj}{x:Int×Int×Int}{g aJ:Nat}
  (I:w1.ownsRow aH 79 3 (.slice (some ⟨g,0,none⟩) (T.length+1) aJ) (T.length+1) (hZ T++[.int .i64 x.1,.int .i64 x.2.1,.int .i64 x.2.2]))
  (C:(w.alloc o).grownBy w1 vt.ownBlock) (U:vt.ownBlock=some g\/g=w.heap.size+1) (aL:g<w1.heap.size):
  jG (w1.setCell ⟨cb,5,none⟩ (.slice (some ⟨g,0,none⟩) (T.length+1) aJ)) cb aH w1.heap.size ib aI c H n (T++[x]) vh (.slice (some ⟨g,0,none⟩) (T.length+1) aJ):=by
 have D:jG (w.alloc o) cb aH top ib aI c H n T vh vt:=h.below (bR.alloc h.hz o);have hb:=h.hb;have Z:=h.hbt;have hz:=h.hz;have V:=C.size;simp at V;obtain⟨Y,kf⟩:=D.kept (λ k F=>(D.rt.lt k F).1) C;have J:∀j u,j≠5->(w.alloc o).cell? ⟨cb,j,none⟩=some u->(w1.setCell ⟨cb,5,none⟩ (.slice (some ⟨g,0,none⟩) (T.length+1) aJ)).cell? ⟨cb,j,none⟩=some u:=λ j u hj hu=>by
  rw[LD (h:=by intro e;injection e;omega)];exact Y j u hu
 refine⟨J 0 _ (by omega) D.c0,J 1 _ (by omega) D.c1,J 2 _ (by omega) D.c2,J 3 _ (by omega) D.c3,J 4 _ (by omega) D.c4,LH _ _ _ (Y 5 _ D.c5),
  λ i=>by rw[LG];exact kf i,?_,?_,h.hb,by simp[LN],by omega,?_,?_,?_⟩
 ·refine QN (D.rh.kept C ?_) h.hb _;exact h.ap
 ·rw[LR,MI,Z1];exact QN I h.hb _
 ·intro k F;have:=h.lh k F;omega
 ·intro k F;have:g=k:=by simpa[MG]using F
  omega
 ·right;show vh.ownBlock≠some g;intro e;rcases U with X|X
  ·rcases h.ap with Q|Q
   ·rw[Q]at e;cases e
   ·exact Q (e.trans X.symm)
  ·have:=h.lh g e;omega
end
section
structure CW(w:tW)(cb top:Nat)(s aI:tB)(bb vg aU:Nat)(yb:Nat->Nat)(zb:Nat->Nat->Nat)(vt:tV)(hg bH:Nat)(hbk:Nat->Nat)(HT:Nat->Nat->Bool)(c p n:Nat)(T:List (Int×Int×Int)):Prop where
 mem:IM w s bb vg yb zb cb
 im:w.rangeAt cb 0 (nS (.slice (some ⟨bb,0,none⟩) (iR s) (iR s)) (gP s) (.slice (some ⟨vg,0,none⟩) (iM s) aU))
 k1:w.cell? ⟨cb,258,none⟩=some (.string aI)
 k2:w.cell? ⟨cb,259,none⟩=some (.int .i64 c)
 k3:w.cell? ⟨cb,260,none⟩=some (.int .i64 p)
 k4:w.cell? ⟨cb,261,none⟩=some (.int .i64 n)
 k5:w.cell? ⟨cb,262,none⟩=some vt
 k6:w.cell? ⟨cb,263,none⟩=some (.slice (some ⟨hg,0,none⟩) (iM s) bH)
 fz:∀i,w.frozen? ⟨cb,i,none⟩=false
 rt:w.ownsRow (cb+1) 79 3 vt T.length (hZ T)
 hl:∀j,j<iM s->w.cell? ⟨hg,j,none⟩=some (.slice (some ⟨hbk j,0,none⟩) (rA s j*aI.size) (rA s j*aI.size))
 tb:∀j k,j<iM s->k<rA s j*aI.size->w.cell? ⟨hbk j,k,none⟩=some (.bool (HT j k))/\w.frozen? ⟨hbk j,k,none⟩=false
 b0:cb<top
 b1:cb<hg/\hg<top
 b2:∀j,j<iM s->cb<hbk j/\hbk j<top/\hbk j≠hg
 bi:∀i j,i<iM s->j<iM s->hbk i=hbk j->i=j
 bv:∀k,vt.ownBlock=some k->k<top/\k≠hg/\∀j,j<iM s->k≠hbk j
 hz:top<=w.heap.size
variable {w w':tW}{cb top:Nat}{s aI:tB}{bb vg aU:Nat}{yb:Nat->Nat}{zb:Nat->Nat->Nat}{vt:tV}{hg bH:Nat}{hbk:Nat->Nat}{HT:Nat->Nat->Bool}{c p n:Nat}{T:List (Int×Int×Int)}
theorem iH{v:tV}{xs:List tV}(D:w.ownsRow aH e size v m xs)(F:∀k,v.ownBlock=some k->w'.heap[k]?=w.heap[k]?):w'.ownsRow aH e size v m xs:=by
 refine⟨D.1,?_⟩;rcases D.2 with I|⟨g,aJ,o,rfl,C,hg,rest⟩
 ·exact .inl I
 ·exact .inr ⟨g,aJ,o,rfl,C,(F g rfl).trans hg,rest⟩
theorem CW.below(h:CW w cb top s aI bb vg aU yb zb vt hg bH hbk HT c p n T)(o:Below top w w'):CW w' cb top s aI bb vg aU yb zb vt hg bH hbk HT c p n T:=by
 have F:=h.b0;have cl:∀i,w'.cell? ⟨cb,i,none⟩=w.cell? ⟨cb,i,none⟩:=λ i=>o.cell (p:=⟨cb,i,none⟩) F
 exact⟨h.mem.below o (by omega),λ j v I=>(cl (0+j)).trans (h.im j v I),(cl _).trans h.k1,(cl _).trans h.k2,(cl _).trans h.k3,(cl _).trans h.k4,(cl _).trans h.k5,(cl _).trans h.k6,
  λ i=>(o.frozen (p:=⟨cb,i,none⟩) F).trans (h.fz i),iH h.rt (λ k D=>o.block k (h.bv k D).1),λ j C=>(o.cell (p:=⟨hg,j,none⟩) h.b1.2).trans (h.hl j C),
  λ j k C D=>⟨(o.cell (p:=⟨hbk j,k,none⟩) (h.b2 j C).2.1).trans (h.tb j k C D).1,(o.frozen (p:=⟨hbk j,k,none⟩) (h.b2 j C).2.1).trans (h.tb j k C D).2⟩,
  h.b0,h.b1,h.b2,h.bi,h.bv,NE h.hz o.size⟩
theorem CW.drewN(h:CW w cb top s aI bb vg aU yb zb vt hg bH hbk HT c p n T)(q:Nat):CW (w.drewN q) cb top s aI bb vg aU yb zb vt hg bH hbk HT c p n T:=
 ⟨h.mem.drewN q,h.im,h.k1,h.k2,h.k3,h.k4,h.k5,h.k6,h.fz,h.rt,h.hl,h.tb,h.b0,h.b1,h.b2,h.bi,h.bv,h.hz⟩
theorem CW.raise(h:CW w cb top s aI bb vg aU yb zb vt hg bH hbk HT c p n T):CW w cb w.heap.size s aI bb vg aU yb zb vt hg bH hbk HT c p n T:=by
 have I:=h.hz;have D:=h.b0;have F:=h.b1;exact⟨h.mem,h.im,h.k1,h.k2,h.k3,h.k4,h.k5,h.k6,h.fz,h.rt,h.hl,h.tb,by omega,by omega,λ j o=>by have:=h.b2 j o;exact⟨this.1,by omega,this.2.2⟩,h.bi,λ k C=>by have:=h.bv k C;exact⟨by omega,this.2⟩,lR⟩
theorem tI{v:tV}(h:B<=b):Below B w (w.setCell ⟨b,i,none⟩ v):=bR.setCell (p:=⟨b,i,none⟩) h v
theorem CW.setOwn(h:CW w cb top s aI bb vg aU yb zb vt hg bH hbk HT c p n T)(i:Nat)(v:tV)(hi:258<=i):
  (∀j u,j≠i->w.cell? ⟨cb,j,none⟩=some u->(w.setCell ⟨cb,i,none⟩ v).cell? ⟨cb,j,none⟩=some u)/\
  IM (w.setCell ⟨cb,i,none⟩ v) s bb vg yb zb cb/\(w.setCell ⟨cb,i,none⟩ v).rangeAt cb 0 (nS (.slice (some ⟨bb,0,none⟩) (iR s) (iR s)) (gP s) (.slice (some ⟨vg,0,none⟩) (iM s) aU))/\
  (∀i',(w.setCell ⟨cb,i,none⟩ v).frozen? ⟨cb,i',none⟩=false)/\(w.setCell ⟨cb,i,none⟩ v).ownsRow (cb+1) 79 3 vt T.length (hZ T)/\
  (∀j,j<iM s->(w.setCell ⟨cb,i,none⟩ v).cell? ⟨hg,j,none⟩=some (.slice (some ⟨hbk j,0,none⟩) (rA s j*aI.size) (rA s j*aI.size)))/\
  (∀j k,j<iM s->k<rA s j*aI.size->(w.setCell ⟨cb,i,none⟩ v).cell? ⟨hbk j,k,none⟩=some (.bool (HT j k))/\(w.setCell ⟨cb,i,none⟩ v).frozen? ⟨hbk j,k,none⟩=false)/\
  top<=(w.setCell ⟨cb,i,none⟩ v).heap.size:=by
 have o:∀j u,j≠i->w.cell? ⟨cb,j,none⟩=some u->(w.setCell ⟨cb,i,none⟩ v).cell? ⟨cb,j,none⟩=some u:=λ j u C D=>by
  rw[LD (h:=by intro e;injection e;omega)];exact D
 have F:∀j u,(nS (.slice (some ⟨bb,0,none⟩) (iR s) (iR s)) (gP s) (.slice (some ⟨vg,0,none⟩) (iM s) aU))[j]?=some u->j<258:=λ j u D=>by
  have:=(LI.1 D).1;rw[nY _ _ _ (by unfold gP;rw[lQ];rfl)]at this;exact this
 refine⟨o,h.mem.below (tI lR) lR,λ j u D=>o _ _ (by have:=F j u D;omega) (h.im j u D),λ i'=>by rw[LG];exact h.fz i',
  QN h.rt (OB _) _,λ j C=>?_,λ j k C I=>⟨?_,by rw[LG];exact(h.tb j k C I).2⟩,by have:=h.hz;simp[LN];omega⟩
 ·rw[LD (h:=by intro e;injection e;have:=h.b1;omega)];exact h.hl j C
 ·rw[LD (h:=by intro e;injection e;have:=h.b2 j C;omega)];exact(h.tb j k C I).1
theorem CW.stepN(h:CW w cb top s aI bb vg aU yb zb vt hg bH hbk HT c p n T):CW (w.setCell ⟨cb,261,none⟩ (.int .i64 ((n:Int)+1))) cb top s aI bb vg aU yb zb vt hg bH hbk HT c p (n+1) T:=by
 obtain⟨o,a1,C,D,F,I,J,Q⟩:=h.setOwn 261 (.int .i64 ((n:Int)+1)) (by omega);exact⟨a1,C,o _ _ (by omega) h.k1,o _ _ (by omega) h.k2,o _ _ (by omega) h.k3,LH _ _ _ h.k4,o _ _ (by omega) h.k5,o _ _ (by omega) h.k6,D,F,I,J,h.b0,h.b1,h.b2,h.bi,h.bv,Q⟩
theorem CW.setC(h:CW w cb top s aI bb vg aU yb zb vt hg bH hbk HT c p n T)(C:Nat):CW (w.setCell ⟨cb,259,none⟩ (.int .i64 (C:Int))) cb top s aI bb vg aU yb zb vt hg bH hbk HT C p n T:=by
 obtain⟨o,a1,D,F,I,J,Q,U⟩:=h.setOwn 259 (.int .i64 (C:Int)) (by omega);exact⟨a1,D,o _ _ (by omega) h.k1,LH _ _ _ h.k2,o _ _ (by omega) h.k3,o _ _ (by omega) h.k4,o _ _ (by omega) h.k5,o _ _ (by omega) h.k6,F,I,J,Q,h.b0,h.b1,h.b2,h.bi,h.bv,U⟩
theorem CW.setP(h:CW w cb top s aI bb vg aU yb zb vt hg bH hbk HT c p n T)(C:Nat):CW (w.setCell ⟨cb,260,none⟩ (.int .i64 (C:Int))) cb top s aI bb vg aU yb zb vt hg bH hbk HT c C n T:=by
 obtain⟨o,a1,D,F,I,J,Q,U⟩:=h.setOwn 260 (.int .i64 (C:Int)) (by omega);exact⟨a1,D,o _ _ (by omega) h.k1,o _ _ (by omega) h.k2,LH _ _ _ h.k3,o _ _ (by omega) h.k4,o _ _ (by omega) h.k5,o _ _ (by omega) h.k6,F,I,J,Q,h.b0,h.b1,h.b2,h.bi,h.bv,U⟩
theorem CW.mark(h:CW w cb top s aI bb vg aU yb zb vt hg bH hbk HT c p n T){i k:Nat}(hi:i<iM s)(U:k<rA s i*aI.size):
  CW (w.setCell ⟨hbk i,k,none⟩ (.bool true)) cb top s aI bb vg aU yb zb vt hg bH hbk (λ j m=>if j=i/\m=k then true else HT j m) c p n T:=by
 have b2:=h.b2 i hi;have o:∀b j u,b≠hbk i->w.cell? ⟨b,j,none⟩=some u->(w.setCell ⟨hbk i,k,none⟩ (.bool true)).cell? ⟨b,j,none⟩=some u:=λ b j u C F=>by
  rw[LD (h:=by intro e;injection e;omega)];exact F
 refine⟨h.mem.below (tI (by omega)) lR,λ j u F=>o _ _ _ (by omega) (h.im j u F),o _ _ _ (by omega) h.k1,o _ _ _ (by omega) h.k2,o _ _ _ (by omega) h.k3,o _ _ _ (by omega) h.k4,o _ _ _ (by omega) h.k5,o _ _ _ (by omega) h.k6,
  λ i'=>by rw[LG];exact h.fz i',iH h.rt (λ q Q=>MQ _ _ _ _ (by have:=(h.bv q Q).2.2 i hi;exact this)),λ j C=>o _ _ _ (by omega) (h.hl j C),λ j m C D=>⟨?_,by rw[LG];exact(h.tb j m C D).2⟩,
  h.b0,h.b1,h.b2,h.bi,h.bv,by have:=h.hz;simp[LN];omega⟩
 by_cases e:j=i
 ·subst e;by_cases I:m=k
  ·subst I;rw[aB ⟨rfl,rfl⟩];exact LH _ _ _ (h.tb j m C D).1
  ·rw[aA (λ q=>I q.2),LD (h:=by intro J;injection J;omega)];exact(h.tb j m C D).1
 ·rw[aA (λ q=>e q.1)];exact o _ _ _ (λ q=>e (h.bi j i C hi q)) (h.tb j m C D).1
end
def Ss(w:tW)(cb:Nat)(s aI:tB)(bb vg aU:Nat)(yb:Nat->Nat)(zb:Nat->Nat->Nat)(vt:tV)(hg bH:Nat)(hbk:Nat->Nat)(c p n:Nat)(H T:List (Int×Int×Int))(e:Ending)(w':tW):Prop:=
 e=.returned (.tuple #[.int .i64 ((Nt (nZ s aI c H (aI.size-p) 0 p none):Nat):Int),.int .i64 ((KR p (nZ s aI c H (aI.size-p) 0 p none):Nat):Int)])/\
 Below cb w w'/\∃o,CW w' cb w'.heap.size s aI bb vg aU yb zb vt hg bH hbk o c p (n+(iE s aI c H p).2) T/\J7 s aI (H++(iE s aI c H p).1) o
theorem AP{w:tW}{e:Nat}{xs:List tV}(h:w.ownsRow aH e 1 (.slice (some ⟨g,0,none⟩) n aJ) n xs):w.ownsRow aH e 1 (.slice (some ⟨g,0,none⟩) 0 aJ) 0 []:=by
 refine⟨rfl,?_⟩;rcases h.2 with⟨Q,_⟩|⟨V,I,o,J,C,hg,U,D,F,_⟩
 ·cases Q
 ·cases J
  exact .inr ⟨g,aJ,o,rfl,C,hg,zL,D,F,by simp⟩
theorem K7(w:tW)(e:TypeId):(w.alloc (.cells #[] e)).ownsRow w.heap.size e 1 (.slice (some ⟨w.heap.size,0,none⟩) 0 0) 0 []:=by
 refine⟨rfl,.inr ⟨w.heap.size,0, #[],rfl,lR,QV w _,lR,?_⟩⟩;simp
theorem Vh(s aI:tB)(cb bb vg aU:Nat)(yb:Nat->Nat)(zb:Nat->Nat->Nat)(vt:tV)(hg bH:Nat)(hbk:Nat->Nat)(HT:Nat->Nat->Bool)(c p n:Nat)(H T:List (Int×Int×Int))(w:tW)
  (hi:iF s=true) (O5:aI.size<=300) (hp:p<=aI.size) (hc:c<iM s) (hn:n<=100000) (hH:J7 s aI H HT)
  (F:CW w cb w.heap.size s aI bb vg aU yb zb vt hg bH hbk HT c p n T):
  RA LK 52 #[.pointer (some ⟨cb,0,none⟩)] w λ e w'=>Ss w cb s aI bb vg aU yb zb vt hg bH hbk c p n H T e w':=by
 have lH:=fV F;obtain⟨M,EM⟩:=xE (iM s)
 obtain⟨N,EN⟩:=xE (rA s c)
 obtain⟨NL,aT⟩:=xE (N*aI.size)
 have hM:=(kZ hi).2.2.2.1;have W3:=iI c M (by omega)
 have cN:=fV (show(gP s).length=256 by unfold gP;rw[lQ];rfl);have B1:w.cell? ⟨cb,257,none⟩=some (.slice (some ⟨vg,0,none⟩) M aU):=by have:=F.im 257 _ (yI _ _ _ cN.o);rw[LM,EM]at this;exact this
 have k2:=F.k2;have k3:=F.k3;have k6:=F.k6;rw[EM]at k6;have m1:=F.mem.co c hc;rw[EN]at m1;have m2:=F.hl c hc;rw[EN,aT]at m2;have HH:=fV hH;have HI:=fV hi;have hN:=K5 hi hc;rw[EN]at hN;have T2:NL<=30000:=by rw[<-aT];have:=NH hN.1 O5;omega
 have W2:c<M:=by omega
 replace hc:=fV hc;replace EM:=fV EM;replace EN:=fV EN;replace aT:=fV aT;clear F hH hM hi;go_enter func52,ntmps52;go_wp2;go_quiet (fail);have aL:=fV (lH.o.drewN nq);have hV:QP (Below cb w (w.drewN nq)):=_root_.Go.below_drewN bR nq;have A3:(w.drewN nq).heap.size=w.heap.size:=rfl;generalize w.drewN nq=wa at*;clear B1 k2 k3 k6 m1 m2 lH;have k2:=aL.o.k2;have k6:=aL.o.k6;rw[EM.o]at k6;have m2:=aL.o.hl c hc.o;rw[EN.o,aT.o]at m2;go_wp2;go_quiet (fail);have aO:=fV (aL.o.drewN nq);have hW:QP (Below cb w (wa.drewN nq)):=_root_.Go.below_drewN hV.o nq;have O8:(wa.drewN nq).heap.size=w.heap.size:=A3;generalize wa.drewN nq=wb at*;clear k2 k6 m2 aL hV A3;have k3:=aO.o.k3;go_upto_region 7 with fail;have aW:=fV (aO.o.below (bR.alloc aO.o.hz (.cells #[] 3)));have hD:QP (Below cb w (wb.alloc (.cells #[] 3))):=hW.o.alloc (by have:=aO.o.b0;omega) _;have hG:QP ((wb.alloc (.cells #[] 3)).ownsRow w.heap.size 3 1 (.slice (some ⟨w.heap.size,0,none⟩) 0 0) 0 []):=by
  rw[<-O8];exact K7 wb 3
 have X4:w.heap.size<(wb.alloc (.cells #[] 3)).heap.size:=by simp;omega
 clear k3;generalize wb.alloc (.cells #[] 3)=w0 at*;clear aO hW;have k3:=aW.o.k3;go_upto_block 0 with fail;clear k3;obtain⟨Q,EB⟩:=xE (nZ s aI c H (aI.size-p) 0 p none)
 obtain⟨SF,bS⟩:=xE (iE s aI c H p)
 replace EB:=fV EB;replace bS:=fV bS
 go_cut [6,7,9] from 14 (λ tk hR sd wc=>∃(g aJ:Nat),tk=.int .i64 (Nt Q:Nat)/\hR=.int .i64 (KR p Q:Nat)/\sd=.slice (some ⟨g,0,none⟩) SF.1.length aJ/\KE s aI c SF.1/\SF.1.length<=300/\
  wc.ownsRow w.heap.size 3 1 (.slice (some ⟨g,0,none⟩) SF.1.length aJ) SF.1.length (Ee aI.size SF.1)/\CW wc cb w.heap.size s aI bb vg aU yb zb vt hg bH hbk HT c p (n+SF.2) T/\Below cb w wc)
 case rest=>
  obtain⟨g,aJ,rfl,rfl,rfl,eT,X1,U,F,hb⟩:=hcut;have eM:=fV eT;have qL:=fV U;have iN:=fV F;have hS:=fV hb;clear eT U F hb aW hD hG;obtain⟨S,kk⟩:=SF;simp only at*;go_wp2_with fail
  go_loopw [115] (λ x wr=>∃(k:Nat)(eN:Nat->Nat->Bool),x=.int .i64 (k:Int)/\k<=S.length/\CW wr cb w.heap.size s aI bb vg aU yb zb vt hg bH hbk eN c p (n+kk) T/\J7 s aI (H++S.take k) eN/\
   wr.ownsRow w.heap.size 3 1 (.slice (some ⟨g,0,none⟩) S.length aJ) S.length (Ee aI.size S)/\Below cb w wr) (λ x _=>S.length-(QO x).toNat)
  case atStart=>exact⟨0,HT,rfl,zL,iN.o,by rw[List.take_zero,OP];exact HH.o,qL.o,hS.o⟩
  case round=>
   obtain⟨k,eN,rfl,hk,F,A0,U,hb⟩:=hrel;have bT:=fV F;have nL:=fV A0;have qR:=fV U;have hT:=fV hb;clear F A0 U hb iN qL hS;by_cases Z:k<S.length
   ·obtain⟨st,i,hx,aR,eR⟩:=eM.o _ (OI Z);have hm:=bT.o.tb c (st*aI.size+i) hc.o (D6 aR eR);have O0:wr.cell? ⟨g,k,none⟩=some (.int .i64 ((st*aI.size+i:Nat):Int)):=by
     have e:(Ee aI.size S)[k]?=some (.int .i64 ((st*aI.size+i:Nat):Int)):=by
      unfold Ee;rw[MC,LQ Z,hx];simp[uR]
     have:=nV qR.o k _ e;rw[LM]at this;exact this
    have HM:=fV (bT.o.mark hc.o (D6 aR eR));have HK:=fV (Vx nL.o (c:=c) (st:=st) eR);have L1:QP (H++S.take k++[uR c st i]=H++S.take (k+1)):=by
     unfold QP;rw[NU,<-hx,PZ,LQ Z];rfl
    have hy:st*aI.size+i<NL:=by have:=D6 aR eR;rw[EN.o,aT.o]at this;exact this
    generalize st*aI.size+i=Y at*;generalize eN c Y=old at*;clear hx aR eR;have B2:=hm.1;have P0:=hm.2;clear hm;have O7:=iI Y NL (by omega)
    have W8:(0:Int)<=(k:Int)/\(k:Int)<(S.length:Int):=by omega
    have H1:=fV (QN (a:=⟨hbk c,Y,none⟩) qR.o (bT.o.b2 c hc.o).2.1 (.bool true));have E6:=fV (hT.o.setCell (p:=⟨hbk c,Y,none⟩) (MU (bT.o.b2 c hc.o).1) (.bool true));go_wp2;go_roundw
    case rel=>exact⟨k+1,_,by go_num,Z,HM.o,by rw[<-L1.o];exact HK.o,H1.o,E6.o⟩
    case measure=>simp[QO];omega
   ·have e:k=S.length:=by omega
    subst e;go_wp2;go_ret2;refine⟨by rw[EB.o];rfl,hT.o,eN,?_,?_⟩
    ·rw[bS.o];exact bT.o.raise
    ·rw[bS.o];have:=nL.o;rw[List.take_length]at this;exact this
 case first=>
  go_wp2_with fail
  go_loopg [6,7,8,9,10] (aI.size-p) (λ gk tk hR sv sd iv wr=>∃(D:Option (Nat×Nat)) (st i k:Nat) (S:List (Int×Int×Int)) (g aJ:Nat),tk=.int .i64 (Nt D:Nat)/\hR=.int .i64 (KR p D:Nat)/\
   sv=.int .i64 (st:Int)/\sd=.slice (some ⟨g,0,none⟩) S.length aJ/\iv=.int .i64 (i:Int)/\st<N/\p<=i/\i+gk=aI.size/\k<=i-p/\S.length<=i-p/\KE s aI c S/\
   SF=pG s aI c H gk st i S k/\Q=nZ s aI c H gk st i D/\
   wr.ownsRow w.heap.size 3 1 (.slice (some ⟨g,0,none⟩) S.length aJ) S.length (Ee aI.size S)/\CW wr cb w.heap.size s aI bb vg aU yb zb vt hg bH hbk HT c p (n+k) T/\Below cb w wr)
  case atStart=>exact⟨none,0,p,0,[],w.heap.size,0,rfl,rfl,rfl,rfl,rfl,by omega,lR,by omega,by omega,by simp,Tx _ _ _,bS.o.symm,EB.o.symm,hG.o,aW.o,hD.o⟩
  case round=>
   obtain⟨D,st,i,k,S,g,aJ,rfl,rfl,rfl,rfl,rfl,aR,W9,W7,hk,T3,eT,A1,hC,U,F,hb⟩:=hrel;have cP:=fV A1;have eL:=fV hC;have eM:=fV eT;have HO:=fV U;have HC:=fV F;have HB:=fV hb;clear A1 hC eT U F hb aW hD hG;have k1:=HC.o.k1;by_cases Z:i<aI.size
   ·obtain⟨d,rfl⟩:∃d,gk=d+1:=⟨gk-1,by omega⟩
    have J:st<rA s c:=by rw[EN.o];exact aR
    have O6:st*aI.size+i<NL:=by have:=D6 J Z;rw[EN.o,aT.o]at this;exact this
    have cF:=fV (HH.o c st i hc.o J Z);have hP:=HC.o.tb c (st*aI.size+i) hc.o (D6 J Z);obtain⟨X,hX⟩:∃X:Nat,X=st*aI.size:=⟨_,rfl⟩
    obtain⟨Y,hY⟩:∃Y:Nat,Y=X+i:=⟨_,rfl⟩
    have M2:(st:Int)*(aI.size:Int)=(X:Int):=by rw[hX];simp
    have N0:(X:Int)+(i:Int)=(Y:Int):=by rw[hY];simp
    rw[<-hX,<-hY]at O6 hP cF;replace hX:=fV hX;have W0:X<=30000:=by omega
    replace hY:=fV hY;have O7:=iI Y NL (by omega)
    have hd:decide ((i:Int)<(aI.size:Int))=true:=by simp;omega
    have t1:=hP.1;clear hP J
    cases hkn:sV H (uR c st i)with
    | true=>
     rw[hkn]at cF;rw[cF.o]at t1;have C:QP (SF=(S,k)):=cP.o.trans (C0 hkn);have V:QP (Q=D):=eL.o.trans (Mb hkn);clear hkn;go_wp2;go_meet
     case rel=>
      refine⟨g,aJ,by rw[V.o],by rw[V.o],by rw[C.o],by rw[C.o];exact eM.o,by rw[C.o];simp only;omega,by rw[C.o];exact HO.o,by rw[C.o];exact HC.o,HB.o⟩
    | false=>
     rw[hkn]at cF;rw[cF.o]at t1;have bN:=fV hkn;clear hkn;obtain⟨N1,hA⟩:=xE (n+k)
     rw[hA]at HC;have O9:N1<=101000:=by omega
     replace hA:=fV hA;have hQ:=HC.o.hz;go_wp2_with (first|(at_builtin;refine gB wr rfl (.tmp 66) (.tmp 68) 59 rfl w.heap.size 3 (.int .i64 0) 1 8 ND bU rfl (by decide) (by decide) _ S.length (Ee aI.size S) [.int .i64 (Y:Int)] _ rfl HO.o _ rfl rfl rfl (by simp[MF]) (by omega) hQ ?_;intro g4 cap4 w4 eX bC tT A2;have hJ:=lN (MZ w.heap.size wr) hQ HO.o lR bC;have bK:=fV (HC.o.below hJ);have r4:=bK.o.k4;have f4:=bK.o.fz 261;clear k1 t1));have bM:=fV bK.o.stepN;have rL:QP ((w4.setCell ⟨cb,261,none⟩ (.int .i64 ((N1:Int)+1))).ownsRow w.heap.size 3 1 (.slice (some ⟨g4,0,none⟩) (S.length+1) cap4) (S.length+1) (Ee aI.size (S++[uR c st i]))):=by
      rw[Yn];have e:(st:Int)*(aI.size:Int)+(i:Int)=(Y:Int):=by rw[M2,N0]
      rw[e];exact QN eX (by have:=bK.o.b0;exact this) _
     have hU:=fV ((HB.o.trans (hJ.mono (by have:=bK.o.b0;omega))).setCell (p:=⟨cb,261,none⟩) lR (.int .i64 ((N1:Int)+1)));generalize w4.setCell ⟨cb,261,none⟩ (.int .i64 ((N1:Int)+1))=w5 at*;clear bK HC HO HB eX bC tT A2 hJ r4 f4 hQ;have J:st<rA s c:=by rw[EN.o];exact aR
     have W1:=kL aI i Z;have eO:=mT aI i;have q1:=bM.o.k1;have q2:=bM.o.mem.nx c st hc.o J;rw[PE 2 st]at q2;have q3:=bM.o.mem.ld c st (bt aI i) hc.o J eO;have q4:w5.cell? ⟨cb,1+bt aI i,none⟩=some (.int .i64 (tK s (bt aI i):Int)):=by
      have e:(gP s)[bt aI i]'(by rw[cN.o];exact eO)=tK s (bt aI i):=by simp only[(B4 HI.o).co];simp
      have:=bM.o.im (1+bt aI i) _ (s8 _ _ _ (bt aI i) (by rw[cN.o];exact eO));rw[LM,e]at this;exact this
     have W4:=wK HI.o (bt aI i) eO;have nN:QP (Tk s c st (bt aI i)=oM (iA s c st (bt aI i))):=rfl;have hL:=Iu HI.o hc.o J eO;have rO:=fV (@xY s aI c d st i k H S bN.o);have rT:=fV (@C1 s aI c d st i k H S bN.o);have sR:=fV (@K3 s aI c d st i k H S bN.o);have sW:=fV (@Fg s aI c d st i H D bN.o);have tL:=fV (@Mc s aI c d st i H D bN.o);have tO:=fV (@Qe s aI c d st i H D bN.o);generalize Tk s c st (bt aI i)=lj at*;generalize iA s c st (bt aI i)=ln at*;generalize tK s (bt aI i)=q at*;generalize iK s=K at*;generalize bt aI i=v at*;rw[EN.o]at hL;have S5:=iI st N (by omega)
     have X0:=iI q K (by omega)
     have X2:(0:Int)<=(v:Int)/\(v:Int)<256:=by omega
     have W6:(0:Int)<=(i:Int)/\(i:Int)<(aI.size:Int):=by omega
     clear J;go_quiet (fail);have gL:=fV (bM.o.drewN nq);have hI:QP ((w5.drewN nq).ownsRow w.heap.size 3 1 (.slice (some ⟨g4,0,none⟩) (S.length+1) cap4) (S.length+1) (Ee aI.size (S++[uR c st i]))):=rL.o;have hE:=fV (_root_.Go.below_drewN hU.o nq);generalize w5.drewN nq=w6 at*;clear bM rL hU q1 q2 q3 q4;have bO:QP ((S++[uR c st i]).length=S.length+1):=by unfold QP;simp
     have hF:QP (n+(k+1)=N1+1):=by unfold QP;have:=hA.o;omega
     have hB:QP (KE s aI c (S++[uR c st i])):=AG eM.o (by rw[EN.o];exact aR) Z;by_cases I:ln=255
     ·have hK:lj= -1:=by rw[nN.o,I];rfl
      subst hK;have C:QP (SF=(S++[uR c st i],k+1)):=cP.o.trans (rO.o I);have V:QP (Q=D):=eL.o.trans (sW.o I);clear hL I;go_wp2;go_meet
      case rel=>
       refine⟨g4,cap4,by rw[V.o],by rw[V.o],by rw[C.o];simp only;rw[bO.o],by rw[C.o];exact hB.o,by rw[C.o];simp only;rw[bO.o];omega,by rw[C.o];simp only;rw[bO.o];exact hI.o,by rw[C.o];simp only;rw[hF.o];exact gL.o,hE.o⟩
     ·have hK:lj=(ln:Int):=by rw[nN.o];unfold oM;rw[aA I]
      subst hK;have eS:ln<N:=by omega
      have W5:((ln:Int)== -1)=false:=by rw[aC];omega
      have q5:=gL.o.mem.tk c ln hc.o (by rw[EN.o];exact eS);rw[PE 2 ln]at q5;have H3:=fV (rT.o I);have H4:=fV (sR.o I);have H5:=fV (tL.o I);have H6:=fV (tO.o I);generalize jM s c ln=m at*;have S2:=iI ln N (by omega)
      clear hL I rO rT sR sW tL tO;by_cases hm:m=0
      ·have C:QP (SF=pG s aI c H d ln (i+1) (S++[uR c st i]) (k+1)):=cP.o.trans (H4.o hm);have V:QP (Q=nZ s aI c H d ln (i+1) D):=eL.o.trans (H6.o hm);have O3:((m:Int) !=0)=false:=by rw[hm];rfl
       clear hm;go_wp2;go_roundg d
       case measure=>omega
       case rel=>
        refine⟨D,ln,i+1,k+1,S++[uR c st i],g4,cap4,rfl,rfl,rfl,by rw[bO.o],by go_num,eS,by omega,by omega,by omega,by rw[bO.o];omega,hB.o,C.o,V.o,by rw[bO.o];exact hI.o,by rw[hF.o];exact gL.o,hE.o⟩
      ·have C:QP (SF=pG s aI c H d ln (i+1) [] (k+1)):=cP.o.trans (H3.o (by omega));have V:QP (Q=nZ s aI c H d ln (i+1) (some (m-1,i+1))):=eL.o.trans (H5.o (by omega));have O3:((m:Int) !=0)=true:=by rw[aD];omega
       have H0:QP (Nt (some (m-1,i+1))=m):=by unfold QP Nt;simp only;omega
       have H2:=fV (AP hI.o);clear hm;go_wp2;go_roundg d
       case measure=>omega
       case rel=>
        refine⟨some (m-1,i+1),ln,i+1,k+1,[],g4,cap4,by rw[H0.o],by simp[KR],rfl,rfl,by go_num,eS,by omega,by omega,by omega,by simp,Tx _ _ _,C.o,V.o,H2.o,by rw[hF.o];exact gL.o,hE.o⟩
   ·have e:gk=0:=by omega
    subst e;have C:QP (SF=(S,k)):=cP.o;have V:QP (Q=D):=eL.o;have hd:decide ((i:Int)<(aI.size:Int))=false:=by simp;omega
    go_wp2;go_meet
    case rel=>
     refine⟨g,aJ,by rw[V.o],by rw[V.o],by rw[C.o],by rw[C.o];exact eM.o,by rw[C.o];simp only;omega,by rw[C.o];exact HO.o,by rw[C.o];exact HC.o,HB.o⟩
section
theorem cJ:(Tryz.prog.info? 79).map (λ i=>(i.zero,i.size,i.bytes))=some (some (.agg #[.int .i64 0,.int .i64 0,.int .i64 0]),3,24):=by kernel_rfl
variable {w w':tW}{cb top:Nat}{s aI:tB}{bb vg aU:Nat}{yb:Nat->Nat}{zb:Nat->Nat->Nat}{vt:tV}{hg bH:Nat}{hbk:Nat->Nat}{HT:Nat->Nat->Bool}{c p n:Nat}{T:List (Int×Int×Int)}
theorem CW.told{W w4:tW}(h:CW W cb W.heap.size s aI bb vg aU yb zb vt hg bH hbk HT c p n T){o:Obj}{x:Int×Int×Int}{g aJ:Nat}
  (V:w4.ownsRow (cb+1) 79 3 (.slice (some ⟨g,0,none⟩) (T.length+1) aJ) (T.length+1) (hZ T++[.int .i64 x.1,.int .i64 x.2.1,.int .i64 x.2.2]))
  (C:(W.alloc o).grownBy w4 vt.ownBlock) (aO:vt.ownBlock=some g\/g=W.heap.size+1) (bC:g<w4.heap.size):
  CW (w4.setCell ⟨cb,262,none⟩ (.slice (some ⟨g,0,none⟩) (T.length+1) aJ)) cb w4.heap.size s aI bb vg aU yb zb (.slice (some ⟨g,0,none⟩) (T.length+1) aJ) hg bH hbk HT c p n (T++[x]):=by
 have b0:=h.b0;have b1:=h.b1;have aR:=C.size;simp at aR;have F:∀k,k<W.heap.size->vt.ownBlock≠some k->w4.heap[k]?=W.heap[k]? :=λ k I hv=>(C.block k (by simp;omega) (λ e=>hv e.symm)).trans (MA W o k I)
 have X:vt.ownBlock≠some cb:=λ e=>by have:=(h.rt.lt cb e).1;omega
 have aW:∀k,k<cb->vt.ownBlock≠some k:=λ k I e=>by have:=(h.rt.lt k e).1;omega
 have aT:vt.ownBlock≠some hg:=λ e=>(h.bv hg e).2.1 rfl
 have Y:∀j,j<iM s->vt.ownBlock≠some (hbk j):=λ j D e=>(h.bv _ e).2.2 j D rfl
 have Z:Below cb W w4:=⟨C.os,C.tape,C.output,by omega,λ k I=>F k (by omega) (aW k I)⟩
 have cc:∀i,w4.cell? ⟨cb,i,none⟩=W.cell? ⟨cb,i,none⟩:=λ i=>LC (w:=W) (a:=⟨cb,i,none⟩) (F cb b0 X)
 have cf:∀i,w4.frozen? ⟨cb,i,none⟩=W.frozen? ⟨cb,i,none⟩:=λ i=>LP (w:=W) (a:=⟨cb,i,none⟩) (F cb b0 X)
 have ch:∀i,w4.cell? ⟨hg,i,none⟩=W.cell? ⟨hg,i,none⟩:=λ i=>LC (w:=W) (a:=⟨hg,i,none⟩) (F hg b1.2 aT)
 have ct:∀j i,j<iM s->w4.cell? ⟨hbk j,i,none⟩=W.cell? ⟨hbk j,i,none⟩:=λ j i D=>LC (w:=W) (a:=⟨hbk j,i,none⟩) (F _ (h.b2 j D).2.1 (Y j D))
 have aL:∀j i,j<iM s->w4.frozen? ⟨hbk j,i,none⟩=W.frozen? ⟨hbk j,i,none⟩:=λ j i D=>LP (w:=W) (a:=⟨hbk j,i,none⟩) (F _ (h.b2 j D).2.1 (Y j D))
 have U:∀j u,(nS (.slice (some ⟨bb,0,none⟩) (iR s) (iR s)) (gP s) (.slice (some ⟨vg,0,none⟩) (iM s) aU))[j]?=some u->j<258:=λ j u J=>by
  have:=(LI.1 J).1;rw[nY _ _ _ (by unfold gP;rw[lQ];rfl)]at this;exact this
 have Q:∀j u,j≠262->W.cell? ⟨cb,j,none⟩=some u->(w4.setCell ⟨cb,262,none⟩ (.slice (some ⟨g,0,none⟩) (T.length+1) aJ)).cell? ⟨cb,j,none⟩=some u:=λ j u D J=>by
  rw[LD (h:=by intro e;injection e;omega),cc];exact J
 refine⟨(h.mem.below Z lR).below (tI lR) lR,λ j u J=>Q _ _ (by have:=U j u J;omega) (h.im j u J),Q _ _ (by omega) h.k1,Q _ _ (by omega) h.k2,Q _ _ (by omega) h.k3,Q _ _ (by omega) h.k4,
  LH (u:=vt) _ _ _ ((cc 262).trans h.k5),Q _ _ (by omega) h.k6,λ i=>by rw[LG,cf];exact h.fz i,?_,λ j D=>?_,λ j k D I=>⟨?_,?_⟩,by omega,⟨b1.1,by omega⟩,λ j D=>?_,h.bi,λ k I=>?_,by simp[LN]⟩
 ·rw[show(T++[x]).length=T.length+1 by simp,show hZ (T++[x])=hZ T++[.int .i64 x.1,.int .i64 x.2.1,.int .i64 x.2.2] by simp[hZ]];exact QN V (OB _) _
 ·rw[LD (h:=by intro e;injection e;omega),ch];exact h.hl j D
 ·rw[LD (h:=by intro e;injection e;have:=h.b2 j D;omega),ct j k D];exact(h.tb j k D I).1
 ·rw[LG,aL j k D];exact(h.tb j k D I).2
 ·have:=h.b2 j D;exact⟨this.1,by omega,this.2.2⟩
 ·have e:g=k:=by simpa[MG]using I
  subst e;rcases aO with h1|h1
  ·have:=h.bv g h1;exact⟨by omega,this.2⟩
  ·exact⟨by omega,by omega,λ j D=>by have:=h.b2 j D;omega⟩
theorem CW.drew(h:CW w cb top s aI bb vg aU yb zb vt hg bH hbk HT c p n T):CW w.drew cb top s aI bb vg aU yb zb vt hg bH hbk HT c p n T:=h.drewN 1
theorem T7(s aI:tB)(cb bb vg aU:Nat)(yb:Nat->Nat)(zb:Nat->Nat->Nat)(vt:tV)(hg bH:Nat)(hbk:Nat->Nat)(HT:Nat->Nat->Bool)(c p n:Nat)(T:List (Int×Int×Int))(r q:Int)(w:tW)
  (hT:T.length<=100000) (h:CW w cb w.heap.size s aI bb vg aU yb zb vt hg bH hbk HT c p n T):
  RA LK 53 #[.pointer (some ⟨cb,0,none⟩),.int .i64 r,.int .i64 q] w λ e w'=>e=.returned (.tuple #[])/\Below cb w w'/\
   ∃X,CW w' cb w'.heap.size s aI bb vg aU yb zb X hg bH hbk HT c p n (T++[(r,(p:Int),q)]):=by
 have Q:=fV h;have k3:=h.k3;have k5:=h.k5;have Z:=h.fz 262;obtain⟨va,V,hv⟩:=gA h.rt;subst hv;have aL:=h.b0;clear h;go_enter func53,ntmps53;go_wp2_with fail;have D:some cb≠(MY va T.length V).ownBlock:=λ e=>by have:=(Q.o.rt.lt cb e.symm).1;omega
 go_region_law ((refine sG w.drew rfl (.tmp 10) (.tmp 18) 29 rfl (cb+1) 79 (.agg #[.int .i64 0,.int .i64 0,.int .i64 0]) 3 24 MV cJ rfl (by decide) (by decide) _ T.length (hZ T) [.int .i64 r,.int .i64 (p:Int),.int .i64 q] _ (by simp[Act.eval]) Q.o.rt _ rfl (by simp[Act.eval]) rfl (by simp[MF]) (by omega) (by show cb+1<=w.heap.size;omega) ?_;intro g4 cap4 w4 F C I J;have m3:=((gH C (k:=cb) (by show cb<w.heap.size;omega) D).1 262).trans k5;have n3:=((gH C (k:=cb) (by show cb<w.heap.size;omega) D).2 262).trans Z;have Y:=fV (Q.o.drew.told (x:=(r,(p:Int),q)) F C I J);have U:QP (Below cb w w4):=(lN (o:= .cells #[.int .i64 r,.int .i64 (p:Int),.int .i64 q] 79) (_root_.Go.below_drewN (MZ cb w) 1) (by show cb<=w.heap.size;omega) Q.o.rt (NJ _) C)))
 all_goals
  go_wp2
  go_end0
  exact⟨rfl,U.o.setCell (p:=⟨cb,262,none⟩) lR _,_,Y.o.raise⟩
end
theorem Vl(s aI:tB)(cb bb vg aU:Nat)(yb:Nat->Nat)(zb:Nat->Nat->Nat)(vt:tV)(hg bH:Nat)(hbk:Nat->Nat)(HT:Nat->Nat->Bool)(c p n:Nat)(T:List (Int×Int×Int))(r q:Nat)(w:tW)
  (hi:iF s=true) (hr:r<iR s) (hT:T.length<=100000) (h:CW w cb w.heap.size s aI bb vg aU yb zb vt hg bH hbk HT c p n T):
  RA LK 54 #[.pointer (some ⟨cb,0,none⟩),.int .i64 r,.int .i64 q] w λ e w'=>e=.returned (.tuple #[])/\Below cb w w'/\
   ∃aO,CW w' cb w'.heap.size s aI bb vg aU yb zb aO hg bH hbk HT (if 1<nC s r then nC s r-2 else c) q n (if nC s r=1 then T else T++[((r:Int),(p:Int),(q:Int))]):=by
 have V:=fV h;have k0:=h.im 0 _ (Pk _ _ _);have m0:=h.mem.be r hr;have aL:=vX hi hr;have hM:=(kZ hi).2.2.2.1;obtain⟨R,ER⟩:=xE (iR s)
 rw[ER]at k0 hr;obtain⟨b,EB⟩:=xE (nC s r)
 rw[EB]at m0 aL ⊢;have aW:b<=5:=by omega
 have bC:=iI r R (by omega)
 have aR:=h.b0;replace ER:=fV ER;replace EB:=fV EB;clear h hi aL hM;rcases(show b=1\/b=0\/2<=b by omega)with J|J|J
 ·have Y:((b:Int) !=1)=false:=by rw[J];rfl
  have Z:decide ((2:Int)<=(b:Int))=false:=by simp;omega
  rw[aA (show¬1<b by omega),aB J];clear J;have q3:=V.o.k3;have f3:=V.o.fz 260;go_enter func54,ntmps54;go_wp2
  go_end0
  exact⟨rfl,bR.setCell (p:=⟨cb,260,none⟩) lR _,vt,(V.o.setP q).raise⟩
 ·have Y:((b:Int) !=1)=true:=by rw[J];rfl
  have Z:decide ((2:Int)<=(b:Int))=false:=by simp;omega
  rw[aA (show¬1<b by omega),aA (show¬b=1 by omega)];clear J;go_enter func54,ntmps54;go_wp2_with fail;refine(T7 s aI cb bb vg aU yb zb vt hg bH hbk HT c p n T (r:Int) (q:Int) _ hT V.o).mono ?_;rintro e w1 ⟨rfl,D,Q,C⟩;have I:=fV C;have F:=fV D;have q3:=C.k3;have f3:=C.fz 260;clear C D k0 m0;go_wp2
  go_end0
  exact⟨rfl,F.o.setCell (p:=⟨cb,260,none⟩) lR _,Q,(I.o.setP q).raise⟩
 ·have Y:((b:Int) !=1)=true:=by rw[aD];omega
  have Z:decide ((2:Int)<=(b:Int))=true:=by simp;omega
  rw[aB (show 1<b by omega),aA (show¬b=1 by omega)];obtain⟨U,X⟩:∃U:Nat,b-2=U:=⟨_,rfl⟩
  have aT:(b:Int)-2=(U:Int):=by omega
  rw[X];clear X;go_enter func54,ntmps54;go_wp2_with fail;refine(T7 s aI cb bb vg aU yb zb vt hg bH hbk HT c p n T (r:Int) (q:Int) _ hT V.o).mono ?_;rintro e w1 ⟨rfl,D,Q,C⟩;have I:=fV C;have F:=fV D;have q2:=C.k2;have f2:=C.fz 259;have q3:=(C.setC U).k3;have f3:=(C.setC U).fz 260;clear C D k0 m0;go_wp2
  go_end0
  exact⟨rfl,(F.o.setCell (p:=⟨cb,259,none⟩) lR _).setCell (p:=⟨cb,260,none⟩) lR _,Q,((I.o.setC U).setP q).raise⟩
theorem fQ:((Tryz.prog.info? 141).map (·.zero))=some (some (.agg LY)):=by kernel_rfl
theorem dO:(MH 6).map (λ k=>LY[258+k]?)=[some (.string QD),some (.int .i64 0),some (.int .i64 0),some (.int .i64 0),some (.slice none 0 0),some (.slice none 0 0)]:=by kernel_rfl
theorem dC:Tryz.zeroCells141.size=264:=by kernel_rfl
theorem fP:(Tryz.prog.info? 141).map (·.size)=some 264:=by kernel_rfl
theorem dV:Tryz.zeroCells141.all (·.oneCell')=true:=by kernel_rfl
theorem eG:(match Tryz.prog.underlying 141 with
  | some (.struct fs)=>fs.toList.mapM (λ f=>(Tryz.prog.info? f.type).map λ i=>(f.offset,i.size))
  | _=>none)=some [(0,258),(258,1),(259,1),(260,1),(261,1),(262,1),(263,1)]:=by kernel_rfl
theorem fC(bA:List (Nat×tV)):Tryz.prog.built 141 bA=Instr.fill ([(0,258),(258,1),(259,1),(260,1),(261,1),(262,1),(263,1)].toArray[·]?) LY bA:=by
 have C:=fQ;have o:=eG;generalize LY=Z at*;unfold Program.built
 cases hi:Tryz.prog.info? 141 with
 | none=>rw[hi]at C;cases C
 | some it=>
  rw[hi]at C;have D:it.zero=some (.agg Z):=by simpa using C
  cases hu:Tryz.prog.underlying 141 with
  | none=>rw[hu]at o;cases o
  | some d=>
   rw[hu]at o
   cases d with
   | struct fs=>
    simp only at o;simp only[D,o,PU]
   | _=>cases o
theorem Vo(A:Array tV)(hA:A.size=258)(V:A.all (·.oneCell')=true)(aI:tB)(c0:Int):∃C:Array tV,Tryz.prog.built 141 [(0,.agg A),(1,.string aI),(2,.int .i64 c0)]=some C/\C.size=264/\C.all (·.oneCell')=true/\
  (∀k,k<258->C[k]?=A[k]?)/\C[258]?=some (.string aI)/\C[259]?=some (.int .i64 c0)/\C[260]?=some (.int .i64 0)/\C[261]?=some (.int .i64 0)/\C[262]?=some (.slice none 0 0)/\C[263]?=some (.slice none 0 0):=by
 have J:=dC;have ht:=dO;have ho:=dV;rw[fC];generalize LY=Z at*;have D:∀k v,[some (NK QD),some (.int .i64 0),some (.int .i64 0),some (.int .i64 0),some (.slice none 0 0),some (.slice none 0 0)][k]?=some v->k<6->Z[258+k]?=v:=λ k v hk h6=>by
  rw[<-ht,MC,MM h6]at hk;simpa using hk
 obtain⟨U,Q⟩:=P1 0 A Z;obtain⟨X,I⟩:=P1 258 #[NK aI] (A.zipIdx.foldl (λ cs x=>cs.setIfInBounds (0+x.2) x.1) Z);obtain⟨s3,F⟩:=P1 259 #[ML .i64 c0] (#[NK aI].zipIdx.foldl (λ cs x=>cs.setIfInBounds (258+x.2) x.1) (A.zipIdx.foldl (λ cs x=>cs.setIfInBounds (0+x.2) x.1) Z));refine⟨#[ML .i64 c0].zipIdx.foldl (λ cs x=>cs.setIfInBounds (259+x.2) x.1) (#[NK aI].zipIdx.foldl (λ cs x=>cs.setIfInBounds (258+x.2) x.1) (A.zipIdx.foldl (λ cs x=>cs.setIfInBounds (0+x.2) x.1) Z)),?_,by rw[s3,X,U,J],?_,λ k hk=>?_,?_,?_,?_,?_,?_,?_⟩
 ·have e1:(QM A).cells=A:=rfl;have e2:(NK aI).cells= #[NK aI]:=rfl;have e3:(ML .i64 c0).cells= #[ML .i64 c0]:=rfl;unfold Instr.fill;simp only[PO,NN,e1,hA,J];rw[aA (by decide)];unfold Instr.fill;simp only[NC,NN,e2];rw[aA (by rw[U,J];simp)];unfold Instr.fill;simp only[NC,NN,e3];rw[aA (by rw[X,U,J];simp)];unfold Instr.fill
  rfl
 ·rw[OX];intro i hi;have o:=OV hi;have aL:=hi;rw[s3,X,U,J]at aL;rw[F,I,Q]at o;generalize (#[ML .i64 c0].zipIdx.foldl (λ cs x=>cs.setIfInBounds (259+x.2) x.1) (#[NK aI].zipIdx.foldl (λ cs x=>cs.setIfInBounds (258+x.2) x.1) (A.zipIdx.foldl (λ cs x=>cs.setIfInBounds (0+x.2) x.1) Z)))[i]=u at*;split at o
  ·rename_i Y;have e:i-259=0:=by have:=Y.2.1;simp at this;omega
   rw[e]at o;have hq:(#[ML .i64 c0]:Array tV).all (·.oneCell')=true:=by simp[MF]
   exact E2 hq o
  ·split at o
   ·rename_i Y;have e:i-258=0:=by have:=Y.2.1;simp at this;omega
    rw[e]at o;have hq:(#[NK aI]:Array tV).all (·.oneCell')=true:=by simp[MF]
    exact E2 hq o
   ·split at o
    ·exact E2 V o
    ·exact E2 ho o
 ·rw[F,aA (by omega),I,aA (by omega),Q,aB (by omega)];rfl
 ·rw[F,aA (by omega),I,aB ⟨by omega,by simp,by rw[U,J];omega⟩];rfl
 ·rw[F,aB ⟨by omega,by simp,by rw[X,U,J];omega⟩];rfl
 ·rw[F,aA (by simp),I,aA (by simp),Q,aA (by omega)];exact D 2 _ rfl (by omega)
 ·rw[F,aA (by simp),I,aA (by simp),Q,aA (by omega)];exact D 3 _ rfl (by omega)
 ·rw[F,aA (by simp),I,aA (by simp),Q,aA (by omega)];exact D 4 _ rfl (by omega)
 ·rw[F,aA (by simp),I,aA (by simp),Q,aA (by omega)];exact D 5 _ rfl (by omega)
section
def Pj(s aI:tB)(hbk:Nat->Nat)(m:Nat):List tV:=(MH m).map λ j=>MY (some ⟨hbk j,0,none⟩) (rA s j*aI.size) (rA s j*aI.size)
structure Zh(w:tW)(cb:Nat)(s aI:tB)(bb vg aU:Nat)(yb:Nat->Nat)(zb:Nat->Nat->Nat)(vh:tV)(hbk:Nat->Nat)(c0 m:Nat):Prop where
 mem:IM w s bb vg yb zb cb
 im:w.rangeAt cb 0 (nS (.slice (some ⟨bb,0,none⟩) (iR s) (iR s)) (gP s) (.slice (some ⟨vg,0,none⟩) (iM s) aU))
 k1:w.cell? ⟨cb,258,none⟩=some (.string aI)
 k2:w.cell? ⟨cb,259,none⟩=some (.int .i64 c0)
 k3:w.cell? ⟨cb,260,none⟩=some (.int .i64 0)
 k4:w.cell? ⟨cb,261,none⟩=some (.int .i64 0)
 k5:w.cell? ⟨cb,262,none⟩=some (.slice none 0 0)
 k6:w.cell? ⟨cb,263,none⟩=some vh
 fz:∀i,w.frozen? ⟨cb,i,none⟩=false
 rh:w.ownsRow (cb+1) 80 1 vh m (Pj s aI hbk m)
 tb:∀j k,j<m->k<rA s j*aI.size->w.cell? ⟨hbk j,k,none⟩=some (.bool false)/\w.frozen? ⟨hbk j,k,none⟩=false
 hb:cb<w.heap.size
 b2:∀j,j<m->cb<hbk j/\hbk j<w.heap.size/\vh.ownBlock≠some (hbk j)
 bi:∀i j,i<m->j<m->hbk i=hbk j->i=j
variable {w w':tW}{cb:Nat}{s aI:tB}{bb vg aU:Nat}{yb:Nat->Nat}{zb:Nat->Nat->Nat}{vh:tV}{hbk:Nat->Nat}{c0 m:Nat}
theorem Md(n k:Nat)(h:k<n):(QU #[QL false] n)[k]?=some (.bool false):=by
 unfold QU;rw[Array.getElem?_map,Array.getElem?_range,aB h];simp[QK]
theorem Zh.more(h:Zh w cb s aI bb vg aU yb zb vh hbk c0 m){V:TypeId}{o:Obj}{w4:tW}{J g aJ:Nat}(aL:rA s m*aI.size=J)
  (aT:w4.ownsRow (cb+1) 80 1 (.slice (some ⟨g,0,none⟩) (m+1) aJ) (m+1) (Pj s aI hbk m++[.slice (some ⟨w.heap.size,0,none⟩) J J]))
  (C:((w.alloc (.cells (QU #[.bool false] J) V)).alloc o).grownBy w4 vh.ownBlock) (aO:vh.ownBlock=some g\/g=w.heap.size+2):
  Zh (w4.setCell ⟨cb,263,none⟩ (.slice (some ⟨g,0,none⟩) (m+1) aJ)) cb s aI bb vg aU yb zb (.slice (some ⟨g,0,none⟩) (m+1) aJ) (λ j=>if j=m then w.heap.size else hbk j) c0 (m+1):=by
 have b0:=h.hb;have bM:=C.size;simp at bM;have I:∀k,vh.ownBlock=some k->cb<k/\k<w.heap.size:=λ k D=>by have:=h.rh.lt k D;omega
 have F:∀k,k<w.heap.size->vh.ownBlock≠some k->w4.heap[k]?=w.heap[k]? :=λ k D hv=>((C.block k (by simp;omega) (λ e=>hv e.symm)).trans (MA _ o k (by simp;omega))).trans (MA w _ k D)
 have Q:w4.heap[w.heap.size]?=some (.cells (QU #[.bool false] J) V (0,0)):=((C.block _ (by simp;omega) (λ e=>by have:=I _ e.symm;omega)).trans (MA _ o _ (by simp))).trans (QV w _);have aW:vh.ownBlock≠some cb:=λ e=>by have:=I cb e;omega
 have bC:Below cb w w4:=⟨C.os,C.tape,C.output,by omega,λ k D=>F k (by omega) (λ e=>by have:=I k e;omega)⟩
 have cc:∀i,w4.cell? ⟨cb,i,none⟩=w.cell? ⟨cb,i,none⟩:=λ i=>LC (w:=w) (a:=⟨cb,i,none⟩) (F cb b0 aW)
 have cf:∀i,w4.frozen? ⟨cb,i,none⟩=w.frozen? ⟨cb,i,none⟩:=λ i=>LP (w:=w) (a:=⟨cb,i,none⟩) (F cb b0 aW)
 have aR:∀j u,(nS (.slice (some ⟨bb,0,none⟩) (iR s) (iR s)) (gP s) (.slice (some ⟨vg,0,none⟩) (iM s) aU))[j]?=some u->j<258:=λ j u X=>by
  have:=(LI.1 X).1;rw[nY _ _ _ (by unfold gP;rw[lQ];rfl)]at this;exact this
 have Y:∀j u,j≠263->w.cell? ⟨cb,j,none⟩=some u->(w4.setCell ⟨cb,263,none⟩ (.slice (some ⟨g,0,none⟩) (m+1) aJ)).cell? ⟨cb,j,none⟩=some u:=λ j u hj X=>by
  rw[LD (h:=by intro e;injection e;omega),cc];exact X
 have bK:∀k,k<w.heap.size->vh.ownBlock≠some k->(MY (some ⟨g,0,none⟩) (m+1) aJ).ownBlock≠some k:=λ k D hv e=>by
  have e':g=k:=by simpa[MG]using e
  subst e';rcases aO with h1|h1
  ·exact hv h1
  ·omega
 refine⟨(h.mem.below bC lR).below (tI lR) lR,λ j u X=>Y _ _ (by have:=aR j u X;omega) (h.im j u X),Y _ _ (by omega) h.k1,Y _ _ (by omega) h.k2,Y _ _ (by omega) h.k3,Y _ _ (by omega) h.k4,Y _ _ (by omega) h.k5,
  LH (u:=vh) _ _ _ ((cc 263).trans h.k6),λ i=>by rw[LG,cf];exact h.fz i,?_,λ j k hj D=>?_,by simp[LN];omega,λ j hj=>?_,λ i j hi hj he=>?_⟩
 ·have e:Pj s aI (λ j=>if j=m then w.heap.size else hbk j) (m+1)=Pj s aI hbk m++[.slice (some ⟨w.heap.size,0,none⟩) J J]:=by
   unfold Pj;rw[PK,OE,PW];congr 1
   ·refine MN (λ j hj=>?_);simp only;rw[aA (by have:=OS.1 hj;omega)]
   ·simp only[aB];rw[aL]
  rw[e];exact QN aT (OB _) _
 ·by_cases e:j=m
  ·subst e;rw[aB rfl];rw[aL]at D;refine⟨?_,?_⟩
   ·rw[LD (h:=by intro e;injection e;omega)];unfold World.cell?;simp only[Q];exact Md J k D
   ·rw[LG];unfold World.frozen?;simp only[Q];simp
  ·rw[aA e];have U:j<m:=by omega
   have b:=h.b2 j U;have bq:=F _ b.2.1 b.2.2;refine⟨?_,?_⟩
   ·rw[LD (h:=by intro e;injection e;omega),LC (w:=w) (a:=⟨hbk j,k,none⟩) bq];exact(h.tb j k U D).1
   ·rw[LG,LP (w:=w) (a:=⟨hbk j,k,none⟩) bq];exact(h.tb j k U D).2
 ·by_cases e:j=m
  ·subst e;simp only[aB];refine⟨b0,by simp[LN];omega,λ e'=>?_⟩;have Z:g=w.heap.size:=by simpa[MG]using e'
   rcases aO with h1|h1
   ·have:=I g h1;omega
   ·omega
  ·simp only[aA e];have b:=h.b2 j (by omega);exact⟨b.1,by simp[LN];omega,bK _ b.2.1 b.2.2⟩
 ·by_cases V:i=m
  ·by_cases Z:j=m
   ·omega
   ·simp only[aB V,aA Z]at he;have:=(h.b2 j (by omega)).2.1;omega
  ·by_cases Z:j=m
   ·simp only[aA V,aB Z]at he;have:=(h.b2 i (by omega)).2.1;omega
   ·simp only[aA V,aA Z]at he;exact h.bi i j (by omega) (by omega) he
theorem Zh.drew(h:Zh w cb s aI bb vg aU yb zb vh hbk c0 m):Zh w.drew cb s aI bb vg aU yb zb vh hbk c0 m:=⟨h.mem.drewN 1,h.im,h.k1,h.k2,h.k3,h.k4,h.k5,h.k6,h.fz,h.rh,h.tb,h.hb,h.b2,h.bi⟩
theorem Zh.done(h:Zh w cb s aI bb vg aU yb zb vh hbk c0 (iM s))(X:1<=iM s):∃hg bH,CW w cb w.heap.size s aI bb vg aU yb zb (.slice none 0 0) hg bH hbk (λ _ _=>false) c0 0 0 []:=by
 have D:=h.rh.lt;have F:=h.rh;obtain⟨g,aJ,V,J,Q⟩:=h.rh.form (by omega);have C:=h.k6;have o:=h.b2;rw[V]at D F C o;refine⟨g,aJ,h.mem,h.im,h.k1,h.k2,h.k3,h.k4,h.k5,C,h.fz,LS _ _ _ _,λ j I=>?_,h.tb,h.hb,?_,λ j I=>?_,h.bi,λ k U=>?_,lR⟩
 ·have:=nV F j (.slice (some ⟨hbk j,0,none⟩) (rA s j*aI.size) (rA s j*aI.size)) (by unfold Pj;rw[MC,MM I];rfl);rw[LM]at this;exact this
 ·have:=D g rfl;omega
 ·have b:=o j I;refine⟨b.1,b.2.1,λ e=>b.2.2 ?_⟩;rw[e];rfl
 ·cases U
theorem s7(s aI:tB):J7 s aI [] (λ _ _=>false):=λ _ _ _ _ _ _=>by simp[sV]
end
section
theorem fH:(Tryz.prog.info? 4).map (λ i=>(i.zero,i.size,i.bytes))=some (some (.bool false),1,1):=by kernel_rfl
theorem eI:(Tryz.prog.info? 80).map (λ i=>(i.zero,i.size,i.bytes))=some (some (.slice none 0 0),1,24):=by kernel_rfl
def Wk:tV->Nat
 | .int _ z=>z.toNat
 | _=>0
def IP(v:tV):Prop:=∃z:Nat,v=.int .i64 (z:Int)/\z<=30000
theorem dR{d:Option Tmp}{p:String}{o:Array Edge}{X:tW}{K:Act->tW->Prop}{Q:Exit->Act->tW->Prop}
  (h:IP (a.eval x)):
  Oper.wp LK {dst:=d,op:= .makeSlice 80 x x,type:=ty,pos:=p,after:=o,guard:=gd} a X K Q=K (a.put d (.slice (some ⟨X.heap.size,0,none⟩) (Wk (a.eval x)) (Wk (a.eval x)))) (X.alloc (.cells (QU #[.bool false] (Wk (a.eval x))) 4)):=by
 obtain⟨z,D,F⟩:=h;have C:=run_make_row' (P:=LK) 80 4 (.bool false) 1 underlying80 fH rfl .i64 .i64 z (by omega) (by omega) X;unfold Oper.wp execOp;simp only[D,Sem.run_bind,C,Result.andThen_ok,Wk,Int.toNat_natCast]
 rfl
theorem uX:∀(vs:List tV)(o:Nat)(w:tW)(b:Nat)(a:Addr),(w.setCells b o vs).frozen? a=w.frozen? a:=by
 intro vs
 induction vs with
 | nil=>intro o w b a;rfl
 | cons v r ih=>intro o w b a;exact(ih (o+1) _ b a).trans (LG _ _ _ _)
theorem Ev{a w:tW}(h:Below B a w):Below B a w.drew:=⟨h.os,h.tape,h.output,h.size,h.block⟩
def IV(w:tW)(s aI:tB)(c0:Nat)(e:Ending)(w':tW):Prop:=
 ∃vt,e=.returned (.tuple #[vt,.int .i64 ((pY s aI c0).2.1:Nat),.int .i64 ((pY s aI c0).2.2:Nat)])/\w'.ownsRow (w.heap.size+1+1) 79 3 vt (pY s aI c0).1.length (hZ (pY s aI c0).1)/\Bl w w'
attribute [local go_sem ↓] Go.wp_at_zero Go.wp_at_succ dR
theorem Ku(s aI:tB)(c0 bb vg aU:Nat)(yb:Nat->Nat)(zb:Nat->Nat->Nat)(A:Array tV)(w:tW)(hi:iF s=true)(A2:aI.size<=300)(M2:c0<iM s)
  (hA:A.toList=nS (.slice (some ⟨bb,0,none⟩) (iR s) (iR s)) (gP s) (.slice (some ⟨vg,0,none⟩) (iM s) aU)) (hm:IM w s bb vg yb zb w.heap.size):
  RA LK 25 #[.agg A,.int .i64 (c0:Int),.string aI] w λ e w'=>IV w s aI c0 e w':=by
 have eR:=nY (.slice (some ⟨bb,0,none⟩) (iR s) (iR s)) (gP s) (.slice (some ⟨vg,0,none⟩) (iM s) aU) (by unfold gP;rw[lQ];rfl);have cN:=yJ (vb:= .slice (some ⟨bb,0,none⟩) (iR s) (iR s)) (vc:= .slice (some ⟨vg,0,none⟩) (iM s) aU) (cs:=gP s) rfl rfl;have hD:A.size=258:=by rw[<-LU,hA];exact eR
 have nN:A.all (·.oneCell')=true:=by
  rw[<-hA]at cN;have:=QS cN;simpa using this
 obtain⟨C,tT,hE,tL,qL,qR,rL,rO,rT,sR,sW⟩:=Vo A hD nN aI (c0:Int);have gL:QP ((w.alloc (.cells A 72)).rangeAt w.heap.size 0 A.toList):=mE w A _;have HT:=fV (iD (w.alloc (.cells A 72)) LY 141 (w.heap.size+1) 264 dC (by simp));have eX:QP (Below (w.heap.size+1) (w.alloc (.cells A 72)) (((w.alloc (.cells A 72)).alloc (.cells LY 141)).setCells (w.heap.size+1) 0 C.toList)):=
  fX _ 0 _ (w.heap.size+1) (bR.alloc (by simp) _) lR
 have eT:QP (Bl w (((w.alloc (.cells A 72)).alloc (.cells LY 141)).setCells (w.heap.size+1) 0 C.toList)):=
  ((MZ w.heap.size w).alloc lR _).trans (eX.o.mono (by omega))
 have iN:QP ((((w.alloc (.cells A 72)).alloc (.cells LY 141)).setCells (w.heap.size+1) 0 C.toList).rangeAt (w.heap.size+1) 0 C.toList):=
  LZ _ _ _ _ (by rw[LU,hE];exact HT.o)
 have H3:QP ((((w.alloc (.cells A 72)).alloc (.cells LY 141)).setCells (w.heap.size+1) 0 C.toList).there (w.heap.size+1) 0 264):=OM HT.o _ _ _;have hR:QP ((((w.alloc (.cells A 72)).alloc (.cells LY 141)).setCells (w.heap.size+1) 0 C.toList).cell? ⟨w.heap.size,257,none⟩=some (.slice (some ⟨vg,0,none⟩) (iM s) aU)):=by
  unfold QP;rw[eX.o.cell (p:=⟨w.heap.size,257,none⟩) (OB _)];have:=gL.o 257 (.slice (some ⟨vg,0,none⟩) (iM s) aU) (by rw[hA];exact yI _ _ _ (by unfold gP;rw[lQ];rfl));rw[LM]at this;exact this
 have nL:QP (w.heap.size+1<(((w.alloc (.cells A 72)).alloc (.cells LY 141)).setCells (w.heap.size+1) 0 C.toList).heap.size):=by
  unfold QP;have:=(fX C.toList 0 ((w.alloc (.cells A 72)).alloc (.cells LY 141)) (w.heap.size+1) (MZ 0 _) zL).size;simp at this;omega
 have hP:=fV tT;have lH:=fV hD;have hC:=fV hE;have hY:=fV tL;have hS:QP ((∀k,k<258->C[k]?=A[k]?)/\C[258]?=some (.string aI)/\C[259]?=some (.int .i64 (c0:Int))/\C[260]?=some (.int .i64 0)/\C[261]?=some (.int .i64 0)/\C[262]?=some (.slice none 0 0)/\C[263]?=some (.slice none 0 0)):=⟨qL,qR,rL,rO,rT,sR,sW⟩
 have hN:QP (A.toList.toArray=A):=by unfold QP;simp
 have HM:=fV hm;have HI:=fV hi;have HA:=fV hA;clear tT hD hE tL qL qR rL rO rT sR sW eR cN nN hm hi hA;go_enter func25,ntmps25;go_upto_region 2 with(first
  | (refine wpList_boxTo rfl 72 (.tmp 0) rfl _ rfl w.heap.size rfl A rfl ?_)
  | (refine QQ rfl 72 (.tmp 3) rfl w.heap.size 0 rfl A.toList _ gL.o MO rfl ?_ ?_;(rw[LU,lH.o];exact bP);rw[hN.o])
  | (refine wpList_buildTo rfl 141 _ rfl _ rfl C ?_ ?_;(simp only[OZ,NR,PY];exact hP.o))
  | (refine QR rfl 141 (.tmp 9) (.tmp 17) rfl (w.heap.size+1) 0 C rfl rfl ?_ ?_ hY.o ?_;(rw[hC.o];exact HT.o);(rw[hC.o];exact fP)))
 have hW:QP (∀i,(((w.alloc (.cells A 72)).alloc (.cells LY 141)).setCells (w.heap.size+1) 0 C.toList).frozen? ⟨w.heap.size+1,i,none⟩=false):=λ i=>by
  rw[uX];have e:w.heap.size+1=(w.alloc (.cells A 72)).heap.size:=by simp
  rw[e,MJ]
 generalize ((w.alloc (.cells A 72)).alloc (.cells LY 141)).setCells (w.heap.size+1) 0 C.toList=W0 at*;have U:∀k v,C[k]?=some v->W0.cell? ⟨w.heap.size+1,k,none⟩=some v:=λ k v hk=>by
  have:=iN.o k v (by simpa using hk);rw[LM]at this;exact this
 have hQ:QP (Zh W0 (w.heap.size+1) s aI bb vg aU yb zb (.slice none 0 0) (λ _=>0) c0 0):=by
  obtain⟨h0,h1,h2,h3,h4,h5,h6⟩:=hS.o;refine⟨(HM.o.below eT.o lR).mono (NJ _),λ j u hu=>?_,U _ _ h1,U _ _ h2,U _ _ h3,U _ _ h4,U _ _ h5,U _ _ h6,hW.o,LS _ _ _ _,λ j k hj=>by omega,nL.o,λ j hj=>by omega,λ i j hi=>by omega⟩;have hj:j<258:=by
   have:=(LI.1 hu).1;rw[nY _ _ _ (by unfold gP;rw[lQ];rfl)]at this;exact this
  rw[LM];refine U j u ((h0 j hj).trans ?_);rw[<-HA.o]at hu;simpa using hu
 have hM:=(kZ HI.o).2.2;obtain⟨M,EM⟩:=xE (iM s)
 have eO:=hR.o;rw[EM]at eO hM M2;have H5:1<=M/\M<=4:=⟨hM.1,hM.2.1⟩
 replace EM:=fV EM;clear hM U iN H3 hW hS hP hY hC lH hN HA HT eX gL hR nL;go_wp2_with fail;clear eO
 go_loopw [21] (λ x wr=>∃(m:Nat)(vh:tV)(hbk:Nat->Nat),x=.int .i64 (m:Int)/\m<=M/\Zh wr (w.heap.size+1) s aI bb vg aU yb zb vh hbk c0 m/\Bl w wr) (λ x _=>M-(QO x).toNat)
 case atStart=>exact⟨0,_,_,rfl,zL,hQ.o,eT.o⟩
 case round=>
  obtain⟨m,vh,hbk,rfl,S2,V,hb⟩:=hrel;have D:=fV V;have aW:=fV hb;clear V hb hQ eT;by_cases bM:m<M
  ·have hI:m<iM s:=by rw[EM.o];exact bM
   have m1:=D.o.mem.co m hI;have A3:=K5 HI.o hI;obtain⟨N,EN⟩:=xE (rA s m)
   rw[EN]at m1 A3;obtain⟨Q,bN⟩:=xE (N*aI.size)
   have L1:Q<=30000:=by rw[<-bN];have:=NH A3.1 A2;omega
   have H6:(N:Int)*(aI.size:Int)=(Q:Int):=by rw[<-bN];simp
   have T3:IntKind.i64.wrap ((N:Int)*(aI.size:Int))=(Q:Int):=by rw[H6];exact IntWalk.i64_in _ (by omega)
   have O8:IntKind.i64.wrap (Q:Int)=(Q:Int):=IntWalk.i64_in _ (by omega);have hX:QP (rA s m*aI.size=Q):=by unfold QP;rw[EN,bN]
   replace EN:=fV EN;replace bN:=fV bN;obtain⟨va,aR,hv⟩:=gA D.o.rh;subst hv;have k6:=D.o.k6;have f6:=D.o.fz 263;have hF:=D.o.hb;have S5:IP (.int .i64 (Q:Int)):=⟨Q,rfl,L1⟩
   have N1:Wk (.int .i64 (Q:Int))=Q:=by simp[Wk]
   have P0:=iI m M (by omega)
   clear hI;have hd:=dT m M (by omega)
   go_wp2_with fail;have x1:(wr.alloc (.cells (QU #[.bool false] Q) 4)).cell? ⟨w.heap.size+1,263,none⟩=some (.slice va m aR):=(LC (w:=wr) (a:=⟨w.heap.size+1,263,none⟩) (MA _ _ _ hF)).trans k6;have x2:((wr.alloc (.cells (QU #[.bool false] Q) 4)).alloc (.cells #[.slice (some ⟨wr.heap.size,0,none⟩) Q Q] 80)).cell? ⟨w.heap.size+1,263,none⟩=some (.slice va m aR):=(LC (w:=wr) (a:=⟨w.heap.size+1,263,none⟩) ((MA _ _ _ (by simp;omega)).trans (MA _ _ _ hF))).trans k6;have B1:∀q,(MY va m aR).ownBlock=some q->w.heap.size+2<=q/\q<wr.heap.size:=λ q hq=>D.o.rh.lt q hq
   go_region_law ((refine sG (wr.drew.alloc (.cells (QU #[.bool false] Q) 4)) rfl (.tmp 26) (.tmp 33) 129 rfl (w.heap.size+1+1) 80 (.slice none 0 0) 1 24 underlying129 eI rfl (by decide) (by decide) _ m (Pj s aI hbk m) [.slice (some ⟨wr.heap.size,0,none⟩) Q Q] _ (by simp[Act.eval]) (D.o.rh.drew.alloc _) (wr.heap.size+1) (by simp) (by simp[Act.eval]) rfl (by simp[MF]) (by omega) (by simp;omega) ?_;intro g4 cap4 w4 hJ I tO O3;have e4:w4.heap[w.heap.size+1]?=wr.heap[w.heap.size+1]? :=((I.block (w.heap.size+1) (by simp;omega) (λ e=>by have:=B1 _ e.symm;omega)).trans (MA _ _ _ (by simp;omega))).trans (MA _ _ _ hF);have m3:=(LC (w:=wr) (a:=⟨w.heap.size+1,263,none⟩) e4).trans k6;have n3:=(LP (w:=wr) (a:=⟨w.heap.size+1,263,none⟩) e4).trans f6;have H2:=fV (D.o.drew.more hX.o hJ I (tO.imp id (λ h=>h.trans (by simp))));have B2:QP (Bl w w4):=(((Ev aW.o).alloc (by have:=aW.o.size;show w.heap.size<=wr.heap.size;omega) _).alloc (by have:=aW.o.size;simp;omega) _).grown I (by have:=aW.o.size;simp;omega) (λ q hq=>by have:=B1 q hq;omega)))
   all_goals
    go_wp2;go_roundw
    case rel=>exact⟨m+1,_,_,by go_num,bM,H2.o,B2.o.setCell (p:=⟨w.heap.size+1,263,none⟩) (NJ _) _⟩
    case measure=>simp[QO];omega
  ·have e:m=M:=by omega
   subst e;have hd:=dF m m (by omega)
   obtain⟨hg,bH,V⟩:=Zh.done (by rw[EM.o];exact D.o) (by rw[EM.o];exact H5.1);have hU:=fV V;clear V D;go_wp2_with fail
   go_loopg [12] (aI.size+1) (λ gk _ wr=>∃(p c n:Nat)(H T:List (Int×Int×Int)) (HT:Nat->Nat->Bool) (vt:tV),p<=aI.size/\aI.size-p<gk/\c<m/\n<=p*300/\T.length<=p/\pY s aI c0=yP s aI gk p c H n T/\
    CW wr (w.heap.size+1) wr.heap.size s aI bb vg aU yb zb vt hg bH hbk HT c p n T/\J7 s aI H HT/\yW s aI H/\Bl w wr)
   case atStart=>exact⟨0,c0,0,[],[],λ _ _=>false,.slice none 0 0,zL,by omega,by omega,by omega,by simp,rfl,hU.o,s7 _ _,λ _ _ _ h=>absurd h (OJ),aW.o⟩
   case round=>
    obtain⟨p,c,n,H,T,HT,vt,hp,O9,hc,hn,hT,eS,V,A1,cF,hb⟩:=hrel;have hB:=fV eS;have J:=fV V;have E6:=fV A1;have hV:=fV cF;have F:=fV hb;clear eS V A1 cF hb hU aW;have k3:=J.o.k3;by_cases bM:p<aI.size
    ·have A0:c<iM s:=by rw[EM.o];exact hc
     have bK:=Vh s aI (w.heap.size+1) bb vg aU yb zb vt hg bH hbk HT c p n H T wr HI.o A2 hp A0 (by omega) E6.o J.o;have Z:=Qf (c:=c) hV.o hp;have hH:=Wo (c:=c) hV.o hp;have N1:= @P7 s aI c p H;have hG:=yK HI.o A0 hp (aI:=aI);obtain⟨f,rfl⟩:∃f,gk=f+1:=⟨gk-1,by omega⟩
     have cP:= @wB s aI f p c n H T bM;have eL:=λ r q=> @wC s aI f p c n r q H T bM
     unfold Ss at bK;generalize iE s aI c H p=SF at*;obtain⟨SL,kk⟩:=SF;generalize nZ s aI c H (aI.size-p) 0 p none=best at*;simp only at*;have N0:decide ((p:Int)<(aI.size:Int))=true:=by simp;omega
     have H1:=fV hH
     cases best with
     | none=>
      simp only at Z;have HE:QP (pY s aI c0=(T++[(-1,(p:Int),(p:Int))],n+kk,c)):=hB.o.trans (cP Z);clear Z hH hG cP eL;go_wp2_with fail;refine bK.mono ?_;rintro e w1 ⟨rfl,bS,eM,X,aT⟩;have bC:=fV X;have bO:=fV (F.o.trans (bS.mono (NJ _)));clear X aT bS bK k3 J F;have k3:=bC.o.k3;go_wp2_with fail;refine(T7 s aI (w.heap.size+1) bb vg aU yb zb vt hg bH hbk eM c p (n+kk) T (-1) (p:Int) _ (by omega) bC.o).mono ?_;rintro e w2 ⟨rfl,bT,hL,Y⟩;have aO:=fV Y;have aL:=fV (bO.o.trans (bT.mono (NJ _)));clear Y bT bC bO k3;have k2:=aO.o.k2;have k4:=aO.o.k4;have k5:=aO.o.k5;go_wp2;go_quiet (fail);go_wp2;go_ret3;refine⟨hL,by rw[HE.o];rfl,by rw[HE.o];exact aO.o.rt,⟨aL.o.os,aL.o.tape,aL.o.output,aL.o.size,aL.o.block⟩⟩
     | some x=>
      obtain⟨r,q⟩:=x;simp only at Z;have hx:r<iR s/\p<q/\q<=aI.size:=by
       rcases hG with h1|⟨r',q',h1,h2,h3,h4⟩
       ·rw[Z]at h1;injection h1 with h1 _;omega
       ·rw[Z]at h1;injection h1 with h5 h6;have h7:r=r':=by omega
        rw[h7,h6];exact⟨h2,h3,h4⟩
      have HE:=fV (hB.o.trans (eL r q Z));have O0:=vX HI.o hx.1;rw[EM.o]at O0;clear Z hH hG cP eL;obtain⟨tk,eN⟩:∃tk:Nat,tk=Nt (some (r,q)):=⟨_,rfl⟩
      obtain⟨tq,hK⟩:∃tq:Nat,tq=KR p (some (r,q)):=⟨_,rfl⟩
      rw[<-eN,<-hK]at bK;have O6:(tk:Int)-1=(r:Int):=by rw[eN];simp[Nt]
      have O5:((tk:Int)==0)=false:=by rw[aC,eN];simp only[Nt];omega
      have H4:QP (tq=q):=hK;have T2:r<=8:=by have:=(kZ HI.o).1;omega
      clear eN hK;have O7:tk<=9:=by omega
      go_wp2_with fail;refine bK.mono ?_;rintro e w1 ⟨rfl,bS,eM,X,aT⟩;have bC:=fV X;have H0:=fV aT;have bO:=fV (F.o.trans (bS.mono (NJ _)));clear X aT bS bK k3 J F;go_wp2_with fail;refine(Vl s aI (w.heap.size+1) bb vg aU yb zb vt hg bH hbk eM c p (n+kk) T r tq _ HI.o hx.1 (by omega) bC.o).mono ?_;rintro e w2 ⟨rfl,bT,hL,Y⟩;have aO:=fV Y;have aL:=fV (bO.o.trans (bT.mono (NJ _)));clear Y bT bC bO;rw[H4.o]at aO;go_wp2;go_roundg f
      case measure=>omega
      case rel=>
       refine⟨q,_,_,_,_,eM,hL,hx.2.2,by omega,?_,?_,?_,HE.o,aO.o,H0.o,H1.o,aL.o⟩
       ·split<;>omega
       ·omega
       ·split
        ·omega
        ·simp;omega
    ·have HE:QP (pY s aI c0=(T,n,c)):=by
      obtain⟨f,rfl⟩:∃f,gk=f+1:=⟨gk-1,by omega⟩
      exact hB.o.trans (yQ bM)
     have N0:decide ((p:Int)<(aI.size:Int))=false:=by simp;omega
     have k2:=J.o.k2;have k4:=J.o.k4;have k5:=J.o.k5;go_wp2;go_quiet (fail);go_wp2;go_ret3;refine⟨vt,by rw[HE.o];rfl,by rw[HE.o];exact J.o.rt,⟨F.o.os,F.o.tape,F.o.output,F.o.size,F.o.block⟩⟩
end
structure CT(w:tW)(cb lo:Nat)(s:tB)(c bb vg aU:Nat)(yb:Nat->Nat)(zb:Nat->Nat->Nat):Prop where
 ok:iF s=true
 sz:s.size<=120000
 hc:c<iM s
 mem:IM w s bb vg yb zb cb
 il:KW s bb vg yb zb lo
 im:w.rangeAt cb 0 (nS (.slice (some ⟨bb,0,none⟩) (iR s) (iR s)) (gP s) (.slice (some ⟨vg,0,none⟩) (iM s) aU))
 k1:w.cell? ⟨cb,258,none⟩=some (.int .i64 c)
 fz:∀i,w.frozen? ⟨cb,i,none⟩=false
 b0:cb<w.heap.size
 b1:lo<=cb
theorem CT.blocks{w w':tW}{s:tB}{yb:Nat->Nat}{zb:Nat->Nat->Nat}(h:CT w cb lo s c bb vg aU yb zb)(o:∀k,lo<=k->k<=cb->w'.heap[k]?=w.heap[k]?)(I:w.heap.size<=w'.heap.size):CT w' cb lo s c bb vg aU yb zb:=
 ⟨h.ok,h.sz,h.hc,h.mem.blocks h.il (λ k C D=>o k C (MU D)),h.il,λ j v F=>(LC (w:=w) (a:=⟨cb,0+j,none⟩) (o cb h.b1 lR)).trans (h.im j v F),
  (LC (w:=w) (a:=⟨cb,258,none⟩) (o cb h.b1 lR)).trans h.k1,λ i=>(LP (w:=w) (a:=⟨cb,i,none⟩) (o cb h.b1 lR)).trans (h.fz i),LJ h.b0 I,h.b1⟩
theorem fO:((Tryz.prog.info? 154).map (·.zero))=some (some (.agg NW)):=by kernel_rfl
theorem dM:Tryz.zeroCells154.size=259:=by kernel_rfl
theorem dN:NW[258]?=some (.int .i64 0):=by kernel_rfl
theorem dU:Tryz.zeroCells154.all (·.oneCell')=true:=by kernel_rfl
theorem eF:(match Tryz.prog.underlying 154 with
  | some (.struct fs)=>fs.toList.mapM (λ f=>(Tryz.prog.info? f.type).map λ i=>(f.offset,i.size))
  | _=>none)=some [(0,258),(258,1)]:=by kernel_rfl
theorem fB(bA:List (Nat×tV)):Tryz.prog.built 154 bA=Instr.fill ([(0,258),(258,1)].toArray[·]?) NW bA:=by
 have C:=fO;have o:=eF;generalize NW=Z at*;unfold Program.built
 cases hi:Tryz.prog.info? 154 with
 | none=>rw[hi]at C;cases C
 | some it=>
  rw[hi]at C;have D:it.zero=some (.agg Z):=by simpa using C
  cases hu:Tryz.prog.underlying 154 with
  | none=>rw[hu]at o;cases o
  | some d=>
   rw[hu]at o
   cases d with
   | struct fs=>
    simp only at o;simp only[D,o,PU]
   | _=>cases o
theorem Vm(A:Array tV)(Q:A.size=258)(o:A.all (·.oneCell')=true):∃C:Array tV,Tryz.prog.built 154 [(0,.agg A)]=some C/\C.size=259/\C.all (·.oneCell')=true/\
  (∀k,k<258->C[k]?=A[k]?)/\C[258]?=some (.int .i64 0):=by
 have I:=dM;have V:=dN;have U:=dU;rw[fB];generalize NW=Z at*;obtain⟨X,F⟩:=P1 0 A Z;refine⟨A.zipIdx.foldl (λ cs x=>cs.setIfInBounds (0+x.2) x.1) Z,?_,by rw[X,I],?_,λ k Y=>?_,?_⟩
 ·have J:(QM A).cells=A:=rfl;unfold Instr.fill;simp only[PO,NN,J,Q,I];rw[aA (by decide)];unfold Instr.fill
  rfl
 ·rw[OX];intro i hi;have D:=OV hi;rw[F]at D;generalize (A.zipIdx.foldl (λ cs x=>cs.setIfInBounds (0+x.2) x.1) Z)[i]=u at*;split at D
  ·exact E2 o D
  ·exact E2 U D
 ·rw[F,aB (by omega)];rfl
 ·rw[F,aA (by omega)];exact V
def DG(w:tW)(s:tB)(e:Ending)(w':tW):Prop:=
 Bl w w'/\((¬(s.size<=120000/\iF s=true)/\e=.returned (.tuple #[.pointer none,.int .i64 (G5 s)]))\/(s.size<=120000/\iF s=true/\
  ∃(cb bb vg aU:Nat)(yb:Nat->Nat)(zb:Nat->Nat->Nat),e=.returned (.tuple #[.pointer (some ⟨cb,0,none⟩),.int .i64 0])/\CT w' cb w.heap.size s 0 bb vg aU yb zb))
theorem Gy(s:tB)(w:tW):
  RA LK 90 #[.string s] w λ e w'=>DG w s e w':=by
 go_enter func90,ntmps90;go_wp2_with fail;refine(F0 s _).mono ?_;by_cases D:s.size<=120000/\iF s=true
 ·rintro e w1 ⟨V,⟨gL,_⟩|⟨_,hi,bb,vc,ys,rfl,hn,ho,hm,hc,hk⟩⟩
  ·exact absurd D gL
  obtain⟨vg,aJ,yb,zb,rfl,eL,cP⟩:=Mr hi hn ho hm hc hk;have X:=nY (.slice (some ⟨bb,0,none⟩) (jU s) (jU s)) (gP s) (.slice (some ⟨vg,0,none⟩) (iM s) aJ) (by unfold gP;rw[lQ];rfl);have Y:=yJ (vb:= .slice (some ⟨bb,0,none⟩) (jU s) (jU s)) (vc:= .slice (some ⟨vg,0,none⟩) (iM s) aJ) (cs:=gP s) rfl rfl;obtain⟨IL,aR⟩:=xE (nS (.slice (some ⟨bb,0,none⟩) (jU s) (jU s)) (gP s) (.slice (some ⟨vg,0,none⟩) (iM s) aJ))
  rw[aR]at X Y ⊢;have aT:QP (IL.toArray.toList=IL):=by unfold QP;simp
  have J:QP (IL.toArray.size=258):=by unfold QP;simpa using X
  have Q:QP (IL.toArray.all (·.oneCell')=true):=QS Y;obtain⟨A,EA⟩:=xE (IL.toArray)
  rw[EA]at aT J Q ⊢;have HA:QP (A.toList=nS (.slice (some ⟨bb,0,none⟩) (iR s) (iR s)) (gP s) (.slice (some ⟨vg,0,none⟩) (iM s) aJ)):=by
   unfold QP;rw[aT.o,<-aR,(B4 hi).ru]
  have bK:=fV eL;have eR:=fV cP;have HI:=fV hi;have F:=fV V;have aL:=fV D;obtain⟨C,cN,bT,bS,bN,bO⟩:=Vm A J.o Q.o;have eM:=fV cN;have hB:=fV bT;have hA:=fV bS;clear aR X Y EA aT eL hi V hn ho hm hc D cP hk cN bT bS;have Z:=fV (iD w1 LF 72 w1.heap.size 258 bL rfl);have I:QP (Bl w1 ((w1.alloc (.cells LF 72)).setCells w1.heap.size 0 A.toList)):=fX _ 0 _ w1.heap.size (bR.alloc lR _) lR;have eT:QP (((w1.alloc (.cells LF 72)).setCells w1.heap.size 0 A.toList).rangeAt w1.heap.size 0 A.toList):=LZ _ _ _ _ (by rw[LU,J.o];exact Z.o);have bM:QP (IM ((w1.alloc (.cells LF 72)).setCells w1.heap.size 0 A.toList) s bb vg yb zb ((w1.alloc (.cells LF 72)).setCells w1.heap.size 0 A.toList).heap.size):=(bK.o.below I.o lR).mono I.o.size;have bC:QP (Bl w ((w1.alloc (.cells LF 72)).setCells w1.heap.size 0 A.toList)):=F.o.trans (I.o.mono F.o.size);generalize aW:(w1.alloc (.cells LF 72)).setCells w1.heap.size 0 A.toList=w2 at*;replace aW:=fV aW;clear bK F I;have eN:=fV bN;have eO:=fV bO;clear bN bO;go_wp2_with (first
   | (refine QR rfl 72 (.tmp 4) (.tmp 9) rfl w1.heap.size 0 A rfl rfl ?_ ?_ Q.o ?_;(rw[J.o];exact Z.o);(rw[J.o];exact bP);rw[aW.o])
   | (refine QQ rfl 72 (.tmp 4) rfl w1.heap.size 0 rfl A.toList _ eT.o MO rfl ?_ ?_;(rw[LU,J.o];exact bP);rw[Array.toArray_toList])
   | (refine wpList_buildTo rfl 154 _ rfl _ rfl C ?_ ?_;(simp only[OZ,NR,PY];exact eM.o))
   | (refine wpList_boxTo rfl 154 (.tmp 15) rfl _ rfl w2.heap.size rfl C rfl ?_)
   | fail)
  go_ret2;have hr:=mE w2 C 154;have cF:Bl w2 (w2.alloc (.cells C 154)):=bR.alloc lR _;have hz:=bC.o.size;have U:∀k v,C[k]?=some v->(w2.alloc (.cells C 154)).cell? ⟨w2.heap.size,k,none⟩=some v:=λ k v hv=>by
   have:=hr k v (by simpa using hv);rw[LM]at this;exact this
  refine⟨bC.o.trans (cF.mono hz),.inr ⟨aL.o.1,aL.o.2,w2.heap.size,bb,vg,aJ,yb,zb,rfl,aL.o.2,aL.o.1,(kZ HI.o).2.2.1,bM.o.below cF lR,eR.o,?_,U _ _ eO.o,λ i=>by rw[MJ],by simp,hz⟩⟩;intro j u hu;have hj:j<258:=by
   have:=(LI.1 hu).1;rw[nY _ _ _ (by unfold gP;rw[lQ];rfl)]at this;exact this
  rw[LM];refine U j u ((eN.o j hj).trans ?_);rw[<-HA.o]at hu;simpa using hu
 ·have eX:((G5 s:Int) !=0)=true:=by
   rw[aD];unfold G5;by_cases h1:120000<s.size
   ·rw[aB h1];decide
   ·have h2:¬iF s=true:=λ h=>D ⟨by omega,h⟩
    rw[aA h1,aA h2];decide
  have eS:=fV D;rintro e w1 ⟨V,⟨_,rfl⟩|⟨h1,h2,_⟩⟩
  ·have F:=fV V;have Z:=fV (iD w1 LF 72 w1.heap.size 258 bL rfl);have I:QP (Bl w1 ((w1.alloc (.cells LF 72)).setCells w1.heap.size 0 Tryz.zeroCells72.toList)):=fX _ 0 _ w1.heap.size (bR.alloc lR _) lR;clear V D;obtain⟨ck,aO⟩:=xE (G5 s)
   rw[aO]at eX ⊢;replace aO:=fV aO;go_wp2_with (first
    | (refine QR rfl 72 (.tmp 4) (.tmp 9) rfl w1.heap.size 0 LF rfl rfl ?_ ?_ bZ ?_;(rw[bL];exact Z.o);(rw[bL];exact bP))
    | fail)
   go_ret2;exact⟨F.o.trans (I.o.mono F.o.size),.inl ⟨eS.o,by rw[aO.o];rfl⟩⟩
  ·exact absurd ⟨h1,h2⟩ D
theorem cI:(Tryz.prog.info? 234).map (λ i=>(i.zero,i.size,i.bytes))=some (some (.agg #[.int .i64 0,.int .i64 0,.int .i64 0]),3,24):=by kernel_rfl
theorem y7(s aI:tB)(B b g aJ c p cb aH n:Nat)(H T:List (Int×Int×Int))(vh vt:tV)(w:tW)(hi:iF s=true)(hs:s.size<=120000)(tT:aI.size<=300)(hp:p<=aI.size)(hc:c<iM s)
  (hH:H.length<=100000) (hn:n<=100000)
  (hw:sA w B b g aJ s) (hB:B<=cb) (hcut:jG w cb aH w.heap.size b aI c H n T vh vt):
  RA LK 119 #[.pointer (some ⟨cb,0,none⟩),.int .i64 p] w λ e w'=>
   e=.returned (.tuple #[])/\Below cb w w'/\∃rL,jG w' cb aH w'.heap.size b aI c (H++(iE s aI c H p).1) (n+(iE s aI c H p).2) T rL vt:=by
 have HL:QP (iE s aI c H p=pG s aI c H (aI.size-p) 0 p [] 0):=rfl;have hU:=hcut.hb;have sW:=hcut.hbt;go_enter func119,ntmps119;go_wp2_with fail
 go_loopw [4,5,6] (λ x y z wr=>∃(st i k:Nat)(S:List (Int×Int×Int)) (sv:tV),sv=y/\x=.int .i64 st/\z=.int .i64 i/\st<rA s c/\p<=i/\i<=aI.size/\k<=i-p/\S.length<=i-p/\
   iE s aI c H p=pG s aI c H (aI.size-i) st i S k/\(S=[]->sv=.slice none 0 0)/\wr.ownsRow w.heap.size 234 3 sv S.length (hZ S)/\
   jG wr cb aH w.heap.size b aI c H (n+k) T vh vt/\Below cb w wr)
  (λ _ _ z _=>aI.size-(QO z).toNat)
 case atStart=>exact⟨0,p,0,[],_,rfl,rfl,rfl,(K5 hi hc).2,lR,hp,by omega,by simp,HL.o,λ _=>rfl,LS _ _ _ _,hcut,bR⟩
 case round=>
  obtain⟨st,i,k,S,sv,rfl,rfl,rfl,hM,A0,tO,hk,hS,eL,eX,bO,I,bM⟩:=hrel;have HK:QP (iE s aI c H p=pG s aI c H (aI.size-i) st i S k):=eL;have HN:QP (S=[]->sv=.slice none 0 0):=eX;clear eL eX;have k1:=I.c1;have k2:=I.c2;have k3:=I.c3;have qL:=I.hz;by_cases hK:i<aI.size
  ·have bS:QP (jG (wr.alloc (.cells #[.int .i64 (c:Int),.int .i64 (st:Int),.int .i64 (i:Int)] 234)) cb aH w.heap.size b aI c H (n+k) T vh vt):=I.below (bR.alloc qL _);have eR:QP ((wr.alloc (.cells #[.int .i64 (c:Int),.int .i64 (st:Int),.int .i64 (i:Int)] 234)).ownsRow w.heap.size 234 3 sv S.length (hZ S)):=bO.alloc _;have eN:QP (Below cb w (wr.alloc (.cells #[.int .i64 (c:Int),.int .i64 (st:Int),.int .i64 (i:Int)] 234))):=bM.alloc (by omega) _;have g0:(wr.alloc (.cells #[.int .i64 (c:Int),.int .i64 (st:Int),.int .i64 (i:Int)] 234)).cell? ⟨wr.heap.size,0,none⟩=some (.int .i64 (c:Int)):=by rw[LO];rfl
   have g1:(wr.alloc (.cells #[.int .i64 (c:Int),.int .i64 (st:Int),.int .i64 (i:Int)] 234)).cell? ⟨wr.heap.size,1,none⟩=some (.int .i64 (st:Int)):=by rw[LO];rfl
   have g2:(wr.alloc (.cells #[.int .i64 (c:Int),.int .i64 (st:Int),.int .i64 (i:Int)] 234)).cell? ⟨wr.heap.size,2,none⟩=some (.int .i64 (i:Int)):=by rw[LO];rfl
   have gz:(wr.alloc (.cells #[.int .i64 (c:Int),.int .i64 (st:Int),.int .i64 (i:Int)] 234)).heap.size=wr.heap.size+1:=by simp
   go_wp2_with fail;generalize wr.alloc (.cells #[.int .i64 (c:Int),.int .i64 (st:Int),.int .i64 (i:Int)] 234)=W at*;clear k1 k2 k3 I bO bM;have k3:=bS.o.c3;have HR:QP (Zr W W.heap.size vh H):=mX bS.o.rh;have eT:cb<W.heap.size:=by omega
   have cF:wr.heap.size<W.heap.size:=by omega
   cases hkn:sV H ((c:Int),(st:Int),(i:Int))with
   | true=>
    go_region_held3 (λ w'=>w'.cell? ⟨cb,3,none⟩=some vh/\w'.cell? ⟨wr.heap.size,0,none⟩=some (.int .i64 (c:Int))/\w'.cell? ⟨wr.heap.size,1,none⟩=some (.int .i64 (st:Int))/\w'.cell? ⟨wr.heap.size,2,none⟩=some (.int .i64 (i:Int))) (go_keep)
     (first|(go_at_call 124;refine(Th H vh _ _ _ _ (by omega) ?_).mono ?_;exact⟨HR.o.sh⟩;rintro e w2 ⟨rfl,F⟩;replace F:=G8 F;have j3:=(F.cell (p:=⟨cb,3,none⟩) eT).trans k3;have j0:=(F.cell (p:=⟨wr.heap.size,0,none⟩) cF).trans g0;have j1:=(F.cell (p:=⟨wr.heap.size,1,none⟩) cF).trans g1;have j2:=(F.cell (p:=⟨wr.heap.size,2,none⟩) cF).trans g2))
    have HX:QP (iE s aI c H p=(S,k)):=by
     have e:aI.size-i=(aI.size-i-1)+1:=by omega
     unfold QP;rw[HK.o,e];exact C0 hkn
    have C:QP (jG w2 cb aH w.heap.size b aI c H (n+k) T vh vt):=bS.o.below (F.mono (by show w.heap.size<=W.heap.size;omega));have cP:QP (w2.ownsRow w.heap.size 234 3 sv S.length (hZ S)):=rG eR.o F lR;have aT:QP (Below cb w w2):=eN.o.trans (F.mono (by show cb<=W.heap.size;omega));have hC:QP (S=[]->sv=.slice none 0 0):=HN;clear bS eR eN g0 g1 g2 k3 j0 j1 j2 j3 HR F HK;have nL:=hU;rcases(show S=[]\/0<S.length from by cases S with
     | nil=>exact .inl rfl
     | cons a r=>exact .inr (by simp))with U|U
    ·have hP:=hC.o U;subst hP;rcases iL C.o.rh with rfl|⟨gv,cv,rfl⟩
     all_goals
      have t3:=C.o.c3;have qR:=C.o.fz 3;go_wp2_with (first|(at_builtin;refine An w2 rfl (.tmp 80) (.tmp 81) 222 rfl aH 234 (.agg #[.int .i64 0,.int .i64 0,.int .i64 0]) 3 24 NI cI _ H.length (hZ H) rfl C.o.rh rfl ?_))
      go_end0
      have J:=C.o.again3.raise;refine⟨rfl,aT.o.setCell (p:=⟨cb,3,none⟩) lR _,?_⟩;rw[HX.o,U,OP];exact⟨_,J⟩
    ·have t3:=C.o.c3;have hX:=C.o.hz;go_wp2_with (first|(at_builtin;refine yB w2 rfl (.tmp 80) (.tmp 81) 222 rfl aH w.heap.size 234 (.agg #[.int .i64 0,.int .i64 0,.int .i64 0]) 3 24 NI cI rfl (by decide) (by decide) vh H.length (hZ H) sv S.length (hZ S) rfl C.o.rh rfl cP.o (yY _) U (by omega) (by omega) ?_;intro g3 eS w3 Q D Y Z;obtain⟨aL,aO⟩:=C.o.kept (λ k hk=>(C.o.rh.lt k hk).1) D;have m3:=aL 3 _ t3;have hY:=aO 3;clear aL aO))
     go_end0
     refine⟨rfl,(aT.o.grown D (by omega) (λ k hk=>by have:=(C.o.rh.lt k hk).1;omega)).setCell (p:=⟨cb,3,none⟩) lR _,?_⟩;rw[HX.o];have J:=C.o.hope rfl Q D Y Z;exact⟨_,J.raise⟩
   | false=>
    go_region_held3 (λ w'=>w'.cell? ⟨cb,3,none⟩=some vh/\w'.cell? ⟨wr.heap.size,0,none⟩=some (.int .i64 (c:Int))/\w'.cell? ⟨wr.heap.size,1,none⟩=some (.int .i64 (st:Int))/\w'.cell? ⟨wr.heap.size,2,none⟩=some (.int .i64 (i:Int))) (go_keep)
     (first|(go_at_call 124;refine(Th H vh _ _ _ _ (by omega) ?_).mono ?_;exact⟨HR.o.sh⟩;rintro e w2 ⟨rfl,F⟩;replace F:=G8 F;have j3:=(F.cell (p:=⟨cb,3,none⟩) eT).trans k3;have j0:=(F.cell (p:=⟨wr.heap.size,0,none⟩) cF).trans g0;have j1:=(F.cell (p:=⟨wr.heap.size,1,none⟩) cF).trans g1;have j2:=(F.cell (p:=⟨wr.heap.size,2,none⟩) cF).trans g2))
    have cN:QP (jG w2 cb aH w.heap.size b aI c H (n+k) T vh vt):=bS.o.below (F.mono (by show w.heap.size<=W.heap.size;omega));have hE:QP (w2.ownsRow w.heap.size 234 3 sv S.length (hZ S)):=rG eR.o F lR;have hQ:QP (Below cb w w2):=eN.o.trans (F.mono (by show cb<=W.heap.size;omega));have hW:=cN.o.hz;clear bS eR eN g0 g1 g2 k3 j3 HR F;obtain⟨N,hN⟩:=xE (n+k)
    rw[hN]at cN;have hD:QP (n+k=N):=hN;have rO:N<=101000:=by omega
    clear hN;have q4:=cN.o.c4;go_wp2_with (first|(at_builtin;refine gB w2 rfl (.tmp 34) (.tmp 36) 222 rfl w.heap.size 234 (.agg #[.int .i64 0,.int .i64 0,.int .i64 0]) 3 24 NI cI rfl (by decide) (by decide) sv S.length (hZ S) [.int .i64 (c:Int),.int .i64 (st:Int),.int .i64 (i:Int)] _ rfl hE.o _ rfl rfl rfl (by simp[MF]) (by omega) (by omega) ?_;intro g4 cap4 w4 eM bN hT hV;have hI:=lN (MZ w.heap.size w2) hW hE.o lR bN;have eO:QP (jG w4 cb aH w.heap.size b aI c H N T vh vt):=cN.o.below hI;have r4:=eO.o.c4;have f4:=eO.o.fz 4;clear j0 j1 j2 q4));have V:QP (jG (w4.setCell ⟨cb,4,none⟩ (.int .i64 ((N:Int)+1))) cb aH w.heap.size b aI c H (N+1) T vh vt):=eO.o.step1;have bT:QP ((w4.setCell ⟨cb,4,none⟩ (.int .i64 ((N:Int)+1))).ownsRow w.heap.size 234 3 (.slice (some ⟨g4,0,none⟩) (S.length+1) cap4) (S.length+1) (hZ (S++[uR c st i]))):=by
     rw[Z1];exact QN eM (by show cb<w.heap.size;omega) _
    have aR:QP (Below cb w (w4.setCell ⟨cb,4,none⟩ (.int .i64 ((N:Int)+1)))):=(hQ.o.trans (hI.mono (by omega))).setCell (p:=⟨cb,4,none⟩) lR _;generalize w4.setCell ⟨cb,4,none⟩ (.int .i64 ((N:Int)+1))=w5 at*;clear eO cN hE hQ eM bN hT hV hI r4 f4 hW;have bK:=hw.below aR.o hB;have q0:=V.o.c0;have q1:=V.o.c1;have q2:=V.o.c2;have sR:=kL aI i hK;have hJ:=mT aI i;have tL:(0:Int)<=(i:Int)/\(i:Int)<(aI.size:Int):=by omega
    have hF:QP (aI.size-i=(aI.size-i-1)+1):=by unfold QP;omega
    by_cases X:iA s c st (bt aI i)=255
    ·have hL:H8 s c st (bt aI i)= -1:=by unfold H8;rw[aB X]
     have HX:QP (iE s aI c H p=(S++[uR c st i],k+1)):=by
      unfold QP;rw[HK.o,hF.o];exact xY hkn X
     have bC:QP (∀q,RA LK 125 #[.pointer (some ⟨b,0,none⟩),.int .i64 c,.int .i64 st,.int .u8 (bt aI i)] (w5.drewN q) λ e w'=>e=.returned (.int .i64 (H8 s c st (bt aI i)))/\∃m,w'=(w5.drewN q).drewN m):=λ q=>Cm s B b g aJ c st (bt aI i) (w5.drewN q) hi hs hc hM hJ (bK.drewN q)
     go_quiet ((go_at_call 125;exact RA.quiet_of (bC.o _)));have C:QP (jG (w5.drewN nq) cb aH w.heap.size b aI c H (n+(k+1)) T vh vt):=by
      have e:n+(k+1)=N+1:=by have:=hD.o;omega
      rw[e];exact V.o.drewN nq
     have cP:QP ((w5.drewN nq).ownsRow w.heap.size 234 3 (.slice (some ⟨g4,0,none⟩) (S.length+1) cap4) (S++[uR c st i]).length (hZ (S++[uR c st i]))):=by
      rw[LR];exact bT.o
     have aT:QP (Below cb w (w5.drewN nq)):=_root_.Go.below_drewN aR.o nq;have U:0<(S++[uR c st i]).length:=by simp
     have rT:(S++[uR c st i]).length<=301:=by simp;omega
     generalize S++[uR c st i]=S5 at*;generalize w5.drewN nq=w6 at*;clear V bT aR bK q0 q1 q2 bC HK;have t3:=C.o.c3;have hX:=C.o.hz;go_wp2_with (first|(at_builtin;refine yB w6 rfl (.tmp 80) (.tmp 81) 222 rfl aH w.heap.size 234 (.agg #[.int .i64 0,.int .i64 0,.int .i64 0]) 3 24 NI cI rfl (by decide) (by decide) vh H.length (hZ H) _ S5.length (hZ S5) rfl C.o.rh rfl cP.o (yY _) U (by omega) (by omega) ?_;intro g3 eS w3 Q D Y Z;obtain⟨aL,aO⟩:=C.o.kept (λ k hk=>(C.o.rh.lt k hk).1) D;have m3:=aL 3 _ t3;have hY:=aO 3;clear aL aO))
     go_end0
     refine⟨rfl,(aT.o.grown D (by omega) (λ k hk=>by have:=(C.o.rh.lt k hk).1;omega)).setCell (p:=⟨cb,3,none⟩) lR _,?_⟩;rw[HX.o];have J:=C.o.hope rfl Q D Y Z;exact⟨_,J.raise⟩
    ·have hL:H8 s c st (bt aI i)=(iA s c st (bt aI i):Int):=by unfold H8;rw[aA X]
     have bC:QP (∀q,RA LK 125 #[.pointer (some ⟨b,0,none⟩),.int .i64 c,.int .i64 st,.int .u8 (bt aI i)] (w5.drewN q) λ e w'=>e=.returned (.int .i64 (iA s c st (bt aI i):Int))/\∃m,w'=(w5.drewN q).drewN m):=λ q=>by
      rw[<-hL];exact Cm s B b g aJ c st (bt aI i) (w5.drewN q) hi hs hc hM hJ (bK.drewN q)
     clear hL;have ht:=Iu hi hc hM hJ;have iN:QP (0<jM s c (iA s c st (bt aI i))->iE s aI c H p=pG s aI c H (aI.size-(i+1)) (iA s c st (bt aI i)) (i+1) [] (k+1)):=by
      intro hm;rw[HK.o,hF.o];exact C1 hkn X hm
     have lH:QP (jM s c (iA s c st (bt aI i))=0->iE s aI c H p=pG s aI c H (aI.size-(i+1)) (iA s c st (bt aI i)) (i+1) (S++[uR c st i]) (k+1)):=by
      intro hm;rw[HK.o,hF.o];exact K3 hkn X hm
     generalize iA s c st (bt aI i)=t at*;have ht:t<rA s c:=by omega
     by_cases hm:0<jM s c t
     ·go_quiet ((go_at_call 125;exact RA.quiet_of (bC.o _)));have aW:QP (jG (w5.drewN nq) cb aH w.heap.size b aI c H (N+1) T vh vt):=V.o.drewN nq;have hR:QP ((w5.drewN nq).ownsRow w.heap.size 234 3 (.slice (some ⟨g4,0,none⟩) (S.length+1) cap4) (S.length+1) (hZ (S++[uR c st i]))):=bT.o;have gL:QP (Below cb w (w5.drewN nq)):=_root_.Go.below_drewN aR.o nq;have hG:QP (sA (w5.drewN nq) B b g aJ s):=bK.drewN nq;generalize w5.drewN nq=w6 at*;clear V bT aR bK q0 q1 q2 bC HK;have q0:=aW.o.c0;have q2:=aW.o.c2;have hA:QP (∀q,RA LK 126 #[.pointer (some ⟨b,0,none⟩),.int .i64 c,.int .i64 t] (w6.drewN q) λ e w'=>e=.returned (.int .i64 (jM s c t:Int))/\∃m,w'=(w6.drewN q).drewN m):=λ q=>
       P9 s B b g aJ c t (w6.drewN q) hi hs hc ht (hG.o.drewN q)
      go_wp2_with fail;go_quiet ((go_at_call 126;exact RA.quiet_of (hA.o _)));go_wp2;go_roundw
      case rel=>
       refine⟨t,i+1,k+1,[],.slice none 0 0,rfl,rfl,by go_num,ht,by omega,hK,by omega,by simp,iN.o hm,λ _=>rfl,LS _ _ _ _,?_,?_⟩
       ·have e:n+(k+1)=N+1:=by have:=hD.o;omega
        rw[e];exact aW.o.drewN _
       ·exact _root_.Go.below_drewN gL.o _
      case measure=>simp[QO];omega
     ·have nN:jM s c t=0:=by omega
      go_quiet ((go_at_call 125;exact RA.quiet_of (bC.o _)));have aW:QP (jG (w5.drewN nq) cb aH w.heap.size b aI c H (N+1) T vh vt):=V.o.drewN nq;have hR:QP ((w5.drewN nq).ownsRow w.heap.size 234 3 (.slice (some ⟨g4,0,none⟩) (S.length+1) cap4) (S.length+1) (hZ (S++[uR c st i]))):=bT.o;have gL:QP (Below cb w (w5.drewN nq)):=_root_.Go.below_drewN aR.o nq;have hG:QP (sA (w5.drewN nq) B b g aJ s):=bK.drewN nq;generalize w5.drewN nq=w6 at*;clear V bT aR bK q0 q1 q2 bC HK;have q0:=aW.o.c0;have q2:=aW.o.c2;have hA:QP (∀q,RA LK 126 #[.pointer (some ⟨b,0,none⟩),.int .i64 c,.int .i64 t] (w6.drewN q) λ e w'=>e=.returned (.int .i64 (jM s c t:Int))/\∃m,w'=(w6.drewN q).drewN m):=λ q=>
       P9 s B b g aJ c t (w6.drewN q) hi hs hc ht (hG.o.drewN q)
      go_wp2_with fail;go_quiet ((go_at_call 126;exact RA.quiet_of (hA.o _)));go_wp2;go_roundw
      case rel=>
       refine⟨t,i+1,k+1,S++[uR c st i],_,rfl,rfl,by go_num,ht,by omega,hK,by omega,by simp;omega,lH.o nN,λ h=>by simp at h,?_,?_,?_⟩
       ·rw[LR];exact hR.o
       ·have e:n+(k+1)=N+1:=by have:=hD.o;omega
        rw[e];exact aW.o.drewN _
       ·exact _root_.Go.below_drewN gL.o _
      case measure=>simp[QO];omega
  ·have HX:QP (iE s aI c H p=(S,k)):=by
    have e:aI.size-i=0:=by omega
    unfold QP;rw[HK.o,e];rfl
   have C:QP (jG wr cb aH w.heap.size b aI c H (n+k) T vh vt):=I;have cP:QP (wr.ownsRow w.heap.size 234 3 sv S.length (hZ S)):=bO;have aT:QP (Below cb w wr):=bM;have hC:QP (S=[]->sv=.slice none 0 0):=HN;clear I bO bM HK k2 k3;have nL:=hU;rcases(show S=[]\/0<S.length from by cases S with
    | nil=>exact .inl rfl
    | cons a r=>exact .inr (by simp))with U|U
   ·have hP:=hC.o U;subst hP;rcases iL C.o.rh with rfl|⟨gv,cv,rfl⟩
    all_goals
     have t3:=C.o.c3;have qR:=C.o.fz 3;go_wp2_with (first|(at_builtin;refine An wr rfl (.tmp 80) (.tmp 81) 222 rfl aH 234 (.agg #[.int .i64 0,.int .i64 0,.int .i64 0]) 3 24 NI cI _ H.length (hZ H) rfl C.o.rh rfl ?_))
     go_end0
     have J:=C.o.again3.raise;refine⟨rfl,aT.o.setCell (p:=⟨cb,3,none⟩) lR _,?_⟩;rw[HX.o,U,OP];exact⟨_,J⟩
   ·have t3:=C.o.c3;have hX:=C.o.hz;go_wp2_with (first|(at_builtin;refine yB wr rfl (.tmp 80) (.tmp 81) 222 rfl aH w.heap.size 234 (.agg #[.int .i64 0,.int .i64 0,.int .i64 0]) 3 24 NI cI rfl (by decide) (by decide) vh H.length (hZ H) sv S.length (hZ S) rfl C.o.rh rfl cP.o (yY _) U (by omega) (by omega) ?_;intro g3 eS w3 Q D Y Z;obtain⟨aL,aO⟩:=C.o.kept (λ k hk=>(C.o.rh.lt k hk).1) D;have m3:=aL 3 _ t3;have hY:=aO 3;clear aL aO))
    go_end0
    refine⟨rfl,(aT.o.grown D (by omega) (λ k hk=>by have:=(C.o.rh.lt k hk).1;omega)).setCell (p:=⟨cb,3,none⟩) lR _,?_⟩;rw[HX.o];have J:=C.o.hope rfl Q D Y Z;exact⟨_,J.raise⟩
theorem Uf(s aI:tB)(B b g aJ c cb aH:Nat)(vh vt:tV)(w:tW)(hi:iF s=true)(hs:s.size<=120000)(eS:aI.size<=300)(hc:c<iM s)
  (hw:sA w B b g aJ s) (hB:B<=cb) (hcut:jG w cb aH w.heap.size b aI c [] 0 [] vh vt):
  RA LK 112 #[.pointer (some ⟨cb,0,none⟩)] w λ e w'=>
   e=.returned (.tuple #[])/\Below cb w w'/\(pY s aI c).2.2<iM s/\∃H hF hG,jG w' cb aH w'.heap.size b aI (pY s aI c).2.2 H (pY s aI c).2.1 (pY s aI c).1 hF hG:=by
 have HL:QP (pY s aI c=yP s aI (aI.size+1) 0 c [] 0 []):=rfl;have hQ:=hcut.hb;have hP:=hcut.hbt;go_enter func112,ntmps112;go_wp2_with fail
 go_loopw [2] (λ x wr=>∃(p F n:Nat)(H T:List (Int×Int×Int)) (vh vt:tV),x=.int .i64 p/\p<=aI.size/\F<iM s/\H.length<=300*p/\n<=300*p/\T.length<=p/\
   pY s aI c=yP s aI (aI.size-p+1) p F H n T/\jG wr cb aH wr.heap.size b aI F H n T vh vt/\Below cb w wr)
  (λ x _=>aI.size-(QO x).toNat)
 case atStart=>exact⟨0,c,0,[],[],vh,vt,rfl,zL,hc,by simp,by omega,by simp,HL.o,hcut,bR⟩
 case round=>
  obtain⟨p,F,n,H,T,hC,Y,rfl,hp,bC,hH,hn,hT,eL,bK,cP⟩:=hrel;have HR:QP (pY s aI c=yP s aI (aI.size-p+1) p F H n T):=eL;have HC:QP (jG wr cb aH wr.heap.size b aI F H n T hC Y):=bK;have cN:QP (Below cb w wr):=cP;have k1:=bK.c1;clear eL bK cP;by_cases eM:p<aI.size
  ·go_wp2_with fail;refine(y7 s aI B b g aJ F p cb aH n H T hC Y _ hi hs eS hp bC (by omega) (by omega) (hw.below cN.o hB) hB HC.o).mono ?_;rintro e w2 ⟨rfl,eR,aT,bT⟩;have Q:QP (jG w2 cb aH w2.heap.size b aI F (H++(iE s aI F H p).1) (n+(iE s aI F H p).2) T aT Y):=bT;have aL:QP (Below cb w w2):=cN.o.trans eR;clear bT eR HC cN k1;have hK:=P7 (s:=s) (aI:=aI) (c:=F) (p:=p) (H:=H);have aO:QP (sA w2 B b g aJ s):=hw.below aL.o hB;have q0:=Q.o.c0;have q1:=Q.o.c1;have q2:=Q.o.c2;have Z:QP (∀q,RA LK 120 #[.pointer (some ⟨b,0,none⟩),.string aI,.int .i64 p,.int .i64 F] (w2.drewN q) λ e w'=>e=.returned (.tuple #[.int .i64 (Fc s aI F p).1,.int .i64 (Fc s aI F p).2])/\∃m,w'=(w2.drewN q).drewN m):=λ q=>
    Ma s aI B b g aJ F p (w2.drewN q) hi hs eS hp bC (aO.o.drewN q)
   rcases yK hi bC hp with eN|⟨r,q,cF,hr,hS,hq⟩
   ·have HX:QP (pY s aI c=(T++[(-1,(p:Int),(p:Int))],n+(iE s aI F H p).2,F)):=by
     unfold QP;rw[HR.o];exact wB eM eN
    rw[eN]at Z;clear eN HR;go_wp2_with fail;go_quiet ((go_at_call 120;exact RA.quiet_of (Z.o _)));have C:QP (jG (w2.drewN nq) cb aH (w2.drewN nq).heap.size b aI F (H++(iE s aI F H p).1) (n+(iE s aI F H p).2) T aT Y):=(Q.o.drewN nq).raise;have aW:QP (Below cb w (w2.drewN nq)):=_root_.Go.below_drewN aL.o nq;have bM:QP (sA (w2.drewN nq) B b g aJ s):=aO.o.drewN nq;generalize w2.drewN nq=w3 at*;clear Q aL aO q0 q1 q2 Z;have bS:=C.o.hbt;have r5:=C.o.c5;go_wp2_with (first|(at_builtin;refine gB w3 rfl (.tmp 39) (.tmp 43) 29 rfl aH 79 (.agg #[.int .i64 0,.int .i64 0,.int .i64 0]) 3 24 MV cJ rfl (by decide) (by decide) Y T.length (hZ T) [.int .i64 (-1),.int .i64 (p:Int),.int .i64 (p:Int)] _ rfl C.o.rt _ rfl rfl rfl (by simp[MF]) (by omega) (by omega) ?_;intro g4 cap4 w4 I D J aR;have U:=C.o.tell (x:=(-1,(p:Int),(p:Int))) I D J aR;have U:=sM U;obtain⟨V,X⟩:=(C.o.below (bR.alloc C.o.hz _)).kept (λ k hk=>(C.o.rt.lt k hk).1) D;have m5:=V 5 _ ((C.o.below (bR.alloc C.o.hz _)).c5);have hA:=X 5;have m2:=V 2 _ ((C.o.below (bR.alloc C.o.hz _)).c2);have gL:=X 2;have bN:=sM ((lN aW.o (by omega) C.o.rt (by omega) D).setCell (p:=⟨cb,5,none⟩) lR (.slice (some ⟨g4,0,none⟩) (T.length+1) cap4));clear V X I D J r5));refine bodyPost_ret (results_none rfl _ _ _) rfl ?_;rw[HX.o];exact⟨rfl,bN.o,bC,_,_,_,U.o.raise⟩
   ·have HX:QP (pY s aI c=yP s aI (aI.size-q+1) q (if 1<nC s r then nC s r-2 else F) (H++(iE s aI F H p).1) (n+(iE s aI F H p).2) (if nC s r=1 then T else T++[((r:Int),(p:Int),(q:Int))])):=by
     unfold QP;rw[HR.o,wC eM cF];exact Xy hi _ _ (by have:=vX hi hr;split<;>omega) (by omega) (by omega)
    rw[cF]at Z;have hD:=vX hi hr;have hM:=(kZ hi).1;have hI:=(kZ hi).2.2.2.2;have hR:=(kZ hi).2.2.2.1;have hN:(s[4+r]).toNat=nC s r:=kL s (4+r) (by omega);have hL:((r:Int)== -1)=false:=aC.2 (by omega);clear cF HR;generalize nC s r=t at*;by_cases eT:t=1
    ·subst eT;go_wp2_with fail;go_quiet ((go_at_call 120;exact RA.quiet_of (Z.o _)));have C:QP (jG (w2.drewN nq) cb aH (w2.drewN nq).heap.size b aI F (H++(iE s aI F H p).1) (n+(iE s aI F H p).2) T aT Y):=(Q.o.drewN nq).raise;have aW:QP (Below cb w (w2.drewN nq)):=_root_.Go.below_drewN aL.o nq;have bM:QP (sA (w2.drewN nq) B b g aJ s):=aO.o.drewN nq;generalize w2.drewN nq=w3 at*;clear Q aL aO q0 q1 q2 Z;have bS:=C.o.hbt;have r5:=C.o.c5;have x0:=C.o.c0;have i0:=bM.o.c0;go_wp2;go_roundw
     case rel=>
      refine⟨q,F,_,_,T,aT,Y,rfl,hq,bC,?_,?_,by omega,HX.o,C.o,aW.o⟩
      ·rw[LR];omega
      ·omega
     case measure=>simp[QO];omega
    ·have hJ:((t:Int) !=1)=true:=by rw[aD];omega
     have eO:(if t=1 then T else T++[((r:Int),(p:Int),(q:Int))])=T++[((r:Int),(p:Int),(q:Int))]:=aA eT;rw[eO]at HX;clear eO;by_cases eX:1<t
     ·obtain⟨u,hu⟩:∃u,t=u+2:=⟨t-2,by omega⟩
      have bO:(if 1<t then t-2 else F)=u:=by rw[aB eX];omega
      rw[bO]at HX;clear bO;have hU:((t:Int)-2)=(u:Int):=by omega
      have hE:u<iM s:=by omega
      clear hu;go_wp2_with fail;go_quiet ((go_at_call 120;exact RA.quiet_of (Z.o _)));have C:QP (jG (w2.drewN nq) cb aH (w2.drewN nq).heap.size b aI F (H++(iE s aI F H p).1) (n+(iE s aI F H p).2) T aT Y):=(Q.o.drewN nq).raise;have aW:QP (Below cb w (w2.drewN nq)):=_root_.Go.below_drewN aL.o nq;have bM:QP (sA (w2.drewN nq) B b g aJ s):=aO.o.drewN nq;generalize w2.drewN nq=w3 at*;clear Q aL aO q0 q1 q2 Z;have bS:=C.o.hbt;have r5:=C.o.c5;have x0:=C.o.c0;have i0:=bM.o.c0;go_wp2_with (first|(at_builtin;refine gB w3 rfl (.tmp 63) (.tmp 68) 29 rfl aH 79 (.agg #[.int .i64 0,.int .i64 0,.int .i64 0]) 3 24 MV cJ rfl (by decide) (by decide) Y T.length (hZ T) [.int .i64 (r:Int),.int .i64 (p:Int),.int .i64 (q:Int)] _ rfl C.o.rt _ rfl rfl rfl (by simp[MF]) (by omega) (by omega) ?_;intro g4 cap4 w4 I D J aR;have U:=C.o.tell (x:=((r:Int),(p:Int),(q:Int))) I D J aR;have U:=sM U;obtain⟨V,X⟩:=(C.o.below (bR.alloc C.o.hz _)).kept (λ k hk=>(C.o.rt.lt k hk).1) D;have m5:=V 5 _ ((C.o.below (bR.alloc C.o.hz _)).c5);have hA:=X 5;have m2:=V 2 _ ((C.o.below (bR.alloc C.o.hz _)).c2);have gL:=X 2;have bN:=sM ((lN aW.o (by omega) C.o.rt (by omega) D).setCell (p:=⟨cb,5,none⟩) lR (.slice (some ⟨g4,0,none⟩) (T.length+1) cap4));clear V X I D J r5));go_roundw
      case rel=>
       refine⟨q,u,_,_,T++[((r:Int),(p:Int),(q:Int))],aT,_,rfl,hq,hE,?_,?_,?_,HX.o,(U.o.bE u).raise,bN.o.setCell (p:=⟨cb,2,none⟩) lR _⟩
       ·rw[LR];omega
       ·omega
       ·simp;omega
      case measure=>simp[QO];omega
     ·have bO:(if 1<t then t-2 else F)=F:=aA eX;rw[bO]at HX;clear bO;go_wp2_with fail;go_quiet ((go_at_call 120;exact RA.quiet_of (Z.o _)));have C:QP (jG (w2.drewN nq) cb aH (w2.drewN nq).heap.size b aI F (H++(iE s aI F H p).1) (n+(iE s aI F H p).2) T aT Y):=(Q.o.drewN nq).raise;have aW:QP (Below cb w (w2.drewN nq)):=_root_.Go.below_drewN aL.o nq;have bM:QP (sA (w2.drewN nq) B b g aJ s):=aO.o.drewN nq;generalize w2.drewN nq=w3 at*;clear Q aL aO q0 q1 q2 Z;have bS:=C.o.hbt;have r5:=C.o.c5;have x0:=C.o.c0;have i0:=bM.o.c0;go_wp2_with (first|(at_builtin;refine gB w3 rfl (.tmp 63) (.tmp 68) 29 rfl aH 79 (.agg #[.int .i64 0,.int .i64 0,.int .i64 0]) 3 24 MV cJ rfl (by decide) (by decide) Y T.length (hZ T) [.int .i64 (r:Int),.int .i64 (p:Int),.int .i64 (q:Int)] _ rfl C.o.rt _ rfl rfl rfl (by simp[MF]) (by omega) (by omega) ?_;intro g4 cap4 w4 I D J aR;have U:=C.o.tell (x:=((r:Int),(p:Int),(q:Int))) I D J aR;have U:=sM U;obtain⟨V,X⟩:=(C.o.below (bR.alloc C.o.hz _)).kept (λ k hk=>(C.o.rt.lt k hk).1) D;have m5:=V 5 _ ((C.o.below (bR.alloc C.o.hz _)).c5);have hA:=X 5;have m2:=V 2 _ ((C.o.below (bR.alloc C.o.hz _)).c2);have gL:=X 2;have bN:=sM ((lN aW.o (by omega) C.o.rt (by omega) D).setCell (p:=⟨cb,5,none⟩) lR (.slice (some ⟨g4,0,none⟩) (T.length+1) cap4));clear V X I D J r5));go_roundw
      case rel=>
       refine⟨q,F,_,_,T++[((r:Int),(p:Int),(q:Int))],aT,_,rfl,hq,bC,?_,?_,?_,HX.o,U.o.raise,bN.o⟩
       ·rw[LR];omega
       ·omega
       ·simp;omega
      case measure=>simp[QO];omega
  ·have HX:QP (pY s aI c=(T,n,F)):=by
    unfold QP;rw[HR.o];exact yQ eM
   go_wp2
   go_end0
   rw[HX.o];exact⟨rfl,cN.o,bC,_,_,_,HC.o⟩
theorem pA{w:tW}{base':Nat}{v:tV}{xs:List tV}(h:w.ownsRow aH e size v n xs)(I:base'<=aH):w.ownsRow base' e size v n xs:=by
 refine⟨h.1,?_⟩;rcases h.2 with D|⟨g,aJ,o,F,C,rest⟩
 ·exact .inl D
 ·exact .inr ⟨g,aJ,o,F,by omega,rest⟩
theorem jG.start(w:tW)(ib:Nat)(aI:tB)(c:Nat):
  jG (w.alloc (.cells #[.pointer (some ⟨ib,0,none⟩),.string aI,.int .i64 c,.slice none 0 0,.int .i64 0,.slice none 0 0] 224)) w.heap.size (w.heap.size+1) (w.alloc (.cells #[.pointer (some ⟨ib,0,none⟩),.string aI,.int .i64 c,.slice none 0 0,.int .i64 0,.slice none 0 0] 224)).heap.size ib aI c [] 0 [] (.slice none 0 0) (.slice none 0 0):=by
 have o:∀i v, #[Value.pointer (some ⟨ib,0,none⟩),.string aI,.int .i64 c,.slice none 0 0,.int .i64 0,.slice none 0 0][i]?=some v->
   (w.alloc (.cells #[.pointer (some ⟨ib,0,none⟩),.string aI,.int .i64 c,.slice none 0 0,.int .i64 0,.slice none 0 0] 224)).cell? ⟨w.heap.size,i,none⟩=some v:=λ i v h=>by
  rw[LO];exact h
 refine⟨o 0 _ rfl,o 1 _ rfl,o 2 _ rfl,o 3 _ rfl,o 4 _ rfl,o 5 _ rfl,λ i=>by rw[MJ],LS _ _ _ _,LS _ _ _ _,by omega,lR,by simp,λ k C=>by simp[MG]at C,λ k C=>by simp[MG]at C,.inl rfl⟩
theorem BX(s aI:tB)(w:tW)(hs:s.size<=QZ)(aR:aI.size<=QZ):
  RA LK 88 #[.string s,.string aI] w λ e w'=>
   ∃v,e=.returned (.tuple #[v,.int .i64 (pI s aI).2.1,.int .i64 (pI s aI).2.2])/\w'.ownsRow w.heap.size 79 3 v (pI s aI).1.length (hZ (pI s aI).1)/\Bl w w':=by
 unfold QZ at hs aR;by_cases Q:120000<s.size\/300<aI.size
 ·have I:pI s aI=([],0,1):=by unfold pI;rw[aB Q]
  rw[I];clear I;by_cases F:120000<s.size
  ·clear Q;go_enter func88,PH;go_wp2;go_ret3;exact⟨_,rfl,LS _ _ _ _,bR⟩
  ·have V:300<aI.size:=by omega
   clear Q;go_enter func88,PH;go_wp2;go_ret3;exact⟨_,rfl,LS _ _ _ _,bR⟩
 ·have F:s.size<=120000:=by omega
  have V:aI.size<=300:=by omega
  cases hi:iF s with
  | false=>
   have I:pI s aI=([],0,5):=by unfold pI;rw[aA Q,aA (by rw[hi];decide)]
   rw[I];clear I Q;go_enter func88,PH;go_wp2_with (go_at_call 111;refine(yM s _ F).mono ?_;rintro e w1 ⟨v,rfl,Z,_⟩);go_ret3;exact⟨_,rfl,LS _ _ _ _,Z⟩
  | true=>
   have I:pI s aI=((pY s aI 0).1,(pY s aI 0).2.1,0):=by unfold pI;rw[aA Q,aB hi]
   rw[I];clear I Q;have hm:=(kZ hi).2.2.1;go_enter func88,PH;go_wp2_with fail;refine(yM s _ F).mono ?_;rintro e w1 ⟨v,rfl,Z,D⟩;obtain⟨rfl,va,vs,D⟩:=D hi;obtain⟨g,aJ,X⟩:=D.rd hm;have U:=sM Z;clear D Z;rw[hi];go_wp2_with fail;have hcut:=jG.start w1 w.heap.size aI 0;have J:=X.below ((MZ w1.heap.size w1).alloc lR (.cells #[.pointer (some ⟨w.heap.size,0,none⟩),.string aI,.int .i64 0,.slice none 0 0,.int .i64 0,.slice none 0 0] 224)) lR;refine(Uf s aI w1.heap.size w.heap.size g aJ 0 w1.heap.size (w1.heap.size+1) (.slice none 0 0) (.slice none 0 0) _ hi F V (by omega) J lR hcut).mono ?_;rintro e w2 ⟨rfl,aO,_,H,vh,vt,C⟩;have k4:=C.c4;have k5:=C.c5;have aL:=sM C;have Y:=U.o.size;clear hcut X J C;go_wp2_with fail;go_quiet (fail);go_wp2;go_ret3;refine⟨vt,rfl,pA aL.o.rt (by omega),_root_.Go.below_drewN ?_ _⟩;have h1:=(U.o.alloc Y (.cells #[.pointer (some ⟨w.heap.size,0,none⟩),.string aI,.int .i64 0,.slice none 0 0,.int .i64 0,.slice none 0 0] 224))
   exact h1.trans (aO.mono Y)
section
def If(X:tW)(v:tV):Array tV:=match v with
 | .pointer (some a)=>((MH 258).map λ i=>(X.cell? ⟨a.block,i,none⟩).getD undef).toArray
 | _=> #[]
def Ly(X:tW)(v:tV):Prop:=∃B cs,v=.pointer (some ⟨B,0,none⟩)/\cs.length=258/\X.rangeAt B 0 cs
theorem Bu{X:tW}{cs:List tV}(C:cs.length=258)(D:X.rangeAt B 0 cs):If X (.pointer (some ⟨B,0,none⟩))=cs.toArray:=by
 have e:((MH 258).map λ i=>(X.cell? ⟨B,i,none⟩).getD undef)=cs:=by
  refine List.ext_getElem (by simp[C]) (λ i F o=>?_);have:=D i cs[i] (LQ o);rw[LM]at this;simp[this]
 show((MH 258).map λ i=>(X.cell? ⟨B,i,none⟩).getD undef).toArray=cs.toArray;rw[e]
theorem fA{d:Option Tmp}{p:String}{D:Array Edge}{X:tW}{K:Act->tW->Prop}{Q:Exit->Act->tW->Prop}
  (h:Ly X (a.eval x)):
  Oper.wp LK {dst:=d,op:= .load 72 x,type:=ty,pos:=p,after:=D,guard:=gd} a X K Q=K (a.put d (.agg (If X (a.eval x)))) X:=by
 obtain⟨B,cs,I,C,o⟩:=h;have F:=QY (P:=LK) X B 0 72 cs _ o MO rfl (by rw[C];exact bP);unfold Oper.wp execOp;simp only[I,Instr.loadAt,Instr.sureAddr,Sem.run_bind,Sem.run_pure,Result.andThen_ok,F,Bu C o]
 rfl
theorem Gv{w:tW}{s:tB}{yb:Nat->Nat}{zb:Nat->Nat->Nat}(h:CT w cb lo s c bb vg aU yb zb):
  RA LK 32 #[.pointer (some ⟨cb,0,none⟩)] w λ e w'=>e=.returned (.int .i64 c)/\w'=w:=by
 have o:=h.k1;clear h;go_enter func32,ntmps32;go_wp2;go_ret;exact⟨rfl,rfl⟩
theorem CT.setC{w:tW}{s:tB}{yb:Nat->Nat}{zb:Nat->Nat->Nat}(h:CT w cb lo s c bb vg aU yb zb)(C:Nat)(F:C<iM s):CT (w.setCell ⟨cb,258,none⟩ (.int .i64 (C:Int))) cb lo s C bb vg aU yb zb:=by
 have o:(nS (.slice (some ⟨bb,0,none⟩) (iR s) (iR s)) (gP s) (.slice (some ⟨vg,0,none⟩) (iM s) aU)).length=258:=nY _ _ _ (by unfold gP;rw[lQ];rfl);refine⟨h.ok,h.sz,F,h.mem.blocks h.il (λ k _ I=>MQ w ⟨cb,258,none⟩ _ k (by intro e;subst e;exact Nat.lt_irrefl _ I)),h.il,λ j v D=>?_,LH _ _ _ h.k1,λ i=>by rw[LG];exact h.fz i,by have:=h.b0;simp[LN];omega,h.b1⟩;have J:j<258:=by rw[<-o];exact(LI.1 D).1
 rw[LD (h:=by intro e;injection e;omega)];exact h.im j v D
def DF(w:tW)(cb lo:Nat)(s aI:tB)(c bb vg aU:Nat)(yb:Nat->Nat)(zb:Nat->Nat->Nat)(e:Ending)(w':tW):Prop:=
 ∃vt,e=.returned (.tuple #[vt,.int .i64 0])/\w'.ownsRow w.heap.size 79 3 vt (pY s aI c).1.length (hZ (pY s aI c).1)/\
  CT w' cb lo s (pY s aI c).2.2 bb vg aU yb zb/\w.grownBy w' (some cb)
theorem Qy{w:tW}{aI:tB}(C:300<aI.size):
  RA LK 92 #[.pointer (some ⟨cb,0,none⟩),.string aI] w λ e w'=>e=.returned (.tuple #[.slice none 0 0,.int .i64 1])/\w'=w:=by
 have o:decide ((300:Int)<(aI.size:Int))=true:=by simp;omega
 go_enter func92,ntmps92;go_wp2;go_ret2;exact⟨rfl,rfl⟩
attribute [local go_sem ↓] Go.wp_at_zero Go.wp_at_succ fA
theorem Xh{w:tW}{s aI:tB}{yb:Nat->Nat}{zb:Nat->Nat->Nat}(h:CT w cb lo s c bb vg aU yb zb)(hl:aI.size<=300):
  RA LK 92 #[.pointer (some ⟨cb,0,none⟩),.string aI] w λ e w'=>DF w cb lo s aI c bb vg aU yb zb e w':=by
 have hd:decide ((300:Int)<(aI.size:Int))=false:=by simp;omega
 have Q:=fV h;have k1:=h.k1;have Y:=h.b0;have D:(nS (.slice (some ⟨bb,0,none⟩) (iR s) (iR s)) (gP s) (.slice (some ⟨vg,0,none⟩) (iM s) aU)).length=258:=nY _ _ _ (by unfold gP;rw[lQ];rfl);have aL:Ly w.drew (.pointer (some ⟨cb,0,none⟩)):=⟨cb,_,rfl,D,h.im⟩
 have Z:If w.drew (.pointer (some ⟨cb,0,none⟩))=(nS (.slice (some ⟨bb,0,none⟩) (iR s) (iR s)) (gP s) (.slice (some ⟨vg,0,none⟩) (iM s) aU)).toArray:=Bu D h.im;have HA:QP ((nS (.slice (some ⟨bb,0,none⟩) (iR s) (iR s)) (gP s) (.slice (some ⟨vg,0,none⟩) (iM s) aU)).toArray.toList=nS (.slice (some ⟨bb,0,none⟩) (iR s) (iR s)) (gP s) (.slice (some ⟨vg,0,none⟩) (iM s) aU)):=by unfold QP;simp
 generalize (nS (.slice (some ⟨bb,0,none⟩) (iR s) (iR s)) (gP s) (.slice (some ⟨vg,0,none⟩) (iM s) aU)).toArray=A at*;clear D h;go_enter func92,ntmps92;go_wp2_with fail;go_region_with (go_at_call 25;refine(Ku s aI c bb vg aU yb zb A w.drew Q.o.ok hl Q.o.hc HA.o ((Q.o.mem.mono (MU Y)).drewN 1)).mono ?_;rintro e w1 ⟨vt,rfl,F,C⟩)
 all_goals
  have I:QP (Bl w w1):=⟨C.os,C.tape,C.output,C.size,C.block⟩
  have X:=fV F;have J:=fV (Q.o.blocks (w':=w1) (λ k _ hk=>I.o.block k (by omega)) I.o.size);have k2:=J.o.k1;have f2:=J.o.fz 258;have U:=Vn (aI:=aI) Q.o.ok Q.o.hc;have V:=fV U;clear F C U k1 aL Z;go_wp2;go_ret2;refine⟨vt,rfl,?_,J.o.setC _ V.o,lP (iQ I.o lR _) _ _⟩;exact pA (QN X.o (by show cb<w.heap.size+1+1;omega) _) (by show w.heap.size<=w.heap.size+1+1;omega)
end
section
theorem oB(w:tW){ops:Array Oper}{rest:List Oper}{o:Oper}{a:Act}{Q:Exit->Act->tW->Prop}(X:o.guard=none)(s x:Operand)(t:TypeId)
  (ho:o.op=.call {callee:= .builtin .append,args:= #[s,x],argTypes:= #[t,t]})
  (aH:Nat) (e:TypeId) (z:tV) (size C:Nat) (ht:P.underlying t=some (.slice e)) (D:(P.info? e).map (λ i=>(i.zero,i.size,i.bytes))=some (some z,size,C))
  (Z:z.cells.size=size) (Y:0<size) (V:C<=24)
  (v:tV) (n:Nat) (xs:List tV) (cs:List tV) (J:TypeId) (hs:a.eval s=v) (I:w.ownsRow aH e size v n xs)
  (B:Nat) (hB:w.heap.size=B) (hx:a.eval x=.slice (some ⟨B,0,none⟩) 1 1) (hl:cs.length=size) (h1:∀u∈cs,u.oneCell'=true)
  (hn:n<=5864062014800) (U:aH<=w.heap.size)
  (h:∀g aJ w',w'.ownsRow aH e size (.slice (some ⟨g,0,none⟩) (n+1) aJ) (n+1) (xs++cs)->(w.alloc (.cells cs.toArray J)).grownBy w' v.ownBlock->(v.ownBlock=some g\/g=w.heap.size+1)->g<w'.heap.size->
   wpList P ops Q rest (a.put o.dst (.slice (some ⟨g,0,none⟩) (n+1) aJ)) w'):wpList P ops Q (o::rest) a (w.alloc (.cells cs.toArray J)):=by
 subst hB;obtain⟨i,hi,hz,F,hb⟩:=QT D;refine QX _ X s x t ho aH e i z size C ht hi hz F hb Z Y v n xs hs (I.alloc _) ⟨w.heap.size,0,none⟩ 1 1 cs hx (by omega) ?_ h1 (by omega) (by unfold QZ;omega) ?_ (by simp;omega) (w.heap.size+1) (by simp) h
 ·have:=NM (w:=w.alloc (.cells cs.toArray J)) (B:=w.heap.size) (cs:=cs.toArray) (t:=J) (fr:=(0,0)) (QV w _);simpa using this
 ·have:=NH (show n+1<=5864062014801 by omega) V;omega
theorem Yo(w:tW){ops:Array Oper}{o:Oper}{a:Act}{K:Act->tW->Prop}{Q:Exit->Act->tW->Prop}{E:Prop}(X:o.guard=none)(s x:Operand)(t:TypeId)
  (ho:o.op=.call {callee:= .builtin .append,args:= #[s,x],argTypes:= #[t,t]})
  (aH:Nat) (e:TypeId) (z:tV) (size C:Nat) (ht:P.underlying t=some (.slice e)) (D:(P.info? e).map (λ i=>(i.zero,i.size,i.bytes))=some (some z,size,C))
  (Z:z.cells.size=size) (Y:0<size) (V:C<=24)
  (v:tV) (n:Nat) (xs:List tV) (cs:List tV) (J:TypeId) (hs:a.eval s=v) (I:w.ownsRow aH e size v n xs)
  (B:Nat) (hB:w.heap.size=B) (hx:a.eval x=.slice (some ⟨B,0,none⟩) 1 1) (hl:cs.length=size) (h1:∀u∈cs,u.oneCell'=true)
  (hn:n<=5864062014800) (U:aH<=w.heap.size)
  (h:∀g aJ w',w'.ownsRow aH e size (.slice (some ⟨g,0,none⟩) (n+1) aJ) (n+1) (xs++cs)->(w.alloc (.cells cs.toArray J)).grownBy w' v.ownBlock->(v.ownBlock=some g\/g=w.heap.size+1)->g<w'.heap.size->
   K (a.put o.dst (.slice (some ⟨g,0,none⟩) (n+1) aJ)) w'):if Region.wanted o (yielded ops a.tmps)=true then Oper.wp P o a (w.alloc (.cells cs.toArray J)) K Q else E:=by
 subst hB;obtain⟨i,hi,hz,F,hb⟩:=QT D;refine step_append_lies _ X s x t ho aH e i z size C ht hi hz F hb Z Y v n xs hs (I.alloc _) ⟨w.heap.size,0,none⟩ 1 1 cs hx (by omega) ?_ h1 (by omega) (by unfold QZ;omega) ?_ (by simp;omega) (w.heap.size+1) (by simp) h
 ·have:=NM (w:=w.alloc (.cells cs.toArray J)) (B:=w.heap.size) (cs:=cs.toArray) (t:=J) (fr:=(0,0)) (QV w _);simpa using this
 ·have:=NH (show n+1<=5864062014801 by omega) V;omega
structure RF(w:tW)(rb lo ib g aJ:Nat)(s:tB)(c:Nat):Prop where
 rd:sA w rb ib g aJ s
 c0:w.cell? ⟨rb,0,none⟩=some (.pointer (some ⟨ib,0,none⟩))
 c1:w.cell? ⟨rb,1,none⟩=some (.int .i64 (c:Int))
 fz:w.frozen? ⟨rb,1,none⟩=false
 b0:rb<w.heap.size
 b1:lo<=ib/\lo<=g/\lo<=rb
theorem RF.blocks{w w':tW}{s:tB}(h:RF w rb lo ib g aJ s c)(D:∀k,lo<=k->k<=rb->w'.heap[k]?=w.heap[k]?)(J:w.heap.size<=w'.heap.size):RF w' rb lo ib g aJ s c:=by
 obtain⟨Q,U,V⟩:=h.b1;have F:=h.rd.hb;have hg:=h.rd.hg;have o:=D ib Q (by omega);have I:=D g U (by omega);have C:=D rb V lR;exact⟨⟨(LC (w:=w) (a:=⟨ib,0,none⟩) o).trans h.rd.c0,(LC (w:=w) (a:=⟨ib,3,none⟩) o).trans h.rd.c3,(LC (w:=w) (a:=⟨ib,4,none⟩) o).trans h.rd.c4,(LC (w:=w) (a:=⟨ib,5,none⟩) o).trans h.rd.c5,λ i hi=>(LC (w:=w) (a:=⟨g,i,none⟩) I).trans (h.rd.at_ i hi),F,hg⟩,
  (LC (w:=w) (a:=⟨rb,0,none⟩) C).trans h.c0,(LC (w:=w) (a:=⟨rb,1,none⟩) C).trans h.c1,(LP (w:=w) (a:=⟨rb,1,none⟩) C).trans h.fz,LJ h.b0 J,h.b1⟩
structure wX where
 cb:Nat
 lo:Nat
 bb:Nat
 vg:Nat
 aU:Nat
 yb:Nat->Nat
 zb:Nat->Nat->Nat
 rb:Nat
 lo2:Nat
 ib:Nat
 g:Nat
 aJ:Nat
 s:tB
 c:Nat
def wX.cells(t:wX):List tV:= [.pointer (some ⟨t.cb,0,none⟩),.pointer (some ⟨t.rb,0,none⟩)]
def Nx(l:List wX):List tV:=l.flatMap wX.cells
structure TW(w:tW)(O:Nat->Nat)(j:Nat)(t:wX):Prop where
 ct:CT w t.cb t.lo t.s t.c t.bb t.vg t.aU t.yb t.zb
 rf:RF w t.rb t.lo2 t.ib t.g t.aJ t.s t.c
 o1:∀k,t.lo<=k->k<=t.cb->O k=19+4*j
 o2:∀k,t.lo2<=k->k<=t.rb->O k=19+4*j
 ne:t.cb<t.lo2
def MK(w:tW)(O:Nat->Nat)(i:Nat)(v:tV):Prop:=
 ∃a n aJ,v=.slice a n aJ/\n<=2000/\(0<n->∃g,a=some ⟨g,0,none⟩/\g<w.heap.size/\O g=16+4*i/\
  ∀k,k<n->w.cell? ⟨g,k*3,none⟩=some (.int .i64 (-9))/\w.cell? ⟨g,k*3+1,none⟩=some (.int .i64 (i:Int))/\w.cell? ⟨g,k*3+2,none⟩=some (.int .i64 (-9)))
structure OT(w:tW)(O:Nat->Nat)(B t:Nat)(v:tV)(T:List (Int×Int×Int)):Prop where
 ro:w.ownsRow (B+1) 79 3 v T.length (hZ T)
 tg:∀k,v.ownBlock=some k->O k=t
 ln:T.length<=1000
variable {w w':tW}{O O':Nat->Nat}
theorem TW.keep{j:Nat}{t:wX}(h:TW w O j t)(F:w.heap.size<=w'.heap.size)(D:∀k,k<w.heap.size->O k=19+4*j->w'.heap[k]?=w.heap[k]? /\O' k=O k):TW w' O' j t:=by
 have I:=h.ct.b0;have J:=h.rf.b0;exact⟨h.ct.blocks (λ k o C=>(D k (by omega) (h.o1 k o C)).1) F,h.rf.blocks (λ k o C=>(D k (by omega) (h.o2 k o C)).1) F,
  λ k o C=>(D k (by omega) (h.o1 k o C)).2.trans (h.o1 k o C),λ k o C=>(D k (by omega) (h.o2 k o C)).2.trans (h.o2 k o C),h.ne⟩
theorem MK.keep{v:tV}(h:MK w O i v)(Y:w.heap.size<=w'.heap.size)(J:∀k,k<w.heap.size->O k=16+4*i->w'.heap[k]?=w.heap[k]? /\O' k=O k):MK w' O' i v:=by
 obtain⟨a,n,aJ,e,V,I⟩:=h;refine⟨a,n,aJ,e,V,λ X=>?_⟩;obtain⟨g,F,hg,C,Q⟩:=I X;obtain⟨o,D⟩:=J g hg C;refine⟨g,F,LJ hg Y,D.trans C,λ k U=>?_⟩;obtain⟨x,y,z⟩:=Q k U;exact⟨(LC (w:=w) (a:=⟨g,k*3,none⟩) o).trans x,(LC (w:=w) (a:=⟨g,k*3+1,none⟩) o).trans y,(LC (w:=w) (a:=⟨g,k*3+2,none⟩) o).trans z⟩
theorem OT.keep{t:Nat}{v:tV}{T:List (Int×Int×Int)}(h:OT w O B t v T)(C:∀k,k<w.heap.size->O k=t->w'.heap[k]?=w.heap[k]? /\O' k=O k):OT w' O' B t v T:=
 ⟨iH h.ro (λ k o=>(C k (h.ro.lt k o).2 (h.tg k o)).1),λ k o=>(C k (h.ro.lt k o).2 (h.tg k o)).2.trans (h.tg k o),h.ln⟩
structure PI(B p:Nat)(w:tW)(O:Nat->Nat)(cs:List wX)(vb:Nat->tV)(bc:Nat->List tV)(q:Nat)(T:Nat->List (Int×Int×Int)):Prop where
 wb:∀f,f<7->w.cell? ⟨B,f,none⟩=some (vb f)
 wz:∀i,w.frozen? ⟨B,i,none⟩=false
 wt:O B=1/\B<w.heap.size
 b0:w.ownsRow (B+1) 96 2 (vb 0) cs.length (Nx cs)
 bk:∀f,1<=f->f<7->w.ownsRow (B+1) 29 1 (vb f) (bc f).length (bc f)
 bt:∀f k,f<7->(vb f).ownBlock=some k->O k=2+f
 mm:∀f i v,1<=f->f<=4->i<p->(bc f)[i]?=some v->MK w O i v
 wa:∀j v,q<=j->(bc 5)[j]?=some v->OT w O B (17+4*j) v (T j)
 we:∀j v,q<=j->(bc 6)[j]?=some v->OT w O B (18+4*j) v (T j)
 cu:∀j t,cs[j]?=some t->TW w O j t
 fr:∀k,w.heap.size<=k->O k=0
 cl:∀(j:Nat)(t:wX),cs[j]?=some t->B<t.lo/\B<t.lo2
variable {B p q:Nat}{cs:List wX}{vb:Nat->tV}{bc:Nat->List tV}{T:Nat->List (Int×Int×Int)}
theorem PI.own(h:PI B p w O cs vb bc q T){f k:Nat}(C:f<7)(o:(vb f).ownBlock=some k):B+1<=k/\k<w.heap.size:=by
 by_cases e:f=0
 ·subst e;exact h.b0.lt k o
 ·exact(h.bk f (by omega) C).lt k o
theorem PI.keep(h:PI B p w O cs vb bc q T)(V:w.heap.size<=w'.heap.size)(C:∀k,k<w.heap.size->O k≠0->w'.heap[k]?=w.heap[k]? /\O' k=O k)(D:∀k,w'.heap.size<=k->O' k=0):PI B p w' O' cs vb bc q T:=by
 obtain⟨o1,X⟩:=h.wt;obtain⟨Y,Z⟩:=C B X (by omega);exact⟨λ f D=>(LC (w:=w) (a:=⟨B,f,none⟩) Y).trans (h.wb f D),λ i=>(LP (w:=w) (a:=⟨B,i,none⟩) Y).trans (h.wz i),⟨Z.trans o1,LJ X V⟩,
  iH h.b0 (λ k o=>(C k (h.own (by omega) o).2 (by have:=h.bt 0 k (by omega) o;omega)).1),
  λ f Q F=>iH (h.bk f Q F) (λ k o=>(C k (h.own F o).2 (by have:=h.bt f k F o;omega)).1),
  λ f k D o=>(C k (h.own D o).2 (by have:=h.bt f k D o;omega)).2.trans (h.bt f k D o),
  λ f i v Q F hi J=>(h.mm f i v Q F hi J).keep V (λ k o U=>C k o (by omega)),
  λ j v I J=>(h.wa j v I J).keep (λ k o U=>C k o (by omega)),
  λ j v I J=>(h.we j v I J).keep (λ k o U=>C k o (by omega)),
  λ j t I=>(h.cu j t I).keep V (λ k o U=>C k o (by omega)),D,h.cl⟩
theorem PI.below(h:PI B p w O cs vb bc q T)(o:Bl w w'):PI B p w' O cs vb bc q T:=
 h.keep o.size (λ k C _=>⟨o.block k C,rfl⟩) (λ k C=>h.fr k (NE o.size C))
theorem PI.draw(h:PI B p w O cs vb bc q T)(n:Nat):PI B p (w.drewN n) O cs vb bc q T:=h.below ⟨rfl,rfl,rfl,lR,λ _ _=>rfl⟩
theorem PI.push(h:PI B p w O cs vb bc q T){f:Nat}(h1:1<=f)(h2:f<7){w4:tW}{o:Obj}{g aJ:Nat}{v:tV}
  (U:w4.ownsRow (B+1) 29 1 (.slice (some ⟨g,0,none⟩) ((bc f).length+1) aJ) ((bc f).length+1) (bc f++[v]))
  (Y:(w.alloc o).grownBy w4 (vb f).ownBlock) (aO:(vb f).ownBlock=some g\/g=w.heap.size+1)
  (hm:f<=4->(bc f).length<p->MK w O (bc f).length v) (h5:f=5->OT w O B (17+4*(bc 5).length) v (T (bc 5).length)) (h6:f=6->OT w O B (18+4*(bc 6).length) v (T (bc 6).length)):
  PI B p (w4.setCell ⟨B,f,none⟩ (.slice (some ⟨g,0,none⟩) ((bc f).length+1) aJ)) (λ k=>if k=g then 2+f else O k) cs (Y1 vb f (.slice (some ⟨g,0,none⟩) ((bc f).length+1) aJ)) (Y1 bc f (bc f++[v])) q T:=by
 obtain⟨o1,b1⟩:=h.wt;have bO:=Y.size;have ez:(w.alloc o).heap.size=w.heap.size+1:=by simp
 have bN:=(U.lt g rfl).2;have bS:(w4.setCell ⟨B,f,none⟩ (.slice (some ⟨g,0,none⟩) ((bc f).length+1) aJ)).heap.size=w4.heap.size:=by simp[LN]
 have bM:g<w.heap.size->O g=2+f:=λ hg=>by
  rcases aO with e|e
  ·exact h.bt f g h2 e
  ·omega
 have F:∀k,k<w.heap.size->O k≠1->O k≠2+f->(w4.setCell ⟨B,f,none⟩ (.slice (some ⟨g,0,none⟩) ((bc f).length+1) aJ)).heap[k]?=w.heap[k]? /\(if k=g then 2+f else O k)=O k:=λ k D bK aL=>by
  have aW:k≠B:=λ e=>bK (by rw[e];exact o1)
  have bC:k≠g:=λ e=>aL (by rw[e];exact bM (by omega))
  refine⟨(iC w4 B f _ aW).trans ((Y.block k (by omega) (λ e=>aL (h.bt f k h2 e.symm))).trans (MA w o k D)),aA bC⟩
 have X:w4.heap[B]?=w.heap[B]? :=(Y.block B (by omega) (λ e=>by have:=h.bt f B h2 e.symm;omega)).trans (MA w o B b1);have aR:g≠B:=by have:=(U.lt g rfl).1;omega
 refine⟨λ f' J=>?_,λ i=>by rw[LG];exact(LP (w:=w) (a:=⟨B,i,none⟩) X).trans (h.wz i),⟨(aA (Ne.symm aR)).trans o1,by omega⟩,?_,λ f' a1 V=>?_,λ f' k J D=>?_,λ f' i u a1 V Z C=>?_,λ j u hj C=>?_,λ j u hj C=>?_,λ j t hj=>?_,λ k D=>?_,h.cl⟩
 ·by_cases e:f'=f
  ·subst e;rw[iY];exact LH _ _ _ ((LC (w:=w) (a:=⟨B,f',none⟩) X).trans (h.wb f' J))
  ·rw[gZ _ _ e,LD (h:=by intro e';injection e';omega)];exact(LC (w:=w) (a:=⟨B,f',none⟩) X).trans (h.wb f' J)
 ·rw[gZ _ _ (show 0≠f by omega)];exact iH h.b0 (λ k D=>(F k (h.own (by omega) D).2 (by have:=h.bt 0 k (by omega) D;omega) (by have:=h.bt 0 k (by omega) D;omega)).1)
 ·by_cases e:f'=f
  ·subst e;rw[iY,iY,LR,MI];exact QN U (show B<B+1 by omega) _
  ·rw[gZ _ _ e,gZ _ _ e];exact iH (h.bk f' a1 V) (λ k D=>(F k (h.own V D).2 (by have:=h.bt f' k V D;omega) (by have:=h.bt f' k V D;omega)).1)
 ·by_cases e:f'=f
  ·subst e;rw[iY]at D;have aT:g=k:=by simpa[MG]using D
   rw[aB aT.symm]
  ·rw[gZ _ _ e]at D;have:=h.bt f' k J D;rw[(F k (h.own J D).2 (by omega) (by omega)).2];exact this
 ·have I:∀i u,MK w O i u->MK (w4.setCell ⟨B,f,none⟩ (.slice (some ⟨g,0,none⟩) ((bc f).length+1) aJ)) (λ k=>if k=g then 2+f else O k) i u:=λ i u Q=>Q.keep (by omega) (λ k D ho=>F k D (by omega) (by omega))
  by_cases e:f'=f
  ·subst e;rw[iY]at C;by_cases hi:i<(bc f').length
   ·rw[MS hi]at C;exact I i u (h.mm f' i u a1 V Z C)
   ·have hl:=(LI.1 C).1;rw[LR,MI]at hl;have ei:i=(bc f').length:=by omega
    subst ei;rw[MB lR,OH]at C;have eu:=sJ C
    subst eu;exact I _ _ (hm V Z)
  ·rw[gZ _ _ e]at C;exact I i u (h.mm f' i u a1 V Z C)
 ·have I:∀u j,OT w O B (17+4*j) u (T j)->OT (w4.setCell ⟨B,f,none⟩ (.slice (some ⟨g,0,none⟩) ((bc f).length+1) aJ)) (λ k=>if k=g then 2+f else O k) B (17+4*j) u (T j):=λ u j Q=>Q.keep (λ k D ho=>F k D (by omega) (by omega))
  by_cases e:5=f
  ·subst e;rw[iY]at C;by_cases hi:j<(bc 5).length
   ·rw[MS hi]at C;exact I u j (h.wa j u hj C)
   ·have hl:=(LI.1 C).1;rw[LR,MI]at hl;have ei:j=(bc 5).length:=by omega
    subst ei;rw[MB lR,OH]at C;have eu:=sJ C
    subst eu;exact I _ _ (h5 rfl)
  ·rw[gZ _ _ e]at C;exact I u j (h.wa j u hj C)
 ·have I:∀u j,OT w O B (18+4*j) u (T j)->OT (w4.setCell ⟨B,f,none⟩ (.slice (some ⟨g,0,none⟩) ((bc f).length+1) aJ)) (λ k=>if k=g then 2+f else O k) B (18+4*j) u (T j):=λ u j Q=>Q.keep (λ k D ho=>F k D (by omega) (by omega))
  by_cases e:6=f
  ·subst e;rw[iY]at C;by_cases hi:j<(bc 6).length
   ·rw[MS hi]at C;exact I u j (h.we j u hj C)
   ·have hl:=(LI.1 C).1;rw[LR,MI]at hl;have ei:j=(bc 6).length:=by omega
    subst ei;rw[MB lR,OH]at C;have eu:=sJ C
    subst eu;exact I _ _ (h6 rfl)
  ·rw[gZ _ _ e]at C;exact I u j (h.we j u hj C)
 ·exact(h.cu j t hj).keep (by omega) (λ k D ho=>F k D (by omega) (by omega))
 ·rw[aA (by omega)];exact h.fr k (by omega)
end
section
theorem cM:(Tryz.prog.info? 29).map (λ i=>(i.zero,i.size,i.bytes))=some (some (.slice none 0 0),1,24):=by kernel_rfl
theorem yX{w w4:tW}{o:Obj}{D:Option Nat}(C:(w.alloc o).grownBy w4 D)(F:∀k,D=some k->B<=k)(J:B<=w.heap.size):Below B w w4:=by
 have U:=C.size;have I:(w.alloc o).heap.size=w.heap.size+1:=by simp
 exact⟨C.os,C.tape,C.output,by omega,λ k Q=>(C.block k (by omega) (λ e=>by have:=F k e.symm;omega)).trans (MA w o k (by omega))⟩
variable {B p q:Nat}{w w':tW}{O:Nat->Nat}{cs:List wX}{vb:Nat->tV}{bc:Nat->List tV}{T:Nat->List (Int×Int×Int)}
theorem PI.setT(h:PI B p w O cs vb bc q T){D:Nat->List (Int×Int×Int)}(F:∀j,j<(bc 5).length\/j<(bc 6).length->D j=T j):PI B p w O cs vb bc q D:=
 ⟨h.wb,h.wz,h.wt,h.b0,h.bk,h.bt,h.mm,λ j v C o=>by rw[F j (.inl (LI.1 o).1)];exact h.wa j v C o,λ j v C o=>by rw[F j (.inr (LI.1 o).1)];exact h.we j v C o,h.cu,h.fr,h.cl⟩
theorem PI.tag(h:PI B p w O cs vb bc q T){v:tV}(t:Nat)(o:∀k,v.ownBlock=some k->O k=0/\k<w.heap.size):PI B p w (λ k=>if v.ownBlock=some k then t else O k) cs vb bc q T:=
 h.keep lR (λ k _ C=>⟨rfl,aA (λ e=>C (o k e).1)⟩) (λ k D=>by
  have:¬v.ownBlock=some k:=λ e=>by have:=(o k e).2;omega
  simp only[aA this];exact h.fr k D)
theorem Sm(w:tW){ops:Array Oper}{o:Oper}{a:Act}{K:Act->tW->Prop}{Q:Exit->Act->tW->Prop}{E:Prop}(F:o.guard=none)(x:Operand)
  (ho:o.op=.call {callee:= .builtin .append,args:= #[.const (.slice none 0 0),x],argTypes:= #[29,29]})
  (aH:Nat) (v:tV) (n:Nat) (xs:List tV) (hx:a.eval x=v) (C:w.ownsRow aH 79 3 v n xs) (h1:∀u∈xs,u.oneCell'=true) (hn:n<=1000) (hb:aH<=w.heap.size)
  (h:∀u w',w'.ownsRow aH 79 3 u n xs->w.grownBy w' none->(∀k,u.ownBlock=some k->w.heap.size<=k)->K (a.put o.dst u) w'):
  if Region.wanted o (yielded ops a.tmps)=true then Oper.wp LK o a w K Q else E:=by
 obtain⟨i,hi,hz,D,X⟩:=QT cJ;have I:=C.1;by_cases h0:n=0
 ·subst h0;have hw:Region.wanted o (yielded ops a.tmps)=true:=by simp[Region.wanted,F]
  rw[aB hw];obtain⟨va,vc,hv⟩:=gA C;have aL:xs=[]:=List.length_eq_zero_iff.1 (by omega);subst aL;have U:(Builtin.append_ #[29,29] o.type #[.slice none 0 0,v]).run LK w=.ok (.slice none 0 0) w:=by
   subst hv;have hs:Src LK i.size 29 (.slice va 0 vc) 0 [] w:=by
    cases va with
    | none=>exact Src.ofNil w MV vc
    | some ad=>exact Src.ofSlice w MV ad 0 vc [] (by simp) (λ j u hu=>by simp at hu) (λ u hu=>by cases hu)
   have hc:=hs.cells;simp[Builtin.append_,run_underlying MV,sizeOf,typeInfo,hi,hs.len,hc]
  unfold Oper.wp;have he:a.eval (.const (.slice none 0 0))=.slice none 0 0:=rfl;simp[execOp,ho,resolve,invoke,builtin,he,hx,U,Result.andThen];exact h _ _ (LS _ _ _ _) (World.grownBy.refl _ _) (λ k Z=>by simp[MG]at Z)
 ·obtain⟨g,aJ,hv,aO,aR⟩:=C.form (by omega);subst hv;refine step_append_lies w F (.const (.slice none 0 0)) x 29 ho aH 79 i _ 3 24 MV hi hz D X rfl (by decide) (.slice none 0 0) 0 [] rfl (LS _ _ _ _) ⟨g,0,none⟩ n aJ xs hx I (λ j u hj=>C.cells rfl j u hj) h1 (by omega) (by unfold QZ;omega) (by omega) hb w.heap.size rfl ?_;intro g4 cap4 w4 J Y V aT;rw[LM,OR]at J;rw[LM];refine h _ w4 J Y (λ k Z=>?_);rcases V with e|e
  ·cases e
  ·have:g4=k:=by simpa[MG]using Z
   omega
end
theorem JT{w:tW}{s aI:tB}{yb:Nat->Nat}{zb:Nat->Nat->Nat}(h:CT w cb lo s c bb vg aU yb zb):
  RA LK 92 #[.pointer (some ⟨cb,0,none⟩),.string aI] w λ e w'=>∃vt,e=.returned (.tuple #[vt,.int .i64 (CZ aI)])/\w'.ownsRow w.heap.size 79 3 vt (Jd s aI c).length (hZ (Jd s aI c))/\
   CT w' cb lo s (IN s aI c) bb vg aU yb zb/\w.grownBy w' (some cb):=by
 unfold Jd CZ IN;by_cases o:300<aI.size
 ·rw[aB o,aB o,aB o];refine(Qy o).mono ?_;rintro e w' ⟨rfl,rfl⟩;exact⟨_,rfl,LS _ _ _ _,h,World.grownBy.refl _ _⟩
 ·rw[aA o,aA o,aA o];refine(Xh h (by omega)).mono ?_;rintro e w' ⟨vt,rfl,D,C,hg⟩;exact⟨vt,rfl,D,C,hg⟩
theorem JF{s:tB}(C:s.size<=120000)(o:iF s=true):G5 s=0:=by unfold G5;rw[aA (by omega),aB o]
theorem f7{s:tB}(h:¬(s.size<=120000/\iF s=true)):((G5 s:Int) !=0)=true:=by
 rw[aD];unfold G5;by_cases o:120000<s.size
 ·rw[aB o];decide
 ·rw[aA o];rw[aA (λ C=>h ⟨by omega,C⟩)];decide
theorem Hd(s:tB)(w:tW)(hs:s.size<=QZ):
  RA LK 91 #[.string s] w λ e w'=>Bl w w'/\((¬(s.size<=120000/\iF s=true)/\e=.returned (.tuple #[.pointer none,.int .i64 (G5 s)]))\/
   (s.size<=120000/\iF s=true/\∃rb ib g aJ,e=.returned (.tuple #[.pointer (some ⟨rb,0,none⟩),.int .i64 0])/\RF w' rb w.heap.size ib g aJ s 0)):=by
 by_cases J:s.size<=120000/\iF s=true
 ·obtain⟨h1,X⟩:=J;have hc:=JF h1 X;have hm:=(kZ X).2.2.1;have bC:=fV hc;go_enter func91,ntmps91;go_wp2_with fail;refine(T6 s _ hs).mono ?_;rintro e w1 ⟨rfl,F⟩;have D:=fV F;rw[hc];clear F hc;go_wp2_with fail;refine(yM s _ h1).mono ?_;rintro e w2 ⟨v,rfl,Q,C⟩;obtain⟨rfl,va,vs,C⟩:=C X;have V:=fV (D.o.trans (Q.mono D.o.size));have aT:=D.o.size;have aW:=Q.size;obtain⟨g,aJ,aR,bK,bM⟩:=C.ra.form (by omega);subst aR;have U:=C.ra.lt g rfl;have aO:QP (RF (w2.alloc (.cells #[.pointer (some ⟨w1.heap.size,0,none⟩),.int .i64 0] 100)) w2.heap.size w.heap.size w1.heap.size g aJ s 0):=by
   have Y:Bl w2 (w2.alloc (.cells #[.pointer (some ⟨w1.heap.size,0,none⟩),.int .i64 0] 100)):=bR.alloc lR _;have I:w1.heap.size<w2.heap.size:=by have:=C.hb;have:=C.hz;omega
   refine⟨⟨(Y.cell (p:=⟨w1.heap.size,0,none⟩) I).trans C.c0,(Y.cell (p:=⟨w1.heap.size,3,none⟩) I).trans C.c3,(Y.cell (p:=⟨w1.heap.size,4,none⟩) I).trans C.c4,(Y.cell (p:=⟨w1.heap.size,5,none⟩) I).trans C.c5,λ i hi=>?_,I,U.2⟩,(PV _ _ _ 0 rfl).trans rfl,(PV _ _ _ 1 rfl).trans rfl,?_,by simp,⟨aT,by omega,by omega⟩⟩
   ·refine(Y.cell (p:=⟨g,i,none⟩) U.2).trans ?_;have:=C.ra.cells (g:=g) rfl i (.int .i64 ((pF s i+1:Nat):Int)) (by unfold Y8;rw[MC,MM hi];rfl);have Z:(⟨g,0,none⟩:Addr).add i=⟨g,i,none⟩:=by unfold Addr.add;split<;>simp_all
    rw[Z]at this;exact this
   ·rw[MJ]
  have aL:QP (Bl w (w2.alloc (.cells #[.pointer (some ⟨w1.heap.size,0,none⟩),.int .i64 0] 100))):=V.o.alloc V.o.size _;clear C Q U aW;rw[X];go_wp2;go_ret2;exact⟨aL.o,.inr ⟨h1,X,_,_,_,_,rfl,aO.o⟩⟩
 ·have hc:=f7 J;have HN:=fV J;clear J;go_enter func91,ntmps91;go_wp2_with fail;refine(T6 s _ hs).mono ?_;rintro e w1 ⟨rfl,F⟩;have D:=fV F;clear F;go_wp2;go_ret2;exact⟨D.o,.inl ⟨HN.o,rfl⟩⟩
theorem Xm{w:tW}{s aI:tB}(h:RF w rb lo ib g aJ s c)(hi:iF s=true)(hs:s.size<=120000)(hc:c<iM s):
  RA LK 93 #[.pointer (some ⟨rb,0,none⟩),.string aI] w λ e w'=>∃vt,e=.returned (.tuple #[vt,.int .i64 (CZ aI)])/\w'.ownsRow w.heap.size 79 3 vt (Jd s aI c).length (hZ (Jd s aI c))/\
   RF w' rb lo ib g aJ s (IN s aI c)/\w.grownBy w' (some rb):=by
 by_cases J:300<aI.size
 ·have hd:decide ((300:Int)<(aI.size:Int))=true:=by simp;omega
  have Y:Jd s aI c=[]:=by unfold Jd;rw[aB J]
  have Z:CZ aI=1:=by unfold CZ;rw[aB J]
  have e3:IN s aI c=c:=by unfold IN;rw[aB J]
  rw[Y,Z,e3];clear Y Z e3 J;go_enter func93,ntmps93;go_wp2;go_ret2;exact⟨_,rfl,LS _ _ _ _,h,World.grownBy.refl _ _⟩
 ·have hd:decide ((300:Int)<(aI.size:Int))=false:=by simp;omega
  have bM:aI.size<=300:=by omega
  have Y:Jd s aI c=(pY s aI c).1:=by unfold Jd;rw[aA J]
  have Z:CZ aI=0:=by unfold CZ;rw[aA J]
  have e3:IN s aI c=(pY s aI c).2.2:=by unfold IN;rw[aA J]
  rw[Y,Z,e3];clear Y Z e3 J;have X:=fV h;have c0:=h.c0;have c1:=h.c1;clear h;go_enter func93,ntmps93;go_upto_region 3 with fail
  go_region
  have aO:=(X.o.rd.below (B':=w.heap.size) ((MZ w.heap.size w).alloc lR (.cells #[.pointer (some ⟨ib,0,none⟩),.string aI,.int .i64 (c:Int),.slice none 0 0,.int .i64 0,.slice none 0 0] 224)) (MU X.o.b0)).drewN 1;have hcut:=((jG.start w ib aI c).drewN 1).raise;have U:QP (Bl w ((w.alloc (.cells #[.pointer (some ⟨ib,0,none⟩),.string aI,.int .i64 (c:Int),.slice none 0 0,.int .i64 0,.slice none 0 0] 224)).drewN 1)):=by
   have h:=(MZ w.heap.size w).alloc lR (.cells #[.pointer (some ⟨ib,0,none⟩),.string aI,.int .i64 (c:Int),.slice none 0 0,.int .i64 0,.slice none 0 0] 224);exact⟨h.os,h.tape,h.output,h.size,h.block⟩
  have bC:=X.o.b0;clear c0 c1;go_wp2_with fail;refine(Uf s aI rb ib g aJ c w.heap.size (w.heap.size+1) (.slice none 0 0) (.slice none 0 0) _ hi hs bM hc aO (MU bC) hcut).mono ?_;rintro e w2 ⟨rfl,aL,bO,H,vh,vt,D⟩;obtain⟨Q,EC⟩:=xE ((pY s aI c).2.2)
  obtain⟨T,ET⟩:=xE ((pY s aI c).1)
  rw[EC,ET]at D;replace EC:=fV EC;replace ET:=fV ET;have F:=fV (U.o.trans aL);have k2:=D.c2;have k5:=D.c5;have V:=fV D;have C:=fV (X.o.blocks (w':=w2) (λ k _ I=>F.o.block k (by omega)) F.o.size);have d1:=C.o.c1;have f1:=C.o.fz;have bS:(w2.setCell ⟨rb,1,none⟩ (.int .i64 (Q:Int))).cell? ⟨w.heap.size,5,none⟩=some vt:=by
   rw[LD (h:=by intro e;injection e;omega)];exact k5
  have aW:QP ((w2.setCell ⟨rb,1,none⟩ (.int .i64 (Q:Int))).ownsRow w.heap.size 79 3 vt T.length (hZ T)):=pA (QN V.o.rt (show rb<w.heap.size+1 by omega) _) (NJ _);have aR:QP (RF (w2.setCell ⟨rb,1,none⟩ (.int .i64 (Q:Int))) rb lo ib g aJ s Q):=by
   have I:∀k,k≠rb->(w2.setCell ⟨rb,1,none⟩ (.int .i64 (Q:Int))).heap[k]?=w2.heap[k]? :=λ k I=>iC w2 rb 1 _ I
   have bK:=C.o.rd.hb;have hg:=C.o.rd.hg;refine⟨⟨(LC (w:=w2) (a:=⟨ib,0,none⟩) (I ib (by omega))).trans C.o.rd.c0,(LC (w:=w2) (a:=⟨ib,3,none⟩) (I ib (by omega))).trans C.o.rd.c3,(LC (w:=w2) (a:=⟨ib,4,none⟩) (I ib (by omega))).trans C.o.rd.c4,(LC (w:=w2) (a:=⟨ib,5,none⟩) (I ib (by omega))).trans C.o.rd.c5,λ i hi=>(LC (w:=w2) (a:=⟨g,i,none⟩) (I g (by omega))).trans (C.o.rd.at_ i hi),bK,hg⟩,?_,LH _ _ _ d1,by rw[LG];exact f1,by simpa[LN]using C.o.b0,C.o.b1⟩;rw[LD (h:=by intro e;injection e;omega)];exact C.o.c0
  have aT:QP (w.grownBy (w2.setCell ⟨rb,1,none⟩ (.int .i64 (Q:Int))) (some rb)):=by
   have h:=(MZ 0 w2).setCell (p:=⟨rb,1,none⟩) zL (.int .i64 (Q:Int));refine⟨h.os.trans F.o.os,h.tape.trans F.o.tape,h.output.trans F.o.output,by simpa[LN]using F.o.size,λ k I bN=>(iC w2 rb 1 _ (λ e=>bN (by rw[e]))).trans (F.o.block k I)⟩
  clear aO hcut D aL V U F X C;go_wp2;go_ret2;exact⟨vt,rfl,by rw[ET.o];exact aW.o,by rw[EC.o];exact aR.o,aT.o⟩
section
variable {B p q:Nat}{w w':tW}{O:Nat->Nat}{cs:List wX}{vb:Nat->tV}{bc:Nat->List tV}{T:Nat->List (Int×Int×Int)}
theorem IC(l:List wX)(t:wX):Nx (l++[t])=Nx l++t.cells:=by unfold Nx;simp
theorem Jt:∀(l:List wX)(j:Nat)(t:wX),l[j]?=some t->(Nx l)[j*2]?=some (.pointer (some ⟨t.cb,0,none⟩))/\(Nx l)[j*2+1]?=some (.pointer (some ⟨t.rb,0,none⟩))
 | [],j,t,h=>by simp at h
 | x::l,0,t,h=>by
  have e:=sJ h
  subst e;exact⟨rfl,rfl⟩
 | x::l,j+1,t,h=>by
  have:=Jt l j t (by simpa using h);have e:Nx (x::l)=.pointer (some ⟨x.cb,0,none⟩):: .pointer (some ⟨x.rb,0,none⟩)::Nx l:=rfl;rw[e,show(j+1)*2=j*2+1+1 by omega];exact⟨by simpa using this.1,by rw[show j*2+1+1+1=(j*2+1)+1+1 by omega];simpa using this.2⟩
theorem Un:∀(l:List wX)(j:Nat)(t t':wX),l[j]?=some t->t'.cells=t.cells->Nx (l.set j t')=Nx l
 | [],j,t,t',h,_=>by simp at h
 | x::l,0,t,t',h,e=>by
  have o:=sJ h
  subst o;show t'.cells++Nx l=x.cells++Nx l;rw[e]
 | x::l,j+1,t,t',h,e=>by
  show x.cells++Nx (l.set j t')=x.cells++Nx l;rw[Un l j t t' (by simpa using h) e]
theorem PI.pushT(h:PI B p w O cs vb bc q T){w4:tW}{o:Obj}{g aJ n:Nat}{t:wX}{v0:tV}(hn:cs.length=n)(bO:vb 0=v0)
  (J:w4.ownsRow (B+1) 96 2 (.slice (some ⟨g,0,none⟩) (n+1) aJ) (n+1) (Nx cs++t.cells))
  (U:(w.alloc o).grownBy w4 v0.ownBlock) (aL:v0.ownBlock=some g\/g=w.heap.size+1) (ht:TW w O n t) (bN:B<t.lo/\B<t.lo2):
  PI B p (w4.setCell ⟨B,0,none⟩ (.slice (some ⟨g,0,none⟩) (n+1) aJ)) (λ k=>if k=g then 2 else O k) (cs++[t]) (Y1 vb 0 (.slice (some ⟨g,0,none⟩) (n+1) aJ)) bc q T:=by
 subst hn bO;obtain⟨o1,b1⟩:=h.wt;have bT:=U.size;have ez:(w.alloc o).heap.size=w.heap.size+1:=by simp
 have bS:=(J.lt g rfl).2;have cF:(w4.setCell ⟨B,0,none⟩ (.slice (some ⟨g,0,none⟩) (cs.length+1) aJ)).heap.size=w4.heap.size:=by simp[LN]
 have bM:g<w.heap.size->O g=2:=λ hg=>by
  rcases aL with e|e
  ·exact h.bt 0 g (by omega) e
  ·omega
 have D:∀k,k<w.heap.size->O k≠1->O k≠2->(w4.setCell ⟨B,0,none⟩ (.slice (some ⟨g,0,none⟩) (cs.length+1) aJ)).heap[k]?=w.heap[k]? /\(if k=g then 2 else O k)=O k:=λ k C bK Y=>by
  have aW:k≠B:=λ e=>bK (by rw[e];exact o1)
  have bC:k≠g:=λ e=>Y (by rw[e];exact bM (by omega))
  refine⟨(iC w4 B 0 _ aW).trans ((U.block k (by omega) (λ e=>Y (h.bt 0 k (by omega) e.symm))).trans (MA w o k C)),aA bC⟩
 have Q:w4.heap[B]?=w.heap[B]? :=(U.block B (by omega) (λ e=>by have:=h.bt 0 B (by omega) e.symm;omega)).trans (MA w o B b1);have aO:g≠B:=by have:=(J.lt g rfl).1;omega
 refine⟨λ f' I=>?_,λ i=>by rw[LG];exact(LP (w:=w) (a:=⟨B,i,none⟩) Q).trans (h.wz i),⟨(aA (Ne.symm aO)).trans o1,by omega⟩,?_,λ f' a1 X=>?_,λ f' k I C=>?_,λ f' i u a1 X aR V=>?_,λ j u F V=>?_,λ j u F V=>?_,λ j t' F=>?_,λ k C=>?_,λ j t' F=>?_⟩
 ·by_cases e:f'=0
  ·subst e;rw[iY];exact LH _ _ _ ((LC (w:=w) (a:=⟨B,0,none⟩) Q).trans (h.wb 0 I))
  ·rw[gZ _ _ e,LD (h:=by intro e';injection e';omega)];exact(LC (w:=w) (a:=⟨B,f',none⟩) Q).trans (h.wb f' I)
 ·rw[iY,IC,LR,MI];exact QN J (show B<B+1 by omega) _
 ·rw[gZ _ _ (by omega)];exact iH (h.bk f' a1 X) (λ k C=>(D k (h.own X C).2 (by have:=h.bt f' k X C;omega) (by have:=h.bt f' k X C;omega)).1)
 ·by_cases e:f'=0
  ·subst e;rw[iY]at C;have aT:g=k:=by simpa[MG]using C
   rw[aB aT.symm]
  ·rw[gZ _ _ e]at C;have:=h.bt f' k I C;rw[(D k (h.own I C).2 (by omega) (by omega)).2];exact this
 ·exact(h.mm f' i u a1 X aR V).keep (by omega) (λ k C ho=>D k C (by omega) (by omega))
 ·exact(h.wa j u F V).keep (λ k C ho=>D k C (by omega) (by omega))
 ·exact(h.we j u F V).keep (λ k C ho=>D k C (by omega) (by omega))
 ·have Z:∀j u,TW w O j u->TW (w4.setCell ⟨B,0,none⟩ (.slice (some ⟨g,0,none⟩) (cs.length+1) aJ)) (λ k=>if k=g then 2 else O k) j u:=λ j u V=>V.keep (by omega) (λ k C ho=>D k C (by omega) (by omega))
  by_cases hi:j<cs.length
  ·rw[MS hi]at F;exact Z j t' (h.cu j t' F)
  ·have hl:=(LI.1 F).1;rw[LR,MI]at hl;have ei:j=cs.length:=by omega
   subst ei;rw[MB lR,OH]at F;have eu:=sJ F
   subst eu;exact Z _ _ ht
 ·rw[aA (by omega)];exact h.fr k (by omega)
 ·by_cases hi:j<cs.length
  ·rw[MS hi]at F;exact h.cl j t' F
  ·have hl:=(LI.1 F).1;rw[LR,MI]at hl;have ei:j=cs.length:=by omega
   subst ei;rw[MB lR,OH]at F;have eu:=sJ F
   subst eu;exact bN
theorem PI.swap(h:PI B p w O cs vb bc q T){j:Nat}{t t':wX}(V:cs[j]?=some t)(hc:t'.cells=t.cells)(X:w.heap.size<=w'.heap.size)(U:∀k,k<w.heap.size->O k≠0->O k≠19+4*j->w'.heap[k]?=w.heap[k]?)(ht:TW w' O j t')(J:t'.lo=t.lo/\t'.lo2=t.lo2):PI B p w' O (cs.set j t') vb bc q T:=by
 have C:∀k,k<w.heap.size->O k≠0->O k≠19+4*j->w'.heap[k]?=w.heap[k]? /\O k=O k:=λ k I D h3=>⟨U k I D h3,rfl⟩
 obtain⟨o1,b1⟩:=h.wt;have e1:=U B b1 (by omega) (by omega);refine⟨λ f hf=>(LC (w:=w) (a:=⟨B,f,none⟩) e1).trans (h.wb f hf),λ i=>(LP (w:=w) (a:=⟨B,i,none⟩) e1).trans (h.wz i),⟨o1,LJ b1 X⟩,?_,
  λ f I D=>iH (h.bk f I D) (λ k o=>U k (h.own D o).2 (by have:=h.bt f k D o;omega) (by have:=h.bt f k D o;omega)),h.bt,
  λ f i v I D hi Q=>(h.mm f i v I D hi Q).keep X (λ k o ho=>C k o (by omega) (by omega)),
  λ j' v F Q=>(h.wa j' v F Q).keep (λ k o ho=>C k o (by omega) (by omega)),
  λ j' v F Q=>(h.we j' v F Q).keep (λ k o ho=>C k o (by omega) (by omega)),λ i u hi=>?_,λ k o=>h.fr k (NE X o),λ i u hi=>?_⟩
 ·rw[QF,Un cs j t t' V hc];exact iH h.b0 (λ k o=>U k (h.own (by omega) o).2 (by have:=h.bt 0 k (by omega) o;omega) (by have:=h.bt 0 k (by omega) o;omega))
 ·by_cases e:i=j
  ·subst e;rw[OG (LI.1 V).1]at hi;have Z:=sJ hi
   subst Z;exact ht
  ·rw[OK (λ Y=>e Y.symm)]at hi;exact(h.cu i u hi).keep X (λ k o ho=>C k o (by omega) (by omega))
 ·by_cases e:i=j
  ·subst e;rw[OG (LI.1 V).1]at hi;have Z:=sJ hi
   subst Z;rw[J.1,J.2];exact h.cl i t V
  ·rw[OK (λ Y=>e Y.symm)]at hi;exact h.cl i u hi
theorem PI.tagI(h:PI B p w O cs vb bc q T){lo:Nat}(t:Nat)(o:∀k,lo<=k->O k=0):PI B p w (λ k=>if lo<=k/\k<w.heap.size then t else O k) cs vb bc q T:=
 h.keep lR (λ k _ C=>⟨rfl,aA (λ e=>C (o k e.1))⟩) (λ k D=>by
  have:¬(lo<=k/\k<w.heap.size):=λ e=>by omega
  simp only[aA this];exact h.fr k D)
end
theorem bV:(Tryz.prog.info? 5).map (λ i=>(i.zero,i.size,i.bytes))=some (some (.int .u8 0),1,1):=by kernel_rfl
theorem JO(n:Nat):(QU (ML .u8 0).cells (n*1)).toList=(MD n (0:UInt8)).map (λ b=>ML .u8 (b.toNat:Int)):=by
 have h:∀i:Nat,(ML .u8 0).cells[i%(ML .u8 0).cells.size]! =ML .u8 0:=by
  intro i;have e:i%(ML .u8 0).cells.size=0:=by simp[PU,QK]
  rw[e];simp[PU]
 unfold QU;rw[Nat.mul_one];simp only[h,Array.toList_map,Array.toList_range];rw[List.map_replicate,List.eq_replicate_iff];exact⟨by simp,by intro b o;simp at o;exact o.2.symm⟩
theorem EZ:(QU (ML .u8 0).cells (256*1)).toList=(MD 256 (0:UInt8)).map (λ b=>ML .u8 (b.toNat:Int)):=JO 256
theorem IF(w1:tW)(B aH:Nat)(o:w1.ownsRow aH 5 1 (.slice (some ⟨B,0,none⟩) 256 256) 256 (QU (ML .u8 0).cells (256*1)).toList):
  (convert 116 9 (.slice (some ⟨B,0,none⟩) 256 256)).run LK w1=.ok (.string Zs) w1:=by
 have h:=run_convert_bytes_back (P:=LK) w1 116 9 5 ⟨B,0,none⟩ 256 (MD 256 (0:UInt8)) underlying116 underlying5 underlying9 (λ j C=>by
  refine o.cells (g:=B) rfl j _ ?_;rw[EZ,MC,LQ C];rfl)
 rw[PQ]at h;exact h
theorem Yh(w:tW):RA LK 28 #[] w λ e w'=>e=.returned (.string SM)/\Bl w w':=by
 obtain⟨i0,hi,D,F,I⟩:=QT bV;have J:QP (Tryz.prog.info? 5=some i0/\i0.zero=some (.int .u8 0)/\i0.size=1/\i0.bytes=1):=⟨hi,D,F,I⟩
 clear hi D F I;go_enter func28,ntmps28;go_wp2_with (at_make;refine wpList_make_full w rfl _ _ 116 rfl w.heap.size 5 i0 (.int .u8 0) 1 underlying116 J.o.1 J.o.2.1 J.o.2.2.1 .i64 .i64 256 256 256 rfl rfl rfl rfl (by rw[J.o.2.2.2];decide) (by unfold QZ;omega) lR ?_;intro w1 C hg;have Q:=IF w1 _ _ C;clear C);go_ret;refine⟨?_,bR.grown hg lR (λ k U=>by cases U)⟩;rw[<-Yi];rfl
theorem F3(x:Int)(w:tW):RA LK 9 #[.int .i64 x] w λ e w'=>e=.returned (.int .i64 x)/\w'=w:=by
 go_enter func9,ntmps9;go_wp2;go_ret;exact⟨rfl,rfl⟩
theorem fL:(Tryz.prog.info? 96).map (λ i=>(i.zero,i.size,i.bytes))=some (some (.agg #[.pointer none,.pointer none]),2,16):=by kernel_rfl
def Zp(B p q:Nat)(w:tW)(cs:List wX)(bc:Nat->List tV)(T:Nat->List (Int×Int×Int))(e:Ending)(w':tW):Prop:=
 e=.returned (.bool true)/\∃O' o C,PI B p w' O' o C bc q T/\o.length<=cs.length+1/\Below B w w'
theorem Lr{p q:Nat}{w:tW}{O:Nat->Nat}{cs:List wX}{vb:Nat->tV}{bc:Nat->List tV}{T:Nat->List (Int×Int×Int)}(h:PI B p w O cs vb bc q T)(s:tB)(hs:s.size<=QZ)(eR:cs.length<=5864062014800):
  RA LK 60 #[.pointer (some ⟨B,0,none⟩),.string s] w (Zp B p q w cs bc T):=by
 have bC:=h.wt.2;have HH:=fV h;clear h;by_cases Y:s.size<=120000/\iF s=true
 ·go_enter func60,ntmps60;go_wp2_with fail;refine(Gy s _).mono ?_;rintro e w1 ⟨V,⟨bM,_⟩|⟨_,_,cb,bb,vg,aU,yb,zb,rfl,bT⟩⟩
  ·exact absurd Y bM
  have I:=fV V;have aO:=fV bT;clear V bT;go_wp2_with fail;refine(Hd s _ hs).mono ?_;rintro e w2 ⟨D,⟨bM,_⟩|⟨_,_,rb,ib,g,aJ,rfl,bN⟩⟩
  ·exact absurd Y bM
  have eS:=I.o.size;have eT:=D.size;have Q:=fV (I.o.trans (D.mono eS));have J:=(HH.o.below Q.o).tagI (lo:=w.heap.size) (19+4*cs.length) (λ k hk=>HH.o.fr k hk);have X:=aO.o.blocks (w':=w2) (λ k h1 J=>D.block k (by have:=aO.o.b0;omega)) eT;have eN:QP (TW w2 (λ k=>if w.heap.size<=k/\k<w2.heap.size then 19+4*cs.length else O k) cs.length ⟨cb,w.heap.size,bb,vg,aU,yb,zb,rb,w1.heap.size,ib,g,aJ,s,0⟩):=
   ⟨X,bN,λ k h1 J=>aB ⟨h1,by have J:k<=cb:=J;have:=X.b0;omega⟩,λ k h1 J=>aB ⟨by have h1:w1.heap.size<=k:=h1;omega,by have J:k<=rb:=J;have:=bN.b0;omega⟩,aO.o.b0⟩
  have aW:=fV J;have U:=J.b0;have c0:=J.wb 0 (by omega);have f0:=J.wz 0;obtain⟨a0,k0,e0⟩:=gA U;obtain⟨n,en⟩:=xE (cs.length)
  rw[en]at e0 U eR;rw[e0]at c0 U;have cP:=fV e0;have bO:=fV U;have aT:QP (∀k,(MY a0 n k0).ownBlock=some k->B+1<=k):=λ k hk=>(bO.o.lt k hk).1
  have HN:=fV en;have bK:B<w2.heap.size:=by omega
  clear J X bN D U e0 HH aO en;go_wp2_with (first
   | (go_at_call 9;refine(F3 0 _).mono ?_;rintro e w3 ⟨rfl,aL⟩;rw[aL];clear aL)
   | (at_builtin;refine oB w2 rfl (.tmp 36) (.tmp 40) 88 rfl (B+1) 96 (.agg #[.pointer none,.pointer none]) 2 16 underlying88 fL rfl (by decide) (by decide) (.slice a0 n k0) n (Nx cs) [.pointer (some ⟨cb,0,none⟩),.pointer (some ⟨rb,0,none⟩)] _ rfl bO.o _ rfl rfl rfl (by simp[MF]) (by omega) (by omega) ?_;intro g4 cap4 w4 Z C aR eX;have m4:=((gH C (k:=B) bK (λ e=>by have:=aT.o B e.symm;omega)).1 0).trans c0;have n4:=((gH C (k:=B) bK (λ e=>by have:=aT.o B e.symm;omega)).2 0).trans f0;have eL:=fV Z;have bS:=fV C;have cF:=fV aR;clear Z C aR))
  have eM:=fV (aW.o.pushT (t:=⟨cb,w.heap.size,bb,vg,aU,yb,zb,rb,w1.heap.size,ib,g,aJ,s,0⟩) HN.o cP.o eL.o bS.o cF.o (by have:=eN.o;rw[HN.o]at this ⊢;exact this) ⟨bC,by show B<w1.heap.size;omega⟩);have cN:QP (Below B w (w4.setCell ⟨B,0,none⟩ (.slice (some ⟨g4,0,none⟩) (n+1) cap4))):=((Q.o.mono (MU bC)).trans (yX bS.o (λ k hk=>NE (NJ _) (aT.o k hk)) (MU bK))).setCell (p:=⟨B,0,none⟩) lR _;clear c0 f0 m4 n4;go_ret;exact⟨rfl,_,_,_,eM.o,by rw[LR,MI];exact lR,cN.o⟩
 ·have eO:=f7 Y;have gL:=fV eO;go_enter func60,ntmps60;go_wp2_with fail;refine(Gy s _).mono ?_;rintro e w1 ⟨V,F⟩;obtain⟨_,rfl⟩:=F.resolve_right (λ h=>Y ⟨h.1,h.2.1⟩);have I:=fV V;clear V;go_wp2_with fail;refine(Hd s _ hs).mono ?_;rintro e w2 ⟨D,F⟩;obtain⟨_,rfl⟩:=F.resolve_right (λ h=>Y ⟨h.1,h.2.1⟩);have Q:=fV (I.o.trans (D.mono I.o.size));have aW:=fV (HH.o.below Q.o);clear D I;generalize (G5 s:Int)=ck at*;go_wp2_with (first|(go_at_call 9;refine(F3 ck _).mono ?_;rintro e w3 ⟨rfl,aL⟩;rw[aL];clear aL));go_ret;exact⟨rfl,_,_,_,aW.o,NJ _,Q.o.mono (MU bC)⟩
