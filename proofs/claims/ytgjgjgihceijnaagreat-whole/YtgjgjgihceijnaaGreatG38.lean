import Derived.Test.YtgjgjgihceijnaaGreatG37
import Derived.Test.YtgjgjgihceijnaaGreatG32
open List renaming mem_append->aL,mem_singleton->aO,mem_cons_self->aR,getElem?_eq_some_iff->aT,not_mem_nil->bC,mem_cons_of_mem->bK,mem_of_getElem?->bM,getElem?_append_right->bO,getElem?_append_left->bS,length_singleton->bT,length_append->cF,foldl_append->cL,mem_cons->cN,getElem?_eq_getElem->cO,all_eq_true->cP,flatten_cons->eM,length_cons->eN,nodup_cons->eO,append_nil->eR,sum_cons->eT
open Nat renaming le_refl->bN,zero_add->eL,sub_self->eX
open Go.RowKit.Below renaming heap_alloc->cR
open Go.World renaming cell?_of_block->cT
open Go.Value renaming ownBlock->eS
namespace Go.Proofs.YtgjgjgihceijnaaGreat
open Go.Stn
abbrev LfT:=Nat×List Nat
def gS (l:List LfT)(x:LfT):Bool:=l.any (fun y=>gA y.1 y.2 x.1 x.2)
theorem lL {l:List LfT}{x:LfT}:gS l x=true↔x∈l:=by
 unfold gS gA;rw[List.any_eq_true];constructor
 ·rintro⟨y,hy,h⟩;rw[decide_eq_true_eq]at h;have:y=x:=Prod.ext h.1 h.2;rw[←this];exact hy
 ·intro h;exact⟨x,h,by simp⟩
def H7 (out:List LfT)(x:LfT):List LfT:=if gS out x=true then out else out++ [x]
def rN (r:Nat)(out:List LfT)(ms:List (List Nat)):List LfT:=ms.foldl (fun o m=>H7 o (r,m)) out
def rP (N:List RN)(c:Nat)(x:List Nat):List (List Nat):=hO (bD N c) N x
def pP (N:List RN)(c:Nat)(out:List LfT)(l:List LfT):List LfT:=l.foldl (fun o p=>rN p.1 o (rP N c p.2)) out
def dE (N:List RN)(c:Nat)(l:List LfT):List LfT:=pP N c [] l
theorem Nc (r:Nat)(out:List LfT)(ms:List (List Nat))(m:List Nat):rN r out (ms++ [m])=H7 (rN r out ms) (r,m):=by unfold rN;rw[cL];rfl
theorem Hc (N:List RN)(c:Nat)(out l:List LfT)(p:LfT):pP N c out (l++ [p])=rN p.1 (pP N c out l) (rP N c p.2):=by unfold pP;rw[cL];rfl
theorem Ol {out:List LfT}{x y:LfT}:x∈H7 out y↔x∈out\/x=y:=by
 unfold H7;split
 ·rename_i h;constructor
  ·exact .inl
  ·rintro(h1 | h1)
   ·exact h1
   ·rw[h1];exact lL.1 h
 ·rw[aL,aO]
theorem K4 {r:Nat}{x:LfT}:∀{ms:List (List Nat)} {out:List LfT},x∈rN r out ms↔x∈out\/∃m,m∈ms/\x=(r,m)
 | [],out=>by
  constructor
  ·exact .inl
  ·rintro(h | ⟨m,hm,_⟩)
   ·exact h
   ·exact absurd hm bC
 | a::ms,out=>by
  show x∈rN r (H7 out (r,a)) ms↔_;rw[K4,Ol];constructor
  ·rintro((h | h) | ⟨m,hm,h⟩)
   ·exact .inl h
   ·exact .inr ⟨a,aR,h⟩
   ·exact .inr ⟨m,bK _ hm,h⟩
  ·rintro(h | ⟨m,hm,h⟩)
   ·exact .inl (.inl h)
   ·rcases cN.1 hm with e | e
    ·rw[e]at h;exact .inl (.inr h)
    ·exact .inr ⟨m,e,h⟩
theorem zG {N:List RN}{c:Nat}{x:LfT}:∀{l out:List LfT},x∈pP N c out l↔x∈out\/∃p,p∈l/\p.1=x.1/\x.2∈rP N c p.2
 | [],out=>by
  constructor
  ·exact .inl
  ·rintro(h | ⟨m,hm,_⟩)
   ·exact h
   ·exact absurd hm bC
 | a::l,out=>by
  show x∈pP N c (rN a.1 out (rP N c a.2)) l↔_;rw[zG,K4];constructor
  ·rintro((h | ⟨m,hm,h⟩) | ⟨p,hp,h1,h2⟩)
   ·exact .inl h
   ·exact .inr ⟨a,aR,by rw[h],by rw[h];exact hm⟩
   ·exact .inr ⟨p,bK _ hp,h1,h2⟩
  ·rintro(h | ⟨p,hp,h1,h2⟩)
   ·exact .inl (.inl h)
   ·rcases cN.1 hp with e | e
    ·rw[e]at h1 h2;exact .inl (.inr ⟨x.2,h2,Prod.ext h1.symm rfl⟩)
    ·exact .inr ⟨p,e,h1,h2⟩
theorem yN {N:List RN}{c:Nat}{l:List LfT}{x:LfT}:x∈dE N c l↔∃p,p∈l/\p.1=x.1/\x.2∈rP N c p.2:=by
 unfold dE;rw[zG];exact⟨fun h=>h.resolve_left bC,.inr⟩
theorem Vc {out:List LfT}{x:LfT}(h:out.Nodup):(H7 out x).Nodup:=by
 unfold H7;split
 ·exact h
 ·rename_i hx;rw[List.nodup_append];refine⟨h,by simp,fun a ha b hb=> ?_⟩;rw[aO.1 hb];rintro rfl;exact hx (lL.2 ha)
theorem Ag {r:Nat}:∀{ms:List (List Nat)} {out:List LfT},out.Nodup->(rN r out ms).Nodup
 | [],_,h=>h
 | m::ms,out,h=>Ag (ms:=ms) (out:=H7 out (r,m)) (Vc h)
theorem I3 {N:List RN}{c:Nat}:∀{l out:List LfT},out.Nodup->(pP N c out l).Nodup
 | [],_,h=>h
 | p::l,out,h=>I3 (l:=l) (out:=rN p.1 out (rP N c p.2)) (Ag h)
theorem sN (N:List RN)(c:Nat)(l:List LfT):(dE N c l).Nodup:=I3 List.nodup_nil
theorem pB {α:Type} [DecidableEq α]:∀{l S:List α},l.Nodup->(∀x,x∈l->x∈S)->l.length<=S.length
 | [],S,_,_=>Nat.zero_le _
 | a::l,S,hn,h=>by
  have ha:=h a aR;rw[eO]at hn;have ih:=pB (S:=S.erase a) hn.2 (fun x hx=>by
   have hne:x≠a:=fun e=>hn.1 (by rw[←e];exact hx)
   exact(List.mem_erase_of_ne hne).2 (h x (bK _ hx)))
  rw[List.length_erase_of_mem ha]at ih;have:=List.length_pos_of_mem ha;rw[eN];omega
structure eC (N:List RN)(tops ks:List Nat):Prop where
 sh:kP N
 cl:aN N
 len:ks.length=tops.length
 tr:∀(r n k:Nat),tops[r]? =some n->ks[r]? =some k->n<N.length/\Tr N n k
 sum:ks.sum<=10
 r8:tops.length<=8
 n3:N.length<=3000
def UL (N:List RN)(tops:List Nat)(p:LfT):Prop:=∃n,tops[p.1]? =some n/\p.2∈pD N n
def UB (N:List RN)(tops:List Nat)(p:LfT):Prop:=∃n,tops[p.1]? =some n/\(p.2= [n]\/p.2∈pD N n)
theorem UL.ub {N:List RN}{tops:List Nat}{p:LfT}(h:UL N tops p):UB N tops p:=by
 obtain⟨n,h1,h2⟩:=h;exact⟨n,h1,.inr h2⟩
section
variable {N:List RN} {tops ks:List Nat}
theorem Nx:∀{l:List Nat} {k:Nat},k∈l->k<=l.sum
 | [],k,h=>absurd h bC
 | a::l,k,h=>by
  rw[eT];rcases cN.1 h with e | e
  ·omega
  ·have:=Nx e;omega
theorem eC.top (h:eC N tops ks){r n:Nat}(hr:tops[r]? =some n):∃k,ks[r]? =some k/\n<N.length/\Tr N n k/\k<=10:=by
 have hlt:=(aT.1 hr).1;have hk:=cO (l:=ks) (i:=r) (by rw[h.len];exact hlt);obtain⟨h1,h2⟩:=h.tr r n _ hr hk;have:=h.sum;have hle:=Nx (bM hk);exact⟨_,hk,h1,h2,by omega⟩
theorem Sm {B:Nat->List (List Nat)}{n:Nat}:hO B N [n]=B n:=by
 unfold hO;have:(if emB N n=true then hO B N []else [])= []:=by unfold hO;split<;> rfl
 rw[this,eR];simp
theorem eC.step_in (h:eC N tops ks){p:LfT}(hp:UB N tops p){c:Nat}{m:List Nat}(hm:m∈rP N c p.2):UL N tops (p.1,m):=by
 obtain⟨n,h1,h2⟩:=hp;obtain⟨k,_,hn,_,_⟩:=h.top h1;refine⟨n,h1, ?_⟩;unfold rP at hm;rcases h2 with e | e
 ·rw[e,Sm]at hm;exact E9 h.cl n hn m hm
 ·exact Uh h.cl n hn p.2 e m hm
theorem eC.step_all (h:eC N tops ks){l:List LfT}(hl:∀p,p∈l->UB N tops p){c:Nat}:∀p,p∈dE N c l->UL N tops p:=fun x hx=>by
 obtain⟨p,h1,h2,h3⟩:=yN.1 hx;have:=h.step_in (hl p h1) h3;rw[h2]at this;exact this
theorem Wv:∀(tops ks:List Nat) (r0:Nat),ks.length=tops.length->(∀(r n k:Nat),tops[r]? =some n->ks[r]? =some k->n<N.length/\Tr N n k)->∃S:List LfT,S.length<=ks.sum/\∀(r n:Nat) (y:List Nat),tops[r]? =some n->y∈pD N n->(r0+r,y)∈S
 | [],ks,r0,_,_=>⟨[],by simp,fun r n y h=>by simp at h⟩
 | t::tops,[],r0,hl,_=>by simp at hl
 | t::tops,k::ks,r0,hl,h=>by
  obtain⟨S,h1,h2⟩:=Wv tops ks (r0+1) (by simpa using hl) (fun r n q hn hq=>h (r+1) n q (by simpa using hn) (by simpa using hq));obtain⟨_,⟨T,h3,h4⟩,_⟩:=h 0 t k rfl rfl;refine⟨T.map (fun y=>(r0,y))++S,by rw[cF,List.length_map,eT];omega,fun r n y hn hy=> ?_⟩
  cases r with
  | zero=>
   have e:t=n:=by simpa using hn
   subst e;exact aL.2 (.inl (List.mem_map.2 ⟨y,h4 y hy,rfl⟩))
  | succ r=>
   have:=h2 r n y (by simpa using hn) hy;rw[show r0+1+r=r0+(r+1) by omega]at this;exact aL.2 (.inr this)
theorem eC.univ (h:eC N tops ks):∃S:List LfT,S.length<=10/\∀p,UL N tops p->p∈S:=by
 obtain⟨S,h1,h2⟩:=Go.Proofs.YtgjgjgihceijnaaGreat.Wv (N:=N) tops ks 0 h.len h.tr;have:=h.sum;refine⟨S,by omega,fun p hp=> ?_⟩;obtain⟨n,h3,h4⟩:=hp;have:=h2 p.1 n p.2 h3 h4;rw[eL]at this;exact this
theorem eC.few (h:eC N tops ks){l:List LfT}(hn:l.Nodup)(hl:∀p,p∈l->UL N tops p):l.length<=10:=by
 obtain⟨S,h1,h2⟩:=h.univ;have:=pB hn (fun x hx=>h2 x (hl x hx));omega
theorem eC.bnd (h:eC N tops ks){p:LfT}(hp:UB N tops p):(∀m,m∈p.2->m<N.length/\∀c,(bD N c m).length<=10)/\p.2.length<=700000/\p.1<tops.length:=by
 obtain⟨n,h1,h2⟩:=hp;obtain⟨k,_,hn,ht,hk⟩:=h.top h1;have h3:=h.n3;have hu:∀m,m∈p.2->Und N n m:=fun m hm=>by
  rcases h2 with e | e
  ·rw[e]at hm;rw[aO.1 hm];exact .refl
  ·exact Se h.cl n hn p.2 e m hm
 refine⟨fun m hm=>⟨(hu m hm).lt h.cl hn,fun c=>by have:=ht.2 m (hu m hm) c;omega⟩, ?_,(aT.1 h1).1⟩;rcases h2 with e | e
 ·rw[e,bT];omega
 ·have:=(Ij h.cl h.sh n hn p.2 e).2;omega
def WL (N:List RN)(l:List LfT)(r:Nat)(w:List Nat):Prop:=∃p,p∈l/\p.1=r/\kS (WN N) p.2 w
theorem eC.wl_step (h:eC N tops ks){l:List LfT}(hl:∀p,p∈l->UB N tops p){c:Nat}(hc:c<256)(r:Nat)(w:List Nat):WL N (dE N c l) r w↔WL N l r (c::w):=by
 have hrow:∀p,p∈l->((∃y,y∈rP N c p.2/\kS (WN N) y w)↔kS (WN N) p.2 (c::w)):=fun p hp=>
  Y4 h.sh p.2 (fun m hm=>Ti h.sh h.cl hc (m+1) m (by omega) ((h.bnd (hl p hp)).1 m hm).1) w
 constructor
 ·rintro⟨x,hx,h1,h2⟩;obtain⟨p,h3,h4,h5⟩:=yN.1 hx;exact⟨p,h3,by omega,(hrow p h3).1 ⟨x.2,h5,h2⟩⟩
 ·rintro⟨p,hp,h1,h2⟩;obtain⟨y,hy,h3⟩:=(hrow p hp).2 h2;exact⟨(p.1,y),yN.2 ⟨p,hp,rfl,hy⟩,h1,h3⟩
theorem eC.done (h:eC N tops ks)(x:List Nat):qQ N x=true↔kS (WN N) x []:=by
 unfold qQ;rw[cP,yC];exact⟨fun k m hm=>(xA h.sh m).1 (k m hm),fun k m hm=>(xA h.sh m).2 (k m hm)⟩
end
def M7 (N:List RN)(b:Int)(p:LfT):Int:=if qQ N p.2=true/\(b= -1\/(p.1:Int)<b)then(p.1:Int)else b
def eJ (N:List RN)(l:List LfT):Int:=l.foldl (M7 N) (-1)
theorem R9 (N:List RN)(l:List LfT)(p:LfT):eJ N (l++ [p])=M7 N (eJ N l) p:=by unfold eJ;rw[cL];rfl
def zE (N:List RN)(l:List LfT)(v:Int):Prop:=(v= -1/\∀p,p∈l->qQ N p.2=false)\/∃r:Nat,v=(r:Int)/\(∃p,p∈l/\p.1=r/\qQ N p.2=true)/\∀p,p∈l->qQ N p.2=true->r<=p.1
theorem zE.snoc {N:List RN}{l:List LfT}{v:Int}(h:zE N l v)(p:LfT):zE N (l++ [p]) (M7 N v p):=by
 unfold M7
 cases hd:qQ N p.2 with
 | false=>
  rw[if_neg (by simp)];rcases h with⟨h1,h2⟩ | ⟨r,h1,⟨q,h2,h3,h4⟩,h5⟩
  ·refine .inl ⟨h1,fun q hq=> ?_⟩;rcases aL.1 hq with e | e
   ·exact h2 q e
   ·rw[aO.1 e];exact hd
  ·refine .inr ⟨r,h1,⟨q,aL.2 (.inl h2),h3,h4⟩,fun x hx hy=> ?_⟩;rcases aL.1 hx with e | e
   ·exact h5 x e hy
   ·rw[aO.1 e,hd]at hy;cases hy
 | true=>
  simp only[true_and];rcases h with⟨h1,h2⟩ | ⟨r,h1,⟨q,h2,h3,h4⟩,h5⟩
  ·rw[if_pos (.inl h1)];refine .inr ⟨p.1,rfl,⟨p,aL.2 (.inr aR),rfl,hd⟩,fun x hx hy=> ?_⟩;rcases aL.1 hx with e | e
   ·rw[h2 x e]at hy;cases hy
   ·rw[aO.1 e];exact bN _
  ·by_cases hlt:(p.1:Int)<v
   ·rw[if_pos (.inr hlt)];refine .inr ⟨p.1,rfl,⟨p,aL.2 (.inr aR),rfl,hd⟩,fun x hx hy=> ?_⟩;rcases aL.1 hx with e | e
    ·have:=h5 x e hy;omega
    ·rw[aO.1 e];exact bN _
   ·rw[if_neg (by omega)];refine .inr ⟨r,h1,⟨q,aL.2 (.inl h2),h3,h4⟩,fun x hx hy=> ?_⟩;rcases aL.1 hx with e | e
    ·exact h5 x e hy
    ·rw[aO.1 e];omega
theorem En (N:List RN)(l:List LfT):zE N l (eJ N l):=by
 have go:∀(m l:List LfT),zE N l (eJ N l)->zE N (l++m) (eJ N (l++m)):=by
  intro m
  induction m with
  | nil=>intro l h;rw[eR];exact h
  | cons p m ih=>
   intro l h;have:=ih (l++ [p]) (by rw[R9];exact h.snoc p);rw[List.append_assoc]at this;exact this
 have:=go l [] (.inl ⟨rfl,fun p hp=>absurd hp bC⟩);rw[List.nil_append]at this;exact this
def jN (a b:List LfT):Bool:=decide (a.length=b.length) && a.all (fun x=>gS b x)
theorem F1 {a b:List LfT}(ha:a.Nodup)(hb:b.Nodup):jN a b=true↔∀x,x∈a↔x∈b:=by
 unfold jN;rw[Bool.and_eq_true,decide_eq_true_eq,cP];constructor
 ·rintro⟨h1,h2⟩ x;refine⟨fun hx=>lL.1 (h2 x hx),fun hx=> ?_⟩;apply Classical.byContradiction;intro hn;have:=pB (l:=x::a) (S:=b) (by rw[eO];exact⟨hn,ha⟩) (fun y hy=>by
   rcases cN.1 hy with e | e
   ·rw[e];exact hx
   ·exact lL.1 (h2 y e))
  rw[eN]at this;omega
 ·intro h;refine⟨?_,fun x hx=>lL.2 ((h x).1 hx)⟩;have h1:=pB ha (fun x hx=>(h x).1 hx);have h2:=pB hb (fun x hx=>(h x).2 hx);omega
def pS (N:List RN)(a b:Nat):Bool:=N.all (fun x=>x.k !=0 || x.f a==x.f b)
theorem Pu {N:List RN}{a b:Nat}(h:pS N a b=true){n:Nat}{x:RN}(hx:N[n]? =some x)(hk:x.k=0):x.f a=x.f b:=by
 unfold pS at h;rw[cP]at h;have:=h x (bM hx);rw[hk]at this;simpa using this
theorem Tw {N:List RN}(hc:aN N){a b:Nat}(h:pS N a b=true):∀n,bD N a n=bD N b n:=by
 intro n
 induction n using Nat.strongRecOn with
 | ind n ih=>
  cases hx:N[n]? with
  | none=>unfold bD oQ;rw[hx]
  | some x=>
   have hm:∀m,m∈x.l->bD N a m=bD N b m:=fun m hm=>ih m (hc n x hx m hm)
   rw[wW hc hx,wW hc hx,mN x.l hm (fun _ _=>rfl),nZ x.l hm];by_cases hk:x.k=0
   ·rw[if_pos hk,if_pos hk,Pu h hx hk]
   ·rw[if_neg hk,if_neg hk]
    cases hl:x.l with
    | nil=>rfl
    | cons m l=>
     rw[hl]at hm;simp only[hm m aR]
theorem Q5 {N:List RN}(hc:aN N){a b:Nat}(h:pS N a b=true)(l:List LfT):dE N a l=dE N b l:=by
 have e:rP N a=rP N b:=by
  funext x
  unfold rP;exact mN x (fun m _=>Tw hc h m) (fun _ _=>rfl)
 unfold dE pP;rw[e]
end Go.Proofs.YtgjgjgihceijnaaGreat
namespace Go.Proofs.YtgjgjgihceijnaaGreat
open Go.RowKit Go.Stn
def ILp (w:World)(P:Nat->Prop)(v:Value)(ns:List Nat):Prop:=
 ∃a cap,v= .slice a ns.length cap/\ns.length<=cap/\(ns= []\/∃g o,a=some ⟨g,o,none⟩/\P g/\g<w.heap.size/\∀(i m:Nat),ns[i]? =some m->w.cell? ⟨g,o+i,none⟩=some (.int .i64 (m:Int)))
theorem ILp.il {w:World}{P:Nat->Prop}{v:Value}{ns:List Nat}(h:ILp w P v ns):IL w v ns:=by
 obtain⟨a,cap,e,hcp,h⟩:=h;refine⟨a,cap,e,hcp, ?_⟩;rcases h with h | ⟨g,o,h1,_,h2,h3⟩
 ·exact .inl h
 ·exact .inr ⟨g,o,h1,h2,h3⟩
theorem ILp.keep {w w':World}{P P':Nat->Prop}{v:Value}{ns:List Nat}(h:ILp w P v ns)(hz:w.heap.size<=w'.heap.size)(hB:∀k,P k->k<w.heap.size->w'.heap[k]? =w.heap[k]? /\P' k):ILp w' P' v ns:=by
 obtain⟨a,cap,e,hcp,h⟩:=h;refine⟨a,cap,e,hcp, ?_⟩;rcases h with h | ⟨g,o,h1,h0,h2,h4⟩
 ·exact .inl h
 ·obtain⟨e1,e2⟩:=hB g h0 h2;exact .inr ⟨g,o,h1,e2,by omega,fun i m hm=>(cT (w:=w) (a:=⟨g,o+i,none⟩) e1).trans (h4 i m hm)⟩
def zR {α:Type}(E:World->(Nat->Prop)->List Value->α->Prop):Prop:=
 ∀(w w':World) (P P':Nat->Prop) (c:List Value) (x:α),E w P c x->w.heap.size<=w'.heap.size->(∀k,P k->k<w.heap.size->w'.heap[k]? =w.heap[k]? /\P' k)->E w' P' c x
theorem E3 {z:Nat}:∀{cs:List (List Value)} {j i:Nat} {c:List Value},(∀c,c∈cs->c.length=z)->cs[j]? =some c->i<z->cs.flatten[j*z+i]? =c[i]?
 | [],j,i,c,_,h,_=>by simp at h
 | d::cs,0,i,c,hl,h,hi=>by
  have e:d=c:=by simpa using h
  subst e;rw[eM,Nat.zero_mul,eL,bS (by rw[hl d aR];exact hi)]
 | d::cs,j+1,i,c,hl,h,hi=>by
  have hd:=hl d aR;have e:(j+1)*z+i=z+(j*z+i):=by rw[Nat.add_mul];omega
  rw[eM,e,bO (by omega),hd,Nat.add_sub_cancel_left];exact E3 (fun c hc=>hl c (bK _ hc)) (by simpa using h) hi
def mG {α:Type}(E:World->(Nat->Prop)->List Value->α->Prop)(T:TypeId)(z:Nat)(w:World)(B:Nat)(P:Nat->Prop)(v:Value)(xs:List α)(cs:List (List Value)):Prop:=
 w.ownsRow B T z v xs.length cs.flatten/\cs.length=xs.length/\(∀c,c∈cs->c.length=z)/\∀(j:Nat) (c:List Value) (x:α),cs[j]? =some c->xs[j]? =some x->E w P c x
section
variable {α:Type} {E:World->(Nat->Prop)->List Value->α->Prop} {T:TypeId} {z B:Nat} {w w':World} {P P':Nat->Prop} {v:Value} {xs:List α} {cs:List (List Value)}
theorem mG.start (w:World)(B:Nat)(P:Nat->Prop):mG E T z w B P (.slice none 0 0) [] []:=⟨World.ownsRow_nil w B T z,rfl,fun c hc=>absurd hc bC,fun j c x h=>by simp at h⟩
theorem mG.keep (hE:zR E)(h:mG E T z w B P v xs cs)(hz:w.heap.size<=w'.heap.size)(ho:∀k,v.ownBlock=some k->w'.heap[k]? =w.heap[k]?)(hB:∀k,P k->k<w.heap.size->w'.heap[k]? =w.heap[k]? /\P' k):mG E T z w' B P' v xs cs:=
 ⟨cV h.1 ho,h.2.1,h.2.2.1,fun j c x hc hx=>hE w w' P P' c x (h.2.2.2 j c x hc hx) hz hB⟩
theorem mG.app (hE:zR E)(h:mG E T z w B P v xs cs){w4:World}{o:Obj}{g cap n:Nat}{u:List Value}{x:α}(hn:xs.length=n)(hu:E w P u x)(hul:u.length=z)
  (hown:w4.ownsRow B T z (.slice (some ⟨g,0,none⟩) (n+1) cap) (n+1) (cs.flatten++u)) (hgr:(w.alloc o).grownBy w4 v.ownBlock)
  (hP:∀k,P k->k<w.heap.size->v.ownBlock≠some k/\P' k):mG E T z w4 B P' (.slice (some ⟨g,0,none⟩) (n+1) cap) (xs++ [x]) (cs++ [u]):=by
 subst hn;have hsz:=hgr.size;have ez:(w.alloc o).heap.size=w.heap.size+1:=by simp
 have keep:∀k,P k->k<w.heap.size->w4.heap[k]? =w.heap[k]? /\P' k:=fun k hp hk=>by
  obtain⟨h1,h2⟩:=hP k hp hk;exact⟨(hgr.block k (by omega) (fun e=>h1 e.symm)).trans (cR w o k hk),h2⟩
 have hl:=h.2.1;refine⟨by rw[cF,bT,List.flatten_append,List.flatten_singleton];exact hown,by simp[hl],fun c hc=> ?_,fun j c y hc hy=> ?_⟩
 ·rcases aL.1 hc with e | e
  ·exact h.2.2.1 c e
  ·rw[aO.1 e];exact hul
 ·by_cases hj:j<cs.length
  ·rw[bS hj]at hc;rw[bS (by omega)]at hy;exact hE w w4 P P' c y (h.2.2.2 j c y hc hy) (by omega) keep
  ·have hlt:=(aT.1 hc).1;rw[cF,bT]at hlt;have e:j=cs.length:=by omega
   subst e;rw[bO (bN _),eX]at hc;rw[hl,bO (bN _),eX]at hy;have ea:u=c:=by simpa using hc
   have eb:x=y:=by simpa using hy
   subst ea eb;exact hE w w4 P P' u x hu (by omega) keep
theorem mG.at (h:mG E T z w B P v xs cs){j:Nat}{x:α}(hx:xs[j]? =some x):∃(g cap:Nat) (c:List Value),v= .slice (some ⟨g,0,none⟩) xs.length cap/\B<=g/\g<w.heap.size/\E w P c x/\c.length=z/\∀(i:Nat) (u:Value),c[i]? =some u->w.cell? ⟨g,j*z+i,none⟩=some u:=by
 obtain⟨a,cap,e⟩:=aK h.1;have hlt:=(aT.1 hx).1;have hj:j<cs.length:=by rw[h.2.1];exact hlt
 have hc:=cO hj;rcases bZ h.1 with e2 | ⟨g,c2,e2⟩
 ·rw[e]at e2;injection e2 with _ e3 _;omega
 ·have hb:=h.1.lt g (by rw[e2];rfl);rw[e]at e2;injection e2 with e3 _ _;refine⟨g,cap,_,by rw[e,e3],hb.1,hb.2,h.2.2.2 j _ x hc hx,h.2.2.1 _ (bM hc),fun i u hu=> ?_⟩;have hi:i<z:=by
   have:=(aT.1 hu).1;rw[h.2.2.1 _ (bM hc)]at this;exact this
  have:=h.1.cells (g:=g) (by rw[e,e3];rfl) (j*z+i) u ((E3 h.2.2.1 hc hi).trans hu);rw[iL,eL]at this;exact this
end
def pH (w:World)(P:Nat->Prop)(c:List Value)(x:LfT):Prop:=∃u,c= [.int .i64 (x.1:Int),u]/\ILp w P u x.2
theorem pH.keeps:zR pH:=fun _ _ _ _ _ _ ⟨u,h1,h2⟩ hz hB=>⟨u,h1,h2.keep hz hB⟩
def LFp (w:World)(P:Nat->Prop)(v:Value)(ls:List LfT):Prop:=
 ∃a cap,v= .slice a ls.length cap/\(ls= []\/∃g,a=some ⟨g,0,none⟩/\P g/\g<w.heap.size/\∀(k:Nat) (x:LfT),ls[k]? =some x->∃u,w.rangeAt g (k*2) [.int .i64 (x.1:Int),u]/\ILp w P u x.2)
theorem LFp.keep {w w':World}{P P':Nat->Prop}{v:Value}{ls:List LfT}(h:LFp w P v ls)(hz:w.heap.size<=w'.heap.size)(hB:∀k,P k->k<w.heap.size->w'.heap[k]? =w.heap[k]? /\P' k):LFp w' P' v ls:=by
 obtain⟨a,cap,e,h⟩:=h;refine⟨a,cap,e, ?_⟩;rcases h with h | ⟨g,h1,h2,h3,h4⟩
 ·exact .inl h
 ·obtain⟨e1,e2⟩:=hB g h2 h3;refine .inr ⟨g,h1,e2,by omega,fun k x hx=> ?_⟩;obtain⟨u,h5,h6⟩:=h4 k x hx;exact⟨u,fun i y hy=>(cT (w:=w) (a:=⟨g,k*2+i,none⟩) e1).trans (h5 i y hy),h6.keep hz hB⟩
theorem LFp.below {w w':World}{P:Nat->Prop}{v:Value}{ls:List LfT}(h:LFp w P v ls)(hB:Below w.heap.size w w'):LFp w' P v ls:=h.keep hB.size (fun k hp hk=>⟨hB.block k hk,hp⟩)
theorem LFp.mono {w:World}{P P':Nat->Prop}{v:Value}{ls:List LfT}(h:LFp w P v ls)(hp:∀k,P k->k<w.heap.size->P' k):LFp w P' v ls:=h.keep (bN _) (fun k h1 h2=>⟨rfl,hp k h1 h2⟩)
theorem mG.lf {w:World}{B:Nat}{P P':Nat->Prop}{v:Value}{ls:List LfT}{cs:List (List Value)}(h:mG pH 188 2 w B P v ls cs)(hp:∀k,P k->k<w.heap.size->P' k)(ho:∀k,B<=k->v.ownBlock=some k->P' k):LFp w P' v ls:=by
 obtain⟨a,cap,e⟩:=aK h.1;refine⟨a,cap,e, ?_⟩
 cases hl:ls with
 | nil=>exact .inl rfl
 | cons y l=>
  right;obtain⟨g,cap',_,e2,hb,hz,_⟩:=h.at (j:=0) (x:=y) (by rw[hl];rfl);rw[e]at e2;injection e2 with e3 _ _;refine⟨g,e3,ho g hb (by rw[e,e3];rfl),hz,fun k x hx=> ?_⟩;rw[←hl]at hx;obtain⟨g2,cap2,c,e4,_,_,⟨u,hc,hu⟩,_,hcell⟩:=h.at hx;rw[e,e3]at e4;injection e4 with e5 _ _;have e6:g=g2:=by injection e5 with e5;injection e5
  subst e6;refine⟨u,fun i y hy=>hcell i y (by rw[hc];exact hy),hu.keep (bN _) (fun k h1 h2=>⟨rfl,hp k h1 h2⟩)⟩
structure GR {α:Type}(E:World->(Nat->Prop)->List Value->α->Prop)(T:TypeId)(z:Nat)(w w1:World)(v1:Value)(wr:World)(v:Value)(xs:List α)(cs:List (List Value)):Prop where
 ro:mG E T z wr w.heap.size (fun g=>w.heap.size<=g/\v.ownBlock≠some g) v xs cs
 gr:w1.grownBy wr v1.ownBlock
 ow:∀g,v.ownBlock=some g->v1.ownBlock=some g\/w1.heap.size<=g
 bl:Below w.heap.size w wr
section
variable {α:Type} {E:World->(Nat->Prop)->List Value->α->Prop} {T:TypeId} {z:Nat} {w w1 wr:World} {v1 v:Value} {xs:List α} {cs:List (List Value)}
theorem GR.start (E:World->(Nat->Prop)->List Value->α->Prop)(T:TypeId)(z:Nat)(w:World):GR E T z w w (.slice none 0 0) w (.slice none 0 0) [] []:=⟨mG.start w _ _,⟨rfl,rfl,rfl,bN _,fun _ _ _=>rfl⟩,fun g e=>(by cases e),Below.refl _ _⟩
theorem GR.from (h:GR E T z w w1 v1 wr v xs cs):GR E T z w wr v wr v xs cs:=⟨h.ro,⟨rfl,rfl,rfl,bN _,fun _ _ _=>rfl⟩,fun _ e=> .inl e,h.bl⟩
theorem GR.below (hE:zR E){w':World}(h:GR E T z w w1 v1 wr v xs cs)(hB:Below wr.heap.size wr w'):GR E T z w w1 v1 w' v xs cs:=by
 have hz:=h.gr.size;have hz2:=h.bl.size;have hz3:=hB.size;exact⟨h.ro.keep hE hB.size (fun k hk=>hB.block k (h.ro.1.lt k hk).2) (fun k hp hk=>⟨hB.block k hk,hp⟩),⟨hB.os.trans h.gr.os,hB.tape.trans h.gr.tape,hB.output.trans h.gr.output,by omega,fun k hk hne=>(hB.block k (by omega)).trans (h.gr.block k hk hne)⟩,h.ow,⟨hB.os.trans h.bl.os,hB.tape.trans h.bl.tape,hB.output.trans h.bl.output,by omega,fun k hk=>(hB.block k (by omega)).trans (h.bl.block k hk)⟩⟩
theorem GR.app (hE:zR E)(h:GR E T z w w1 v1 wr v xs cs){w4:World}{o:Obj}{g cap n:Nat}{u:List Value}{x:α}(hn:xs.length=n)(hu:E wr (fun g=>w.heap.size<=g/\v.ownBlock≠some g) u x)(hul:u.length=z)
  (hown:w4.ownsRow w.heap.size T z (.slice (some ⟨g,0,none⟩) (n+1) cap) (n+1) (cs.flatten++u)) (hgr:(wr.alloc o).grownBy w4 v.ownBlock) (hat:v.ownBlock=some g\/g=wr.heap.size+1):
  GR E T z w w1 v1 w4 (.slice (some ⟨g,0,none⟩) (n+1) cap) (xs++ [x]) (cs++ [u]):=by
 have hsz:=hgr.size;have ez:(wr.alloc o).heap.size=wr.heap.size+1:=by simp
 have hz:=h.gr.size;have hz2:=h.bl.size;refine⟨h.ro.app hE hn hu hul hown hgr (fun k hp hk=>⟨hp.2,hp.1,fun e=> ?_⟩),⟨hgr.os.trans h.gr.os,hgr.tape.trans h.gr.tape,hgr.output.trans h.gr.output,by omega,fun k hk hne=> ?_⟩,fun k e=> ?_,⟨hgr.os.trans h.bl.os,hgr.tape.trans h.bl.tape,hgr.output.trans h.bl.output,by omega,fun k hk=> ?_⟩⟩
 ·have e:g=k:=by simpa[eS]using e
  subst e;rcases hat with e1 | e1
  ·exact hp.2 e1
  ·omega
 ·refine((hgr.block k (by omega) (fun e=> ?_)).trans (cR wr o k (by omega))).trans (h.gr.block k hk hne);rcases h.ow k e.symm with e1 | e1
  ·exact hne e1.symm
  ·omega
 ·have e:g=k:=by simpa[eS]using e
  subst e;rcases hat with e1 | e1
  ·exact h.ow g e1
  ·right;omega
 ·exact((hgr.block k (by omega) (fun e=>by have:=(h.ro.1.lt k e.symm).1;omega)).trans (cR wr o k (by omega))).trans (h.bl.block k hk)
end
end Go.Proofs.YtgjgjgihceijnaaGreat
