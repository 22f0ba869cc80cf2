import PyProof.Rows.All
import Wide.All
import OpenK.AllK
import Wide.FinOn
import Lean
import PyProof.EqAt
import PyProof.EqKinds
import PyProof.TupleCall
import KE.KIntText
import PyProof.FString
import PyProof.Rows.SetFrom
import PySem.Challenge.RW_doletaper_k36_rows_read
set_option Elab.async false
set_option compiler.extract_closed false
set_option linter.all false
set_option maxRecDepth 100000
set_option maxHeartbeats 4000000
open PySem
variable {f p it l r C dx ea L a1 a2 a3:Addr}{x qual z:Str}{s:Shared}{w:World}{M:Model}{pos px py:Pos}{F n t' i m:Nat}{q:Nat->Addr}{loose ns ps zs as:List Str}{α:Type}{N N':Addr->Prop}{us its:List Value}{u doc pm cdv ct oc cls:Value}{P prog:Program}{ch fp ex:List Addr}{A:Around}{E:Value->Shared->Prop}{pins:List (Addr×Obj)}{op:CmpOp}{K:W.Frag}{st:Stmt}{es ifs:List Expr}{tg iter elt:Expr}{j lo:Int}{body:List Stmt}{hi:Option Int}{pl:Sem Bool}{kw:List (Str×Value)}{env:Env}{mg:Str->Option Value}{base:Heap}{fd:FuncData}{outer:List Env}{scope:Scope}{an od:Option Addr}{T:String}{XP:(Str->Option Value)->Heap->Prop}{YP:World->Heap->Prop}{caps:List (Option Nat)}{ow:Addr->Nat}{qs:Nat->Nat->Addr}
def FC:=@if_neg
def FD:=@if_pos
def FE:=@Nat.le_refl
def FF:=@List.length_append
def FG:=@wpAny_bind
def FH:=@List.length_map
def FI:=@List.getElem?_eq_getElem
def FJ:=@Heap.lt_size
def FK:=@List.length_singleton
def FL:=@Bool.eq_false_iff
def FM:=@wpAny_pure
def FN:=@sizeLine_eq
def FO:=@boot_len
def FP:=@List.mem_cons
def FQ:=@List.mem_singleton
def FR:=@List.map_append
def FT:=@Heap.get?_push_of_some
def FU:=@Nat.ne_of_lt
def FV:=@List.size_toArray
def FW:=@Nat.lt_of_lt_of_le
def FX:=@Option.some.inj
def FY:=@Nat.lt_irrefl
def FZ:=@List.getElem?_eq_some_iff
def F0:=@List.getElem?_map
def F1:=@decide_eq_false
def F2:=@Nat.le_trans
def F4:=@Bool.false_ne_true
def F5:=@List.mem_cons_of_mem
def F6:=@Option.map_eq_some_iff
def F7:=@Nat.zero_le
def F8:=@PySem.F.plainAttrs_list
def F9:=@Int.emod_nonneg
def Ea:=@List.length_cons
def Eb:=@List.mem_cons_self
def Ec:=@List.mem_append
def Ed:=@wpAny_mono
def Ee:=@Heap.get?_push_size
def Ef:=@decide_eq_true
def Eg:=@List.take_of_length_le
def Eh:=@PySem.F.slot_list_append
def Ei:=@PySem.F.type_list_append
def Ej:=@Int.emod_lt_of_pos
def El:=@List.map_cons
def Em:=@List.getElem?_append_right
def En:=@List.getElem?_append_left
def Eo:=@List.mem_append_right
def Ep:=@List.length_take
def Er:=@PassesOwn.never
def Es:=@Nat.sub_self
def Et:=@List.take_add_one
def Eu:=@List.mem_filter
def Ew:=@Bool.and_eq_true
def Ex:=@List.all_eq_true
def Ey:=@Ne.symm
def Ez:=@Int.eq_ofNat_of_zero_le
def EA:=@Bool.eq_iff_iff
def EB:=@List.mem_map
def EC:=@PyProof.Rows.boot_list
def ED:=@List.getElem?_eq_none
def EE:=@List.mem_of_getElem?
def EF:=@List.mem_append_left
def EG:=@Nat.lt_succ_self
def EH:=@List.append_nil
def EI:=@of_decide_eq_true
def EJ:=@wpAny_passesOwn
def EK:=@codeAny_mono
def EL:=@List.length_drop
def EM:=@Bool.and_false
def EN:=@List.nodup_append
def EO:=@wpAny_truthy_bool
def ER:=@wpAny_execs_nil
def ES:=@wpAny_Call_Name_kw
def ET:=@Nat.le_succ
def EU:=@List.nodup_cons
def EV:=@List.find?_cons
def EW:=@decide_eq_true_eq
def EX:=@List.length_filter_le
def EY:=@PySem.mem_of_lookup
def EZ:=@Nat.lt_of_le_of_lt
def E3:=@Int.natAbs_mul
def E4:=@Classical.choose_spec
def E5:=@List.getElem?_cons_succ
def E6:=@List.ext_getElem?
def E7:=@Nat.le_of_lt
def E8:=@PyProof.Rows.callWith_type1
def E9:=@Bool.not_eq_true'
def Da:=@List.getD_eq_getElem?_getD
def Dc:=@Heap.get?_update_of_ne
def Dd:=@List.flatten_append
def De:=@Option.map_some
def Df:=@Nat.ne_of_gt
def Dg:=@List.filter_append
def Dh:=@List.nodup_nil
def Di:=@Heap.get?_update_self
def Dj:=@List.take_append_drop
noncomputable section
namespace Hd
open PySem PySem.W PySem.Calls PyProof.Rows
section
variable {α β:Type}
def ap (k:α->β)(x:α):β:=k x
def fB (b:Bool)(k:Bool->β):β:=@Bool.rec (λ_=>β) (ap k false) (ap k true) b
theorem Rc (b:Bool)(k:Bool->β):fB b k=k b:=by cases b<;>rfl
def fN (n:Nat)(k:Nat->β):β:=@Nat.rec (λ_=>β) (ap k 0) (λm _=>ap k (Nat.succ m)) n
theorem Yz (n:Nat)(k:Nat->β):fN n k=k n:=by cases n<;>rfl
def fL (f:α->(α->β)->β)(l:List α):(List α->β)->β:=
 @List.rec α (λ_=>(List α->β)->β) (λk=>ap k []) (λa _ ih k=>f a λa'=>ih λl'=>ap k (a' :: l')) l
theorem GF {f:α->(α->β)->β}(hf:∀a k,f a k=k a):∀(l:List α) (k:List α->β),fL f l k=k l
 | [],_=>rfl
 | a::l,k=>by show f a (λa'=>fL f l λl'=>ap k (a' :: l'))=_;rw[hf,GF hf l];rfl
def fA (f:α->(α->β)->β)(x:Array α)(k:Array α->β):β:=@Array.rec α (λ_=>β) (λl=>fL f l λl'=>ap k ⟨l'⟩) x
theorem V9 {f:α->(α->β)->β}(hf:∀a k,f a k=k a)(x:Array α)(k:Array α->β):fA f x k=k x:=by
 cases x with|mk l=>exact GF hf l _
def fO (f:α->(α->β)->β)(x:Option α)(k:Option α->β):β:=@Option.rec α (λ_=>β) (ap k none) (λa=>f a λa'=>ap k (some a')) x
theorem GE {f:α->(α->β)->β}(hf:∀a k,f a k=k a)(x:Option α)(k:Option α->β):fO f x k=k x:=by
 cases x with
 | none=>rfl
 | some a=>exact hf a _
def fV (v:Value)(k:Value->β):β:=@Value.rec (λ_=>β) (ap k .none) (ap k .ellipsis) (ap k .notImplemented) (λb=>fB b λb=>ap k (.bool b)) (λi t=>fN t λt=>ap k (.int i t)) (λi t=>ap k (.float i t))
 (λs t=>fN t λt=>ap k (.str s t)) (λb t=>ap k (.bytes b t)) (λs=>ap k (.type s)) (λs=>ap k (.builtin s)) (λa=>fN a λa=>ap k (.ref a)) v
theorem YO (v:Value)(k:Value->β):fV v k=k v:=by
 cases v<;>first|rfl|exact Rc _ _|exact Yz _ _
def fE (e:DictEntry)(k:DictEntry->β):β:=@DictEntry.rec (λ_=>β) (λh a b=>fV a λa=>fV b λb=>ap k ⟨h,a,b⟩) e
theorem Hy (e:DictEntry)(k:DictEntry->β):fE e k=k e:=by
 cases e with|mk h a b=>show fV a _=_;rw[YO,YO];rfl
def fF (f:FuncData)(k:FuncData->β):β:=@FuncData.rec (λ_=>β) (λnm qn pa bo sc gl cl de kw doc pm an cd ct bu=>fN gl λgl=>fV de λde=>fV kw λkw=>fV doc λdoc=>fV pm λpm=>fO fN an λan=>fV cd λcd=>fV ct λct=>fN bu λbu=>ap k ⟨nm,qn,pa,bo,sc,gl,cl,de,kw,doc,pm,an,cd,ct,bu⟩) f
theorem Hx (f:FuncData)(k:FuncData->β):fF f k=k f:=by
 cases f;show fN _ _=_;simp only[Yz,YO,GE Yz];rfl
def fC (c:ClassData)(k:ClassData->β):β:=@ClassData.rec (λ_=>β) (λnm ba mr ns qn hd sl su ab co de=>fL fV ba λba=>fL fV mr λmr=>fN ns λns=>fB hd λhd=>fL fV su λsu=>fB ab λab=>fB de λde=>ap k ⟨nm,ba,mr,ns,qn,hd,sl,su,ab,co,de⟩) c
theorem HA (c:ClassData)(k:ClassData->β):fC c k=k c:=by
 cases c;show fL _ _ _=_;simp only[Yz,Rc,GF YO];rfl
def fD (d:Data)(k:Data->β):β:=@Data.rec (λ_=>β) (ap k .plain) (λv=>fV v λv=>ap k (.prim v)) (λx n=>fA fV x λx=>fN n λn=>ap k (.seq x n)) (λx n=>fA fE x λx=>fN n λn=>ap k (.dict x n))
 (λx n t=>ap k (.set x n t)) (λb n=>ap k (.bytearray b n)) (λv=>fO fV v λv=>ap k (.cell v)) (λf=>fF f λf=>ap k (.func f)) (λc=>fC c λc=>ap k (.cls c)) (λx=>fA fV x λx=>ap k (.fields x)) (ap k .freed) d
theorem Hz (d:Data)(k:Data->β):fD d k=k d:=by
 cases d with
 | plain|set|bytearray|freed=>rfl
 | prim v=>exact YO _ _
 | seq x n=>show fA fV _ _=_;rw[V9 YO,Yz];rfl
 | dict x n=>show fA fE _ _=_;rw[V9 Hy,Yz];rfl
 | cell v=>exact GE YO _ _
 | func f=>exact Hx _ _
 | cls f=>exact HA _ _
 | fields f=>exact V9 YO _ _
def fObj (o:Obj)(k:Obj->β):β:=@Obj.rec (λ_=>β) (λc d x s=>fV c λc=>fO fN d λd=>fD x λx=>fA (fO fV) s λs=>ap k ⟨c,d,x,s⟩) o
theorem Vm (o:Obj)(k:Obj->β):fObj o k=k o:=by
 cases o;show fV _ _=_;rw[YO,GE Yz,Hz,V9 (GE YO)];rfl
def fT (t:BT):(BT->β)->β:=@BT.rec (λ_=>(BT->β)->β) (λk=>ap k .nil) (λv _ _ l r k=>fObj v λv=>l λl=>r λr=>ap k (.node v l r)) t
theorem MS:∀(t:BT) (k:BT->β),fT t k=k t
 | .nil,_=>rfl
 | .node v l r,k=>by show fObj v (λv=>fT l λl=>fT r λr=>ap k (.node v l r))=_;rw[Vm,MS l,MS r];rfl
def fP (p:Pos)(k:Pos->β):β:=@Pos.rec (λ_=>β) (λa b c d=>fN a λa=>fN b λb=>fN c λc=>fN d λd=>ap k ⟨a,b,c,d⟩) p
theorem Hw (p:Pos)(k:Pos->β):fP p k=k p:=by
 cases p;show fN _ _=_;simp only[Yz];rfl
def fS (s:SharedT)(k:SharedT->β):β:=@SharedT.rec (λ_=>β) (λt n li g d tk os=>fT t λt=>fN n λn=>fN tk λtk=>ap k ⟨t,n,li,g,d,tk,os⟩) s
theorem Ra (s:SharedT)(k:SharedT->β):fS s k=k s:=by
 cases s;show fT _ _=_;rw[MS,Yz,Yz];rfl
def fH (s:Shared)(k:Shared->β):β:=@Shared.rec (λ_=>β) (λh g d tk os=>@Heap.rec (λ_=>β) (λx li=>fA fObj x λx=>fN tk λtk=>ap k ⟨⟨x,li⟩,g,d,tk,os⟩) h) s
theorem Rb (s:Shared)(k:Shared->β):fH s k=k s:=by
 cases s with|mk h=>cases h;show fA _ _ _=_;rw[V9 Vm,Yz];rfl
end
def sp {α:Type}:List α->List α×List α
 | []=>([],[])
 | x::xs=>(x::(sp xs).2,(sp xs).1)
theorem Gk {α:Type}:∀(l:List α) (i:Nat),(sp l).1[i]?=l[2*i]?/\(sp l).2[i]?=l[2*i+1]?
 | [],i=>by simp[sp]
 | x::xs,i=>by
  obtain⟨a,b⟩:=Gk xs i;constructor
  ·cases i with
   | zero=>rfl
   | succ j=>show(sp xs).2[j]?=_;rw[(Gk xs j).2,show 2*(j+1)=2*j+1+1 by omega,E5]
  ·show(sp xs).1[i]?=_;rw[a,E5]
theorem BV {α:Type}:∀(l:List α),(sp l).1.length<=l.length/\(sp l).2.length<=l.length
 | []=>by simp[sp]
 | x::xs=>by
  obtain⟨a,b⟩:=BV xs;constructor<;>simp[sp]<;>omega
def JU:Nat->List Obj->BT
 | 0,_=>.nil
 | _+1,[]=>.nil
 | n+1,x::xs=>.node x (JU n (sp xs).1) (JU n (sp xs).2)
theorem WU:∀(n:Nat) (l:List Obj),l.length<=n->∀i,(JU n l).get i=l[i]?
 | 0,l,h,i=>by
  have:l=[]:=List.eq_nil_of_length_eq_zero (by omega);subst this;simp[JU,BT.get]
 | n+1,[],h,i=>by simp[JU,BT.get]
 | n+1,x::xs,h,i=>by
  have hs:=BV xs;have h':xs.length<=n:=by simpa using h
  rw[JU,BT.get_node,WU n _ (by omega),WU n _ (by omega),(Gk xs _).1,(Gk xs _).2];by_cases h0:i=0
  ·subst h0;rfl
  ·rw[FC h0];obtain⟨j,rfl⟩:∃j,i=j+1:=⟨i-1,by omega⟩
   rw[E5];by_cases h1:(j+1) % 2=1
   ·rw[FD h1,show 2*((j+1) / 2)=j by omega]
   ·rw[FC h1,show 2*((j+1) / 2-1)+1=j by omega]
theorem Bg (l:List Obj)(t:BT)(h:∀i,t.get i=l[i]?):t.list l.length=l:=by
 unfold BT.list;apply E6;intro i;rw[F0];by_cases hi:i<l.length
 ·rw[List.getElem?_range hi,De,h,FI hi];rfl
 ·rw[ED (by simpa using hi),ED (by omega)];rfl
def toT (s:Shared):SharedT:=⟨JU s.heap.objs.toList.length s.heap.objs.toList,s.heap.objs.toList.length,s.heap.life,s.gens,s.drawn,s.toks,s.os⟩
theorem Lp (s:Shared):(toT s).abs=s:=by
 obtain⟨⟨⟨l⟩,li⟩,g,d,tk,os⟩:=s;show(⟨absHeap _ _ _,_,_,_,_⟩:Shared)=_;simp only[toT,absHeap];rw[Bg l _ (WU _ l (FE _))]
section
variable {β:Type}
def stp (x:Option (Flow×SharedT×Code×Pos))(k:SharedT->Code->Pos->Option β):Option β:=match x with
 | some (.next,s,c,p)=>k s c p
 | _=>none
def go (seg:List Stmt->SharedT->Pos->Option (Flow×SharedT×Code×Pos))(gs:List (List Stmt)):List Code->SharedT->Pos->(List Code->SharedT->Pos->Option β)->Option β:=
 @List.rec (List Stmt) (λ_=>List Code->SharedT->Pos->(List Code->SharedT->Pos->Option β)->Option β) (λcs s p k=>k cs s p)
  (λg _ ih cs s p k=>stp (seg g s p) λs c p=>fS s λs=>fP p λp=>ih (c::cs) s p k) gs
theorem VC {x:Option (Flow×SharedT×Code×Pos)}{k:SharedT->Code->Pos->Option β}{a:β}(h:stp x k=some a):∃s c p,x=some (.next,s,c,p)/\k s c p=some a:=by
 unfold stp at h;split at h
 ·exact⟨_,_,_,rfl,h⟩
 ·cases h
theorem GA {seg:List Stmt->SharedT->Pos->Option (Flow×SharedT×Code×Pos)}{g:List Stmt}{gs:List (List Stmt)}{cs:List Code}{s:SharedT}{p:Pos}{k:List Code->SharedT->Pos->Option β} :
  go seg (g::gs) cs s p k=stp (seg g s p) λs c p=>go seg gs (c::cs) s p k:=by
 show stp (seg g s p) (λs c p=>fS s λs=>fP p λp=>go seg gs (c::cs) s p k)=_
 congr 1;funext s c p;rw[Ra,Hw]
theorem MN {seg:List Stmt->SharedT->Pos->Option (Flow×SharedT×Code×Pos)}{k:List Code->SharedT->Pos->Option (List Code×β)}{a:List Code×β}(hk:∀cs s p,k cs s p=some a->a.1=cs) :
  ∀(gs:List (List Stmt)) (cs:List Code) (s:SharedT) (p:Pos),go seg gs cs s p k=some a->∀d∈cs,d∈a.1
 | [],cs,s,p,h,d,hd=>by rw[hk cs s p h];exact hd
 | g::gs,cs,s,p,h,d,hd=>by
  rw[GA] at h;obtain⟨s',c',p',_,h2⟩:=VC h;exact MN hk gs _ s' p' h2 d (F5 _ hd)
variable {tb:String->Option Builtin} {p:Program} {w:World} {n₀:Nat} {ann:Option Value} {env:Env} {q:Pos}
theorem B9 {F M:Nat}{c:Code}{Z:Shared->Prop}{k:List Code->SharedT->Pos->Option (List Code×β)}{a:List Code×β}(hk:∀cs s p,k cs s p=some a->a.1=cs)(hc:∀d∈a.1,d=c)
  (fin:∀cs s pos,k cs s pos=some a->∃r,topRun tb p w n₀ ann M s.abs (restOf [] env c pos [topFrame q])=some r/\Z r) :
  ∀(gs:List (List Stmt)) (cs:List Code) (s:SharedT) (pos:Pos),go (λg s pos=>segRunT tb p w n₀ ann 1 F s (piecesOf g env c pos [topFrame q])) gs cs s pos k=some a ->
   ∃r,topRun tb p w n₀ ann (gs.length*F+M) s.abs (restOf gs.flatten env c pos [topFrame q])=some r/\Z r
 | [],cs,s,pos,h=>by
  obtain⟨r,h1,h2⟩:=fin cs s pos h;exact⟨r,by simpa using h1,h2⟩
 | g::gs,cs,s,pos,h=>by
  rw[GA] at h;obtain⟨s',c',p',h1,h2⟩:=VC h;have hc':c'=c:=hc _ (MN hk gs _ s' p' h2 c' (.head _));subst hc';obtain⟨r,h3,h4⟩:=B9 hk hc fin gs _ s' p' h2;refine⟨r,?_,h4⟩;have:=piece_app (rest:=gs.flatten) (segRun_of h1) h3;rw[List.flatten_cons,show(g::gs).length*F+M=F+(gs.length*F+M) by rw[Ea,Nat.add_mul];omega];exact this
end
def YQ {α:Type}(c:Nat):Nat->List α->List (List α)
 | 0,l=>[l]
 | _+1,[]=>[]
 | n+1,x::xs=>(x::xs.take c)::YQ c n (xs.drop c)
theorem JQ {α:Type}(c:Nat):∀(n:Nat) (l:List α),(YQ c n l).flatten=l
 | 0,l=>by simp[YQ]
 | n+1,[]=>rfl
 | n+1,x::xs=>by rw[YQ,List.flatten_cons,JQ c n];simp
def env0 (p:Program):Env:={ scope:=p.main.scope,locals:=mainNs,globals:=mainNs,cells:=[],code:=.ref 13,frame:=some 14 }
def Wp (p:Program):Code:=.body (behindTheImports p) (env0 p)
abbrev K0:Pos:=⟨0,0,0,0⟩
noncomputable abbrev start0 (P:Params) (os:OsState):Shared:=⟨boot_heap P,Array.mk [],boot_drawn,boot_toks,os⟩
section
variable {β:Type}
def fin0 (p:Program)(w:World)(M:Nat)(look:Shared->β)(cs:List Code)(s:SharedT)(pos:Pos):Option (List Code×β):=
 fL fObj (s.tree.list s.n) λl=>match topRun treeTable p w 11 (some (.ref 6)) M ⟨⟨⟨l⟩,s.life⟩,s.gens,s.drawn,s.toks,s.os⟩ (restOf [] (env0 p) (Wp p) pos [topFrame K0]) with
 | some r=>fH r λr=>some (cs,look r)
 | none=>none
theorem GD {p:Program}{M:Nat}{look:Shared->β}{cs:List Code}{s:SharedT}{a:List Code×β}(h:fin0 p w M look cs s pos=some a) :
  a.1=cs/\∃r,topRun treeTable p w 11 (some (.ref 6)) M s.abs (restOf [] (env0 p) (Wp p) pos [topFrame K0])=some r/\look r=a.2:=by
 unfold fin0 at h;rw[GF Vm] at h;have e:(⟨⟨⟨s.tree.list s.n⟩,s.life⟩,s.gens,s.drawn,s.toks,s.os⟩:Shared)=s.abs:=rfl;rw[e] at h;split at h
 ·rename_i r hr;rw[Rb] at h;cases h;exact⟨rfl,r,hr,rfl⟩
 ·cases h
def answer (p:Program)(c F M:Nat)(look:Shared->β)(w:World)(os:OsState):Option (Thread×Code×Pos×List Code×β):=
 match topGo treeTable p w 11 (some (.ref 6)) 12 (start0 w.params os) (topStub p) with
 | some (sa,ta)=>match segRun treeTable p w 11 (some (.ref 6)) 1 1 sa (blockOf (behindTheImports p) (env0 p) (Wp p) K0 [topFrame K0]) with
  | some (.next,sb,cb,pb)=>(fS (toT sb) λst=>go (λg s pos=>segRunT treeTable p w 11 (some (.ref 6)) 1 F s (piecesOf g (env0 p) (Wp p) pos [topFrame K0])) (YQ c 200 (behindTheImports p)) [] st pb (fin0 p w M look)).map λa=>(ta,cb,pb,a)
  | _=>none
 | none=>none
def answer0 (p:Program)(n:Nat)(b:β):Option (Thread×Code×Pos×List Code×β):=some (⟨denote treeTable (Wp p),Wp p,K0,[topFrame K0]⟩,Wp p,K0,List.replicate n (Wp p),b)
theorem ZX {p:Program}{c M:Nat}{look:Shared->β}{os:OsState}{b:β}(h:answer p c F M look w os=answer0 p n b) :
  ∃r,topRun treeTable p w 11 (some (.ref 6)) (12+(1+((YQ c 200 (behindTheImports p)).length*F+M))) (start0 w.params os) (topStub p)=some r/\look r=b:=by
 unfold answer answer0 at h;split at h
 ·rename_i sa ta hg;split at h
  ·rename_i sb cb pb hs;rw[Ra] at h;obtain⟨a,h1,h2⟩:=F6.mp h;simp only[Prod.mk.injEq] at h2;obtain⟨rfl,rfl,rfl,h3,h4⟩:ta=_/\cb=_/\pb=_/\a.1=_/\a.2=_:=by
    obtain⟨x1,x2,x3,x4⟩:=h2;exact⟨x1,x2,x3,congrArg Prod.fst x4,congrArg Prod.snd x4⟩
   obtain⟨r,k1,k2⟩:=B9 (Z:=λr=>look r=a.2) (c:=Wp p) (q:=K0) (env:=env0 p) (λcs s p e=>(GD e).1) (λd hd=>List.eq_of_mem_replicate (h3▸hd)) (λcs s pos e=>(GD e).2) _ _ _ _ h1;rw[Lp,JQ] at k1;exact⟨r,go_top hg (piece_block hs k1),k2.trans h4⟩
  ·cases h
 ·cases h
end
theorem Hl {p q:Program}{Xt:Shared->Bool}{Yf:Shared->α}{Ya:World->α}{N c M:Nat}(e:opening p=plainProg p.main.scope.names)(hN:Nat.ble 600 N=true)(f:∀s,fenceModules? p s=some s)
  (size:∀w:World,((boot_heap w.params).isNs mainGlobals&&(Array.mk []:Array GenState).size==0,(boot_heap w.params).objs.size,(boot_heap w.params).nsMap mainGlobals "__annotations__")=(true,11,some (Value.ref 6)))
  (ans:∀(w:World) (os:OsState),answer p c F M (λs=>((staticsOk (importedModules p.main.body) (boot_heap w.params) s.heap&&namesBound p s.heap&&gensDone s&&laidKept (boot_heap w.params) s.heap),Yf s)) w os=answer0 p n (true,Ya w))
  (ans2:∀(w:World) (os:OsState),answer p c F M (λs=>(openSeen q loose (importedModules p.main.body) Xt true s).1) w os=answer0 p n (openGood q loose).1)
  (ans3a:∀(w:World) (os:OsState),answer p c F M (λs=>(openSeen q loose (importedModules p.main.body) Xt true s).2.1) w os=answer0 p n (openGood q loose).2.1)
  (ans3b:∀(w:World) (os:OsState),answer p c F M (λs=>(openSeen q loose (importedModules p.main.body) Xt true s).2.2.1) w os=answer0 p n (openGood q loose).2.2.1)
  (ans3c:∀(w:World) (os:OsState),answer p c F M (λs=>(openSeen q loose (importedModules p.main.body) Xt true s).2.2.2.1) w os=answer0 p n (openGood q loose).2.2.2.1)
  (ans4:∀(w:World) (os:OsState),answer p c F M (λs=>(openSeen q loose (importedModules p.main.body) Xt true s).2.2.2.2) w os=answer0 p n (openGood q loose).2.2.2.2) (le:Nat.ble (12+(1+((YQ c 200 (behindTheImports p)).length*F+M))) N=true):LeftO p q loose Xt Yf Ya N:=λw=>by
 obtain⟨⟨h,gs,d,k,os⟩,e1,e2⟩:=F6.mp (boot_open e hN f w);obtain⟨rfl,rfl,rfl,rfl⟩:h=boot_heap w.params/\gs=Array.mk []/\d=boot_drawn/\k=boot_toks:=by simpa using e2
 obtain⟨z1,z2,z3⟩:_/\_/\_:=by simpa only[Prod.mk.injEq] using size w
 obtain⟨r,h1,h2⟩:=ZX (ans w os);simp only[Prod.mk.injEq] at h2;obtain⟨l1,l3⟩:=h2;obtain⟨r',h1',h2'⟩:=ZX (ans2 w os);obtain⟨ra,ha1,ha2⟩:=ZX (ans3a w os);obtain⟨rb,hb1,hb2⟩:=ZX (ans3b w os);obtain⟨rc,hc1,hc2⟩:=ZX (ans3c w os);obtain⟨r3,h3,h4⟩:=ZX (ans4 w os);rw[FX (h1'.symm.trans h1)] at h2';rw[FX (ha1.symm.trans h1)] at ha2;rw[FX (hb1.symm.trans h1)] at hb2;rw[FX (hc1.symm.trans h1)] at hc2;rw[FX (h3.symm.trans h1)] at h4;have l2:openSeen q loose (importedModules p.main.body) Xt true r=openGood q loose:=Prod.ext h2' (Prod.ext ha2 (Prod.ext hb2 (Prod.ext hc2 h4)));have r1:=topRun_mono (N-(12+(1+((YQ c 200 (behindTheImports p)).length*F+M)))) _ _ _ _ h1;rw[Nat.add_sub_cancel' (Nat.le_of_ble_eq_true le)] at r1;have t:topFrom treeTable p w N ⟨boot_heap w.params,Array.mk [],boot_drawn,boot_toks,os⟩=some r:=by
  unfold topFrom;rw[z1];simp only;rw[z2,z3,r1];simp only[Option.bind_some];rw[l1]
 unfold openEnds;rw[e1];simp only[Option.bind_some];rw[t];simp only[De,l2,l3]
theorem left_okF {p q:Program}{Xt:Shared->Bool}{Yf:Shared->α}{Ya:World->α}{N c M:Nat}{fin:World->OsState->Shared}(e:opening p=plainProg p.main.scope.names)(hN:Nat.ble 600 N=true)(f:∀s,fenceModules? p s=some s)
  (size:∀w:World,((boot_heap w.params).isNs mainGlobals&&(Array.mk []:Array GenState).size==0,(boot_heap w.params).objs.size,(boot_heap w.params).nsMap mainGlobals "__annotations__")=(true,11,some (Value.ref 6)))
  (ans:∀(w:World) (os:OsState),answer p c F M (λs=>s) w os=answer0 p n (fin w os))
  (a1:∀(w:World) (os:OsState),fH (fin w os) (λs=>((staticsOk (importedModules p.main.body) (boot_heap w.params) s.heap&&namesBound p s.heap&&gensDone s&&laidKept (boot_heap w.params) s.heap),Yf s))=(true,Ya w))
  (a2:∀(w:World) (os:OsState),fH (fin w os) (λs=>(openSeen q loose (importedModules p.main.body) Xt true s).1)=(openGood q loose).1)
  (a3:∀(w:World) (os:OsState),fH (fin w os) (λs=>(openSeen q loose (importedModules p.main.body) Xt true s).2.1)=(openGood q loose).2.1)
  (a4:∀(w:World) (os:OsState),fH (fin w os) (λs=>(openSeen q loose (importedModules p.main.body) Xt true s).2.2.1)=(openGood q loose).2.2.1)
  (a5:∀(w:World) (os:OsState),fH (fin w os) (λs=>(openSeen q loose (importedModules p.main.body) Xt true s).2.2.2.1)=(openGood q loose).2.2.2.1)
  (a6:∀(w:World) (os:OsState),fH (fin w os) (λs=>(openSeen q loose (importedModules p.main.body) Xt true s).2.2.2.2)=(openGood q loose).2.2.2.2) (le:Nat.ble (12+(1+((YQ c 200 (behindTheImports p)).length*F+M))) N=true):LeftO p q loose Xt Yf Ya N:=λw=>by
 obtain⟨⟨h,gs,d,k,os⟩,e1,e2⟩:=F6.mp (boot_open e hN f w);obtain⟨rfl,rfl,rfl,rfl⟩:h=boot_heap w.params/\gs=Array.mk []/\d=boot_drawn/\k=boot_toks:=by simpa using e2
 obtain⟨z1,z2,z3⟩:_/\_/\_:=by simpa only[Prod.mk.injEq] using size w
 obtain⟨r,h1,h2⟩:=ZX (ans w os);have b1:=a1 w os;have b2:=a2 w os;have b3:=a3 w os;have b4:=a4 w os;have b5:=a5 w os;have b6:=a6 w os;rw[Rb,<-h2] at b1 b2 b3 b4 b5 b6;simp only[Prod.mk.injEq] at b1;obtain⟨l1,l3⟩:=b1;have l2:openSeen q loose (importedModules p.main.body) Xt true r=openGood q loose:=Prod.ext b2 (Prod.ext b3 (Prod.ext b4 (Prod.ext b5 b6)));have r1:=topRun_mono (N-(12+(1+((YQ c 200 (behindTheImports p)).length*F+M)))) _ _ _ _ h1;rw[Nat.add_sub_cancel' (Nat.le_of_ble_eq_true le)] at r1;have t:topFrom treeTable p w N ⟨boot_heap w.params,Array.mk [],boot_drawn,boot_toks,os⟩=some r:=by
  unfold topFrom;rw[z1];simp only;rw[z2,z3,r1];simp only[Option.bind_some];rw[l1]
 unfold openEnds;rw[e1];simp only[Option.bind_some];rw[t];simp only[De,l2,l3]
end Hd
namespace Hd
open PySem PySem.W
theorem size (w:World):((boot_heap w.params).isNs mainGlobals&&(Array.mk []:Array GenState).size==0,(boot_heap w.params).objs.size,(boot_heap w.params).nsMap mainGlobals "__annotations__")=(true,11,some (Value.ref 6)):=by
 kernel_rfl
end Hd
namespace Hd
theorem len1 {P:List α->Prop}(h:∀a0,P [a0]):∀us:List α,us.length=1->P us
 | [a0],_=>h a0
theorem len2 {P:List α->Prop}(h:∀a0 a1,P [a0,a1]):∀us:List α,us.length=2->P us
 | [a0,a1],_=>h a0 a1
theorem len3 {P:List α->Prop}(h:∀a0 a1 a2,P [a0,a1,a2]):∀us:List α,us.length=3->P us
 | [a0,a1,a2],_=>h a0 a1 a2
theorem len4 {P:List α->Prop}(h:∀a0 a1 a2 a3,P [a0,a1,a2,a3]):∀us:List α,us.length=4->P us
 | [a0,a1,a2,a3],_=>h a0 a1 a2 a3
theorem len10 {P:List α->Prop}(h:∀a0 a1 a2 a3 a4 a5 a6 a7 a8 a9,P [a0,a1,a2,a3,a4,a5,a6,a7,a8,a9]):∀us:List α,us.length=10->P us
 | [a0,a1,a2,a3,a4,a5,a6,a7,a8,a9],_=>h a0 a1 a2 a3 a4 a5 a6 a7 a8 a9
end Hd
namespace L2
open PySem
def Qi (s:Stmt)(j:Nat):Stmt:=match s with
 | .ClassDef _ _ _ body _ _ _ _ _ _ _=>body.getD j (.Pass ⟨0,0,0,0⟩)
 | _=>.Pass ⟨0,0,0,0⟩
def QC (s:Stmt):Arguments:=match s with
 | .FunctionDef _ a _ _ _ _ _ _ _ _=>a
 | _=>{ posonlyargs:=[],args:=[],vararg:=none,kwonlyargs:=[],kw_defaults:=[],kwarg:=none,defaults:=[] }
def Qx (s:Stmt):List Stmt:=match s with
 | .FunctionDef _ _ b _ _ _ _ _ _ _=>b
 | _=>[]
def Qh (s:Stmt):Scope:=match s with
 | .FunctionDef _ _ _ _ _ _ sc _ _ _=>sc
 | _=>{ kind:=.function,names:=[],isGenerator:=false,isCoroutine:=false }
end L2
namespace My
open PySem PyProof.Rows L2
def top (i:Nat):Stmt:=PySem.Challenge.pw_doletaper_k36_rows_read.main.body.getD i (.Pass ⟨0,0,0,0⟩)
abbrev XO:Stmt:=top 11
abbrev Zh:Stmt:=top 13
abbrev Q8:Stmt:=top 18
abbrev ZL:Stmt:=top 19
abbrev Z2:Stmt:=top 20
abbrev Z4:Stmt:=top 22
abbrev XG:Stmt:=top 27
abbrev Z1:Stmt:=top 28
abbrev Xk:Stmt:=top 29
abbrev ZZ:Stmt:=top 30
abbrev ZK:Stmt:=top 31
abbrev QG:Stmt:=Qi (top 33) 0
abbrev Zs:Stmt:=Qi (top 34) 0
abbrev Ze:Stmt:=Qi (top 35) 0
abbrev Zo:Stmt:=Qi (top 39) 0
abbrev Zn:Stmt:=Qi (top 40) 0
abbrev Zl:Stmt:=Qi (top 41) 0
abbrev Zm:Stmt:=Qi (top 43) 0
abbrev Zk:Stmt:=Qi (top 44) 0
abbrev XQ:Stmt:=top 51
abbrev Z0:Stmt:=top 52
abbrev Xl:Stmt:=top 53
abbrev Z3:Stmt:=top 54
abbrev XR:Stmt:=top 55
abbrev XN:Stmt:=top 56
abbrev Zd:Stmt:=Qi (top 57) 0
abbrev QZ:Stmt:=Qi (top 57) 1
abbrev ZA:Stmt:=Qi (top 57) 2
abbrev QN:Stmt:=Qi (top 57) 3
abbrev Zz:Stmt:=Qi (top 57) 4
abbrev Q0:Stmt:=Qi (top 57) 5
abbrev Jr:Stmt:=top 58
abbrev Yo:Stmt:=top 60
abbrev XJ:Stmt:=top 61
abbrev Xm:Stmt:=top 62
abbrev Ym:Stmt:=top 63
abbrev Yl:Stmt:=top 64
abbrev Yi:Stmt:=top 65
abbrev XI:Stmt:=top 66
abbrev Yp:Stmt:=top 67
abbrev Xn:Stmt:=top 68
abbrev Yj:Stmt:=top 69
abbrev Yk:Stmt:=top 70
abbrev Yg:Stmt:=top 71
abbrev XH:Stmt:=top 72
abbrev XM:Stmt:=top 73
abbrev Wb:Stmt:=top 74
abbrev Wc:Stmt:=top 75
abbrev Yn:Stmt:=top 76
abbrev Yh:Stmt:=top 77
abbrev Z5:Stmt:=top 78
abbrev Z7:Stmt:=top 79
abbrev Z6:Stmt:=top 80
abbrev Z8:Stmt:=top 81
abbrev Zy:Stmt:=top 82
abbrev WY:Stmt:=top 83
abbrev Ek (P:Params)(x:Str)(t:Tok)(v:Value):DictEntry:=⟨PyData.keyHash P x,.str x t,v⟩
abbrev fO (m:Str)(t:Tok)(n q:Str)(s:Stmt)(d:Value)(c:Nat):Obj:=⟨.type "function",none,.func (W.fnOf n q (QC s) (Qx s) (Qh s) d .none .none (.str m t) none (.ref c) .none),#[]⟩
abbrev fO0:=fO "doletaper.people" 280
abbrev fO1:=fO "doletaper.ratios" 296
abbrev fO2:=fO "doletaper.words" 307
abbrev fO3:=fO "doletaper.forms" 356
abbrev fO4:=fO "doletaper.kinds" 403
abbrev fO5:=fO "doletaper.parts" 585
abbrev fO6:=fO "doletaper.reading" 877
abbrev fO7:=fO "law_doletaper_k36_rows_read" 1102
abbrev cO (n q:Str)(t:Nat)(l k:Int)(a b:Nat)(x y z:Value)(c u:Nat):Obj:=⟨.type "code",none,.fields #[.str n t,.str q (t+1),.str "/claim/cut.py" (t+2),.int l 0,.int k 0,.int 0 0,.int 0 0,.int 3 0,.ref a,.bool true,.int 181 0,.ref b,x,y,z,.ref c,.int u 0,.int l 0,.str "/claim/cut.py" (u+1)],#[]⟩
def hko_2 (P:Params):Obj:=⟨.none,none,(.dict #[] 0),#[]⟩
def hko_3_0 (P:Params):List DictEntry:=[Ek P "__name__" 165 (.str "law_doletaper_k36_rows_read" 1102),Ek P "__doc__" 166 .none,Ek P "__package__" 167 .none,Ek P "__loader__" 168 (.builtin "__main__.__loader__#opaque"),Ek P "__spec__" 169 .none,Ek P "__annotations__" 170 (.ref 6),Ek P "__builtins__" 171 (.ref 4),Ek P "__file__" 173 (.str "/claim/cut.py" 172)]
def hko_3_1 (P:Params):List DictEntry:=[Ek P "__cached__" 174 .none,Ek P "_wall" 193 (.ref 21),Ek P "HelpError" 213 (.ref 31),Ek P "Unknown" 238 (.ref 51),Ek P "NoWord" 254 (.ref 63),Ek P "NoRow" 279 (.ref 82),Ek P "LETTERS" 283 (.str "abcdefghijklmnopqrstuvwxyz" 282),Ek P "LONGEST_NAME" 285 (.int 8 284)]
def hko_3_2 (P:Params):List DictEntry:=[Ek P "OLDEST" 287 (.int 150 286),Ek P "MOST_COINS" 289 (.int 1000000000 288),Ek P "is_name" 295 (.ref 89),Ek P "common_divisor" 306 (.ref 96),Ek P "FIGURES" 310 (.str "0123456789" 309),Ek P "MOST_FIGURES" 312 (.int 10 311),Ek P "MOST_OF_RATES" 314 (.int 9999 313),Ek P "is_written_whole" 320 (.ref 101)]
def hko_3_3 (P:Params):List DictEntry:=[Ek P "whole_read" 329 (.ref 108),Ek P "rate_read" 339 (.ref 115),Ek P "rate_shown" 348 (.ref 122),Ek P "name_read" 355 (.ref 129),Ek P "AGES" 360 (.ref 130),Ek P "MOST_HEADS" 362 (.int 60 361),Ek P "WAYS" 366 (.ref 131),Ek P "most_of" 373 (.ref 138)]
def hko_3_4 (P:Params):List DictEntry:=[Ek P "unit_read" 381 (.ref 145),Ek P "way_read" 388 (.ref 152),Ek P "word_read" 396 (.ref 159),Ek P "words_read" 402 (.ref 164),Ek P "Kind" 496 (.ref 224),Ek P "Cap" 537 (.ref 252),Ek P "Office" 584 (.ref 287),Ek P "row_of" 592 (.ref 296)]
def hko_3_5 (P:Params):List DictEntry:=[Ek P "Part" 627 (.ref 320),Ek P "Base" 667 (.ref 355),Ek P "Each" 711 (.ref 388),Ek P "Rent" 753 (.ref 421),Ek P "Term" 788 (.ref 447),Ek P "From" 832 (.ref 482),Ek P "Upto" 876 (.ref 515),Ek P "FORMS" 915 (.ref 518)]
def hko_3_6 (P:Params):List DictEntry:=[Ek P "LISTS" 946 (.ref 519),Ek P "LONGEST" 965 (.ref 520),Ek P "MOST_KINDS" 967 (.int 8 966),Ek P "MOST_CAPS" 969 (.int 4 968),Ek P "form_of" 978 (.ref 527),Ek P "values_of" 987 (.ref 534),Ek P "thing_of" 995 (.ref 541),Ek P "new_draft" 1004 (.ref 548)]
def hko_3_7 (P:Params):List DictEntry:=[Ek P "fits_in" 1010 (.ref 553),Ek P "kind_of" 1019 (.ref 560),Ek P "Reader" 1089 (.ref 608),Ek P "read" 1101 (.ref 619),Ek P "_law_cell" 1111 (.ref 626),Ek P "_law_mixed" 1120 (.ref 633),Ek P "_law_common" 1128 (.ref 640),Ek P "_law_made" 1137 (.ref 647)]
def hko_3_8 (P:Params):List DictEntry:=[Ek P "_law_name" 1149 (.ref 654),Ek P "_law_rate" 1159 (.ref 661),Ek P "_law_shown" 1166 (.ref 668),Ek P "_law_ages" 1174 (.ref 675),Ek P "_law_amount" 1183 (.ref 682),Ek P "_law_pool" 1194 (.ref 689),Ek P "_law_part" 1205 (.ref 696),Ek P "_law_term" 1215 (.ref 703)]
def hko_3_9 (P:Params):List DictEntry:=[Ek P "_law_words" 1224 (.ref 710),Ek P "_law_limit" 1233 (.ref 717),Ek P "_law_put" 1239 (.ref 722),Ek P "_law_cap" 1245 (.ref 727),Ek P "_law_kind" 1251 (.ref 732),Ek P "_law_rows" 1264 (.ref 739),Ek P "_law_lacking" 1270 (.ref 744),Ek P "_law_is_part" 1278 (.ref 751)]
def hko_3_10 (P:Params):List DictEntry:=[Ek P "_law_is_term" 1287 (.ref 758),Ek P "_law_is_kind" 1304 (.ref 765),Ek P "_law_is_office" 1315 (.ref 772),Ek P "law" 1328 (.ref 779)]
def hko_3 (P:Params):Obj:=⟨(.type "dict"),none,(.dict (hko_3_0 P++hko_3_1 P++hko_3_2 P++hko_3_3 P++hko_3_4 P++hko_3_5 P++hko_3_6 P++hko_3_7 P++hko_3_8 P++hko_3_9 P++hko_3_10 P).toArray 84),#[]⟩
def hko_30 (P:Params):Obj:=⟨(.type "dict"),none,(.dict #[Ek P "__module__" 203 (.str "doletaper.errors" 194),Ek P "__firstlineno__" 207 (.int 5 206),Ek P "__static_attributes__" 208 (.ref 29),Ek P "__weakref__" 210 (.ref 32),Ek P "__doc__" 211 .none] 3),#[]⟩
def hko_31 (P:Params):Obj:=⟨(.type "type"),none,(.cls ⟨"HelpError",[(.type "ValueError")],[(.ref 31),(.type "ValueError"),(.type "Exception"),(.type "BaseException"),(.type "object")],30,"HelpError",true,[],[(.ref 51),(.ref 63),(.ref 82)],false,none,false⟩),#[(some (.ref 22)),none,(some (.str "HelpError" 196)),(some (.str "HelpError" 204)),(some (.builtin "ValueError.__new__")),(some (.bool true))]⟩
def hko_50 (P:Params):Obj:=⟨(.type "dict"),none,(.dict #[Ek P "__module__" 221 (.str "doletaper.errors" 194),Ek P "__firstlineno__" 225 (.int 7 224),Ek P "__init__" 233 (.ref 48),Ek P "__static_attributes__" 235 (.ref 49),Ek P "__doc__" 236 .none] 2),#[]⟩
def hko_51 (P:Params):Obj:=⟨(.type "type"),none,(.cls ⟨"Unknown",[(.ref 31)],[(.ref 51),(.ref 31),(.type "ValueError"),(.type "Exception"),(.type "BaseException"),(.type "object")],50,"Unknown",true,[],[],false,none,false⟩),#[(some (.ref 35)),none,(some (.str "Unknown" 214)),(some (.str "Unknown" 222)),(some (.builtin "ValueError.__new__")),(some (.bool true))]⟩
def hko_62 (P:Params):Obj:=⟨(.type "dict"),none,(.dict #[Ek P "__module__" 246 (.str "doletaper.errors" 194),Ek P "__firstlineno__" 250 (.int 11 249),Ek P "__static_attributes__" 251 (.ref 61),Ek P "__doc__" 252 .none] 2),#[]⟩
def hko_63 (P:Params):Obj:=⟨(.type "type"),none,(.cls ⟨"NoWord",[(.ref 31)],[(.ref 63),(.ref 31),(.type "ValueError"),(.type "Exception"),(.type "BaseException"),(.type "object")],62,"NoWord",true,[],[],false,none,false⟩),#[(some (.ref 54)),none,(some (.str "NoWord" 239)),(some (.str "NoWord" 247)),(some (.builtin "ValueError.__new__")),(some (.bool true))]⟩
def hko_81 (P:Params):Obj:=⟨(.type "dict"),none,(.dict #[Ek P "__module__" 262 (.str "doletaper.errors" 194),Ek P "__firstlineno__" 266 (.int 13 265),Ek P "__init__" 274 (.ref 79),Ek P "__static_attributes__" 276 (.ref 80),Ek P "__doc__" 277 .none] 2),#[]⟩
def hko_82 (P:Params):Obj:=⟨(.type "type"),none,(.cls ⟨"NoRow",[(.ref 31)],[(.ref 82),(.ref 31),(.type "ValueError"),(.type "Exception"),(.type "BaseException"),(.type "object")],81,"NoRow",true,[],[],false,none,false⟩),#[(some (.ref 66)),none,(some (.str "NoRow" 255)),(some (.str "NoRow" 263)),(some (.builtin "ValueError.__new__")),(some (.bool true))]⟩
def hko_88 (P:Params):Obj:=cO "is_name" "is_name" 290 22 1 85 86 .none .none .none 87 293
def hko_89 (P:Params):Obj:=fO0 "is_name" "is_name" XO .none 88
def hko_95 (P:Params):Obj:=cO "common_divisor" "common_divisor" 298 27 2 90 91 .none (.ref 92) (.ref 93) 94 304
def hko_96 (P:Params):Obj:=fO1 "common_divisor" "common_divisor" Zh .none 95
def hko_100 (P:Params):Obj:=cO "is_written_whole" "is_written_whole" 315 37 1 97 98 .none .none .none 99 318
def hko_101 (P:Params):Obj:=fO2 "is_written_whole" "is_written_whole" Q8 .none 100
def hko_107 (P:Params):Obj:=cO "whole_read" "whole_read" 321 43 2 102 103 .none (.ref 104) (.ref 105) 106 327
def hko_108 (P:Params):Obj:=fO2 "whole_read" "whole_read" ZL .none 107
def hko_114 (P:Params):Obj:=cO "rate_read" "rate_read" 330 50 1 109 110 .none (.ref 111) (.ref 112) 113 337
def hko_115 (P:Params):Obj:=fO2 "rate_read" "rate_read" Z2 .none 114
def hko_128 (P:Params):Obj:=cO "name_read" "name_read" 349 65 1 123 124 .none (.ref 125) (.ref 126) 127 353
def hko_129 (P:Params):Obj:=fO2 "name_read" "name_read" Z4 .none 128
def hko_130 (P:Params):Obj:=⟨(.type "tuple"),none,(.seq #[(.str "LOW" 358),(.str "HIGH" 359)] 0),#[]⟩
def hko_131 (P:Params):Obj:=⟨(.type "tuple"),none,(.seq #[(.str "down" 363),(.str "up" 364),(.str "near" 365)] 0),#[]⟩
def hko_137 (P:Params):Obj:=cO "most_of" "most_of" 367 73 1 132 133 .none (.ref 134) (.ref 135) 136 371
def hko_138 (P:Params):Obj:=fO3 "most_of" "most_of" XG .none 137
def hko_144 (P:Params):Obj:=cO "unit_read" "unit_read" 374 77 1 139 140 .none (.ref 141) (.ref 142) 143 379
def hko_145 (P:Params):Obj:=fO3 "unit_read" "unit_read" Z1 .none 144
def hko_151 (P:Params):Obj:=cO "way_read" "way_read" 382 82 1 146 147 .none (.ref 148) (.ref 149) 150 386
def hko_152 (P:Params):Obj:=fO3 "way_read" "way_read" Xk .none 151
def hko_158 (P:Params):Obj:=cO "word_read" "word_read" 389 86 2 153 154 .none (.ref 155) (.ref 156) 157 394
def hko_159 (P:Params):Obj:=fO3 "word_read" "word_read" ZZ .none 158
def hko_163 (P:Params):Obj:=cO "words_read" "words_read" 397 96 2 160 161 .none .none .none 162 400
def hko_164 (P:Params):Obj:=fO3 "words_read" "words_read" ZK .none 163
def hko_172 (P:Params):Obj:=⟨(.type "tuple"),none,(.seq #[.none,.none,(.str "down" 417)] 0),#[]⟩
def hko_178 (P:Params):Obj:=cO "__init__" "Kind.__init__" 418 104 10 173 174 .none (.ref 175) (.ref 176) 177 431
def hko_179 (P:Params):Obj:=fO4 "__init__" "Kind.__init__" QG (.ref 172) 178
def hko_223_0 (P:Params):List DictEntry:=[Ek P "__module__" 412 (.str "doletaper.kinds" 403),Ek P "__firstlineno__" 416 (.int 102 415),Ek P "__init__" 433 (.ref 179),Ek P "full_of" 441 (.ref 186),Ek P "may_have" 449 (.ref 193),Ek P "owns" 457 (.ref 200),Ek P "taken_off" 464 (.ref 207),Ek P "greatest_rate" 471 (.ref 214)]
def hko_223_1 (P:Params):List DictEntry:=[Ek P "amount_from" 479 (.ref 221),Ek P "__static_attributes__" 489 (.ref 222),Ek P "__dict__" 491 (.ref 225),Ek P "__weakref__" 493 (.ref 226),Ek P "__doc__" 494 .none]
def hko_223 (P:Params):Obj:=⟨(.type "dict"),none,(.dict (hko_223_0 P++hko_223_1 P).toArray 4),#[]⟩
def hko_224 (P:Params):Obj:=⟨(.type "type"),none,(.cls ⟨"Kind",[(.type "object")],[(.ref 224),(.type "object")],223,"Kind",true,[],[],false,none,false⟩),#[none,none,(some (.str "Kind" 405)),(some (.str "Kind" 413)),(some (.builtin "object.__new__")),(some (.bool true))]⟩
def hko_241 (P:Params):Obj:=cO "__init__" "Cap.__init__" 509 134 4 236 237 .none (.ref 238) (.ref 239) 240 516
def hko_242 (P:Params):Obj:=fO4 "__init__" "Cap.__init__" Zs .none 241
def hko_251 (P:Params):Obj:=⟨(.type "dict"),none,(.dict #[Ek P "__module__" 504 (.str "doletaper.kinds" 403),Ek P "__firstlineno__" 508 (.int 132 507),Ek P "__init__" 518 (.ref 242),Ek P "room_for" 526 (.ref 249),Ek P "__static_attributes__" 530 (.ref 250),Ek P "__dict__" 532 (.ref 253),Ek P "__weakref__" 534 (.ref 254),Ek P "__doc__" 535 .none] 4),#[]⟩
def hko_252 (P:Params):Obj:=⟨(.type "type"),none,(.cls ⟨"Cap",[(.type "object")],[(.ref 252),(.type "object")],251,"Cap",true,[],[],false,none,false⟩),#[none,none,(some (.str "Cap" 497)),(some (.str "Cap" 505)),(some (.builtin "object.__new__")),(some (.bool true))]⟩
def hko_269 (P:Params):Obj:=cO "__init__" "Office.__init__" 550 143 3 264 265 .none (.ref 266) (.ref 267) 268 556
def hko_270 (P:Params):Obj:=fO4 "__init__" "Office.__init__" Ze .none 269
def hko_286 (P:Params):Obj:=⟨(.type "dict"),none,(.dict #[Ek P "__module__" 545 (.str "doletaper.kinds" 403),Ek P "__firstlineno__" 549 (.int 141 548),Ek P "__init__" 558 (.ref 270),Ek P "kind" 567 (.ref 277),Ek P "named" 574 (.ref 284),Ek P "__static_attributes__" 577 (.ref 285),Ek P "__dict__" 579 (.ref 288),Ek P "__weakref__" 581 (.ref 289),Ek P "__doc__" 582 .none] 4),#[]⟩
def hko_287 (P:Params):Obj:=⟨(.type "type"),none,(.cls ⟨"Office",[(.type "object")],[(.ref 287),(.type "object")],286,"Office",true,[],[],false,none,false⟩),#[none,none,(some (.str "Office" 538)),(some (.str "Office" 546)),(some (.builtin "object.__new__")),(some (.bool true))]⟩
def hko_319 (P:Params):Obj:=⟨(.type "dict"),none,(.dict #[Ek P "__module__" 600 (.str "doletaper.parts" 585),Ek P "__firstlineno__" 604 (.int 158 603),Ek P "worth" 612 (.ref 310),Ek P "row" 619 (.ref 317),Ek P "__static_attributes__" 620 (.ref 318),Ek P "__dict__" 622 (.ref 321),Ek P "__weakref__" 624 (.ref 322),Ek P "__doc__" 625 .none] 4),#[]⟩
def hko_320 (P:Params):Obj:=⟨(.type "type"),none,(.cls ⟨"Part",[(.type "object")],[(.ref 320),(.type "object")],319,"Part",true,[],[(.ref 355),(.ref 388),(.ref 421)],false,none,false⟩),#[none,none,(some (.str "Part" 593)),(some (.str "Part" 601)),(some (.builtin "object.__new__")),(some (.bool true))]⟩
def hko_337 (P:Params):Obj:=cO "__init__" "Base.__init__" 640 167 2 332 333 .none (.ref 334) (.ref 335) 336 645
def hko_338 (P:Params):Obj:=fO5 "__init__" "Base.__init__" Zo .none 337
def hko_354 (P:Params):Obj:=⟨(.type "dict"),none,(.dict #[Ek P "__module__" 635 (.str "doletaper.parts" 585),Ek P "__firstlineno__" 639 (.int 165 638),Ek P "__init__" 647 (.ref 338),Ek P "worth" 655 (.ref 345),Ek P "row" 662 (.ref 352),Ek P "__static_attributes__" 664 (.ref 353),Ek P "__doc__" 665 .none] 2),#[]⟩
def hko_355 (P:Params):Obj:=⟨(.type "type"),none,(.cls ⟨"Base",[(.ref 320)],[(.ref 355),(.ref 320),(.type "object")],354,"Base",true,[],[],false,none,false⟩),#[(some (.ref 325)),none,(some (.str "Base" 628)),(some (.str "Base" 636)),(some (.builtin "object.__new__")),(some (.bool true))]⟩
def hko_370 (P:Params):Obj:=cO "__init__" "Each.__init__" 680 177 4 365 366 .none (.ref 367) (.ref 368) 369 687
def hko_371 (P:Params):Obj:=fO5 "__init__" "Each.__init__" Zn .none 370
def hko_387 (P:Params):Obj:=⟨(.type "dict"),none,(.dict #[Ek P "__module__" 675 (.str "doletaper.parts" 585),Ek P "__firstlineno__" 679 (.int 175 678),Ek P "__init__" 689 (.ref 371),Ek P "worth" 697 (.ref 378),Ek P "row" 704 (.ref 385),Ek P "__static_attributes__" 708 (.ref 386),Ek P "__doc__" 709 .none] 2),#[]⟩
def hko_388 (P:Params):Obj:=⟨(.type "type"),none,(.cls ⟨"Each",[(.ref 320)],[(.ref 388),(.ref 320),(.type "object")],387,"Each",true,[],[],false,none,false⟩),#[(some (.ref 358)),none,(some (.str "Each" 668)),(some (.str "Each" 676)),(some (.builtin "object.__new__")),(some (.bool true))]⟩
def hko_403 (P:Params):Obj:=cO "__init__" "Rent.__init__" 724 189 3 398 399 .none (.ref 400) (.ref 401) 402 730
def hko_404 (P:Params):Obj:=fO5 "__init__" "Rent.__init__" Zl .none 403
def hko_420 (P:Params):Obj:=⟨(.type "dict"),none,(.dict #[Ek P "__module__" 719 (.str "doletaper.parts" 585),Ek P "__firstlineno__" 723 (.int 187 722),Ek P "__init__" 732 (.ref 404),Ek P "worth" 740 (.ref 411),Ek P "row" 747 (.ref 418),Ek P "__static_attributes__" 750 (.ref 419),Ek P "__doc__" 751 .none] 2),#[]⟩
def hko_421 (P:Params):Obj:=⟨(.type "type"),none,(.cls ⟨"Rent",[(.ref 320)],[(.ref 421),(.ref 320),(.type "object")],420,"Rent",true,[],[],false,none,false⟩),#[(some (.ref 391)),none,(some (.str "Rent" 712)),(some (.str "Rent" 720)),(some (.builtin "object.__new__")),(some (.bool true))]⟩
def hko_446 (P:Params):Obj:=⟨(.type "dict"),none,(.dict #[Ek P "__module__" 761 (.str "doletaper.parts" 585),Ek P "__firstlineno__" 765 (.int 198 764),Ek P "met" 773 (.ref 437),Ek P "row" 780 (.ref 444),Ek P "__static_attributes__" 781 (.ref 445),Ek P "__dict__" 783 (.ref 448),Ek P "__weakref__" 785 (.ref 449),Ek P "__doc__" 786 .none] 4),#[]⟩
def hko_447 (P:Params):Obj:=⟨(.type "type"),none,(.cls ⟨"Term",[(.type "object")],[(.ref 447),(.type "object")],446,"Term",true,[],[(.ref 482),(.ref 515)],false,none,false⟩),#[none,none,(some (.str "Term" 754)),(some (.str "Term" 762)),(some (.builtin "object.__new__")),(some (.bool true))]⟩
def hko_464 (P:Params):Obj:=cO "__init__" "From.__init__" 801 207 4 459 460 .none (.ref 461) (.ref 462) 463 808
def hko_465 (P:Params):Obj:=fO5 "__init__" "From.__init__" Zm .none 464
def hko_481 (P:Params):Obj:=⟨(.type "dict"),none,(.dict #[Ek P "__module__" 796 (.str "doletaper.parts" 585),Ek P "__firstlineno__" 800 (.int 205 799),Ek P "__init__" 810 (.ref 465),Ek P "met" 818 (.ref 472),Ek P "row" 825 (.ref 479),Ek P "__static_attributes__" 829 (.ref 480),Ek P "__doc__" 830 .none] 2),#[]⟩
def hko_482 (P:Params):Obj:=⟨(.type "type"),none,(.cls ⟨"From",[(.ref 447)],[(.ref 482),(.ref 447),(.type "object")],481,"From",true,[],[],false,none,false⟩),#[(some (.ref 452)),none,(some (.str "From" 789)),(some (.str "From" 797)),(some (.builtin "object.__new__")),(some (.bool true))]⟩
def hko_497 (P:Params):Obj:=cO "__init__" "Upto.__init__" 845 219 4 492 493 .none (.ref 494) (.ref 495) 496 852
def hko_498 (P:Params):Obj:=fO5 "__init__" "Upto.__init__" Zk .none 497
def hko_514 (P:Params):Obj:=⟨(.type "dict"),none,(.dict #[Ek P "__module__" 840 (.str "doletaper.parts" 585),Ek P "__firstlineno__" 844 (.int 217 843),Ek P "__init__" 854 (.ref 498),Ek P "met" 862 (.ref 505),Ek P "row" 869 (.ref 512),Ek P "__static_attributes__" 873 (.ref 513),Ek P "__doc__" 874 .none] 2),#[]⟩
def hko_515 (P:Params):Obj:=⟨(.type "type"),none,(.cls ⟨"Upto",[(.ref 447)],[(.ref 515),(.ref 447),(.type "object")],514,"Upto",true,[],[],false,none,false⟩),#[(some (.ref 485)),none,(some (.str "Upto" 833)),(some (.str "Upto" 841)),(some (.builtin "object.__new__")),(some (.bool true))]⟩
def hko_518 (P:Params):Obj:=⟨(.type "dict"),none,(.dict #[Ek P "kind" 879 (.str "NAME" 880),Ek P "base" 881 (.str "AMOUNT" 882),Ek P "each" 883 (.str "AMOUNT LOW HIGH" 884),Ek P "rent" 885 (.str "RATE MOST" 886),Ek P "from" 887 (.str "MANY LOW HIGH" 888),Ek P "upto" 889 (.str "MANY LOW HIGH" 890),Ek P "pay" 891 (.str "RATE LOW HIGH" 892),Ek P "counts" 893 (.str "NAME RATE" 894),Ek P "off" 895 (.str "LIMIT RATE" 896),Ek P "until" 897 (.str "LIMIT" 898),Ek P "round" 899 (.str "UNIT WAY" 900),Ek P "cap" 901 (.str "LIMIT EACH NAME" 902)] 12),#[]⟩
def hko_519 (P:Params):Obj:=⟨(.type "dict"),none,(.dict #[Ek P "base" 916 (.str "parts" 917),Ek P "each" 918 (.str "parts" 919),Ek P "rent" 920 (.str "parts" 921),Ek P "from" 922 (.str "terms" 923),Ek P "upto" 924 (.str "terms" 925),Ek P "pay" 926 (.str "pays" 927),Ek P "counts" 928 (.str "counts" 929),Ek P "off" 930 (.str "offs" 931),Ek P "until" 932 (.str "untils" 933),Ek P "round" 934 (.str "rounds" 935)] 10),#[]⟩
def hko_520 (P:Params):Obj:=⟨(.type "dict"),none,(.dict #[Ek P "parts" 947 (.int 6 948),Ek P "terms" 949 (.int 6 950),Ek P "pays" 951 (.int 4 952),Ek P "offs" 953 (.int 6 954),Ek P "untils" 955 (.int 1 956),Ek P "rounds" 957 (.int 1 958)] 6),#[]⟩
def hko_526 (P:Params):Obj:=cO "form_of" "form_of" 970 235 1 521 522 .none (.ref 523) (.ref 524) 525 976
def hko_527 (P:Params):Obj:=fO6 "form_of" "form_of" XQ .none 526
def hko_533 (P:Params):Obj:=cO "values_of" "values_of" 979 243 1 528 529 .none (.ref 530) (.ref 531) 532 985
def hko_534 (P:Params):Obj:=fO6 "values_of" "values_of" Z0 .none 533
def hko_540 (P:Params):Obj:=cO "thing_of" "thing_of" 988 249 2 535 536 .none (.ref 537) (.ref 538) 539 993
def hko_541 (P:Params):Obj:=fO6 "thing_of" "thing_of" Xl .none 540
def hko_547 (P:Params):Obj:=cO "new_draft" "new_draft" 996 261 1 542 543 .none (.ref 544) (.ref 545) 546 1002
def hko_548 (P:Params):Obj:=fO6 "new_draft" "new_draft" Z3 .none 547
def hko_552 (P:Params):Obj:=cO "fits_in" "fits_in" 1005 266 3 549 550 .none .none .none 551 1008
def hko_553 (P:Params):Obj:=fO6 "fits_in" "fits_in" XR .none 552
def hko_559 (P:Params):Obj:=cO "kind_of" "kind_of" 1011 274 1 554 555 .none (.ref 556) (.ref 557) 558 1017
def hko_560 (P:Params):Obj:=fO6 "kind_of" "kind_of" XN .none 559
def hko_573 (P:Params):Obj:=cO "__init__" "Reader.__init__" 1032 280 1 568 569 .none (.ref 570) (.ref 571) 572 1036
def hko_574 (P:Params):Obj:=fO6 "__init__" "Reader.__init__" Zd .none 573
def hko_578 (P:Params):Obj:=cO "titles_told" "Reader.titles_told" 1039 285 1 575 576 .none .none .none 577 1042
def hko_579 (P:Params):Obj:=fO6 "titles_told" "Reader.titles_told" QZ .none 578
def hko_585 (P:Params):Obj:=cO "fits" "Reader.fits" 1045 288 3 580 581 .none (.ref 582) (.ref 583) 584 1051
def hko_586 (P:Params):Obj:=fO6 "fits" "Reader.fits" ZA .none 585
def hko_592 (P:Params):Obj:=cO "caps_none_twice" "Reader.caps_none_twice" 1054 295 2 587 588 .none (.ref 589) (.ref 590) 591 1061
def hko_593 (P:Params):Obj:=fO6 "caps_none_twice" "Reader.caps_none_twice" QN .none 592
def hko_599 (P:Params):Obj:=cO "take" "Reader.take" 1064 301 3 594 595 .none (.ref 596) (.ref 597) 598 1070
def hko_600 (P:Params):Obj:=fO6 "take" "Reader.take" Zz .none 599
def hko_604 (P:Params):Obj:=cO "office_told" "Reader.office_told" 1073 312 1 601 602 .none .none .none 603 1076
def hko_605 (P:Params):Obj:=fO6 "office_told" "Reader.office_told" Q0 .none 604
def hko_607 (P:Params):Obj:=⟨(.type "dict"),none,(.dict #[Ek P "__module__" 1027 (.str "doletaper.reading" 877),Ek P "__firstlineno__" 1031 (.int 278 1030),Ek P "__init__" 1038 (.ref 574),Ek P "titles_told" 1044 (.ref 579),Ek P "fits" 1053 (.ref 586),Ek P "caps_none_twice" 1063 (.ref 593),Ek P "take" 1072 (.ref 600),Ek P "office_told" 1078 (.ref 605),Ek P "__static_attributes__" 1082 (.ref 606),Ek P "__dict__" 1084 (.ref 609),Ek P "__weakref__" 1086 (.ref 610),Ek P "__doc__" 1087 .none] 4),#[]⟩
def hko_608 (P:Params):Obj:=⟨(.type "type"),none,(.cls ⟨"Reader",[(.type "object")],[(.ref 608),(.type "object")],607,"Reader",true,[],[],false,none,false⟩),#[none,none,(some (.str "Reader" 1020)),(some (.str "Reader" 1028)),(some (.builtin "object.__new__")),(some (.bool true))]⟩
def hko_618 (P:Params):Obj:=cO "read" "read" 1090 317 1 613 614 .none (.ref 615) (.ref 616) 617 1099
def hko_619 (P:Params):Obj:=fO6 "read" "read" Jr .none 618
def hko_625 (P:Params):Obj:=cO "_law_cell" "_law_cell" 1104 330 2 620 621 .none (.ref 622) (.ref 623) 624 1109
def hko_626 (P:Params):Obj:=fO7 "_law_cell" "_law_cell" Yo .none 625
def hko_632 (P:Params):Obj:=cO "_law_mixed" "_law_mixed" 1112 334 2 627 628 .none (.ref 629) (.ref 630) 631 1118
def hko_633 (P:Params):Obj:=fO7 "_law_mixed" "_law_mixed" XJ .none 632
def hko_639 (P:Params):Obj:=cO "_law_common" "_law_common" 1121 337 2 634 635 .none (.ref 636) (.ref 637) 638 1126
def hko_640 (P:Params):Obj:=fO7 "_law_common" "_law_common" Xm .none 639
def hko_646 (P:Params):Obj:=cO "_law_made" "_law_made" 1129 343 2 641 642 .none (.ref 643) (.ref 644) 645 1135
def hko_647 (P:Params):Obj:=fO7 "_law_made" "_law_made" Ym .none 646
def hko_653 (P:Params):Obj:=cO "_law_name" "_law_name" 1138 348 1 648 649 .none (.ref 650) (.ref 651) 652 1147
def hko_654 (P:Params):Obj:=fO7 "_law_name" "_law_name" Yl .none 653
def hko_660 (P:Params):Obj:=cO "_law_rate" "_law_rate" 1150 358 2 655 656 .none (.ref 657) (.ref 658) 659 1157
def hko_661 (P:Params):Obj:=fO7 "_law_rate" "_law_rate" Yi .none 660
def hko_667 (P:Params):Obj:=cO "_law_shown" "_law_shown" 1160 364 1 662 663 .none (.ref 664) (.ref 665) 666 1164
def hko_668 (P:Params):Obj:=fO7 "_law_shown" "_law_shown" XI .none 667
def hko_674 (P:Params):Obj:=cO "_law_ages" "_law_ages" 1167 368 1 669 670 .none (.ref 671) (.ref 672) 673 1172
def hko_675 (P:Params):Obj:=fO7 "_law_ages" "_law_ages" Yp .none 674
def hko_681 (P:Params):Obj:=cO "_law_amount" "_law_amount" 1175 373 2 676 677 .none (.ref 678) (.ref 679) 680 1181
def hko_682 (P:Params):Obj:=fO7 "_law_amount" "_law_amount" Xn .none 681
def hko_688 (P:Params):Obj:=cO "_law_pool" "_law_pool" 1184 378 2 683 684 .none (.ref 685) (.ref 686) 687 1192
def hko_689 (P:Params):Obj:=fO7 "_law_pool" "_law_pool" Yj .none 688
def hko_695 (P:Params):Obj:=cO "_law_part" "_law_part" 1195 387 1 690 691 .none (.ref 692) (.ref 693) 694 1203
def hko_696 (P:Params):Obj:=fO7 "_law_part" "_law_part" Yk .none 695
def hko_702 (P:Params):Obj:=cO "_law_term" "_law_term" 1206 396 1 697 698 .none (.ref 699) (.ref 700) 701 1213
def hko_703 (P:Params):Obj:=fO7 "_law_term" "_law_term" Yg .none 702
def hko_709 (P:Params):Obj:=cO "_law_words" "_law_words" 1216 402 1 704 705 .none (.ref 706) (.ref 707) 708 1222
def hko_710 (P:Params):Obj:=fO7 "_law_words" "_law_words" XH .none 709
def hko_716 (P:Params):Obj:=cO "_law_limit" "_law_limit" 1225 410 2 711 712 .none (.ref 713) (.ref 714) 715 1231
def hko_717 (P:Params):Obj:=fO7 "_law_limit" "_law_limit" XM .none 716
def hko_721 (P:Params):Obj:=cO "_law_put" "_law_put" 1234 417 3 718 719 .none .none .none 720 1237
def hko_722 (P:Params):Obj:=fO7 "_law_put" "_law_put" Wb .none 721
def hko_726 (P:Params):Obj:=cO "_law_cap" "_law_cap" 1240 445 3 723 724 .none .none .none 725 1243
def hko_727 (P:Params):Obj:=fO7 "_law_cap" "_law_cap" Wc .none 726
def hko_731 (P:Params):Obj:=cO "_law_kind" "_law_kind" 1246 457 3 728 729 .none .none .none 730 1249
def hko_732 (P:Params):Obj:=fO7 "_law_kind" "_law_kind" Yn .none 731
def hko_738 (P:Params):Obj:=cO "_law_rows" "_law_rows" 1252 465 4 733 734 .none (.ref 735) (.ref 736) 737 1262
def hko_739 (P:Params):Obj:=fO7 "_law_rows" "_law_rows" Yh .none 738
def hko_743 (P:Params):Obj:=cO "_law_lacking" "_law_lacking" 1265 477 4 740 741 .none .none .none 742 1268
def hko_744 (P:Params):Obj:=fO7 "_law_lacking" "_law_lacking" Z5 .none 743
def hko_750 (P:Params):Obj:=cO "_law_is_part" "_law_is_part" 1271 487 2 745 746 .none (.ref 747) (.ref 748) 749 1276
def hko_751 (P:Params):Obj:=fO7 "_law_is_part" "_law_is_part" Z7 .none 750
def hko_757 (P:Params):Obj:=cO "_law_is_term" "_law_is_term" 1279 493 2 752 753 .none (.ref 754) (.ref 755) 756 1285
def hko_758 (P:Params):Obj:=fO7 "_law_is_term" "_law_is_term" Z6 .none 757
def hko_764 (P:Params):Obj:=cO "_law_is_kind" "_law_is_kind" 1288 499 2 759 760 .none (.ref 761) (.ref 762) 763 1302
def hko_765 (P:Params):Obj:=fO7 "_law_is_kind" "_law_is_kind" Z8 .none 764
def hko_771 (P:Params):Obj:=cO "_law_is_office" "_law_is_office" 1305 518 3 766 767 .none (.ref 768) (.ref 769) 770 1313
def hko_772 (P:Params):Obj:=fO7 "_law_is_office" "_law_is_office" Zy .none 771
def hko_778 (P:Params):Obj:=cO "law" "law" 1316 529 1 773 774 .none (.ref 775) (.ref 776) 777 1326
def hko_779 (P:Params):Obj:=fO7 "law" "law" WY .none 778
def HK:Params->W.Frag:=λP=>(nat_lit 2,hko_2 P)::(nat_lit 3,hko_3 P)::(nat_lit 30,hko_30 P)::(nat_lit 31,hko_31 P)::(nat_lit 50,hko_50 P)::(nat_lit 51,hko_51 P)::(nat_lit 62,hko_62 P)::(nat_lit 63,hko_63 P)::(nat_lit 81,hko_81 P)::(nat_lit 82,hko_82 P)::(nat_lit 88,hko_88 P)::(nat_lit 89,hko_89 P)::(nat_lit 95,hko_95 P)::(nat_lit 96,hko_96 P)::(nat_lit 100,hko_100 P)::(nat_lit 101,hko_101 P)::(nat_lit 107,hko_107 P)::(nat_lit 108,hko_108 P)::(nat_lit 114,hko_114 P)::(nat_lit 115,hko_115 P)::(nat_lit 128,hko_128 P)::(nat_lit 129,hko_129 P)::(nat_lit 130,hko_130 P)::(nat_lit 131,hko_131 P)::(nat_lit 137,hko_137 P)::(nat_lit 138,hko_138 P)::(nat_lit 144,hko_144 P)::(nat_lit 145,hko_145 P)::(nat_lit 151,hko_151 P)::(nat_lit 152,hko_152 P)::(nat_lit 158,hko_158 P)::(nat_lit 159,hko_159 P)::(nat_lit 163,hko_163 P)::(nat_lit 164,hko_164 P)::(nat_lit 172,hko_172 P)::(nat_lit 178,hko_178 P)::(nat_lit 179,hko_179 P)::(nat_lit 223,hko_223 P)::(nat_lit 224,hko_224 P)::(nat_lit 241,hko_241 P)::(nat_lit 242,hko_242 P)::(nat_lit 251,hko_251 P)::(nat_lit 252,hko_252 P)::(nat_lit 269,hko_269 P)::(nat_lit 270,hko_270 P)::(nat_lit 286,hko_286 P)::(nat_lit 287,hko_287 P)::(nat_lit 319,hko_319 P)::(nat_lit 320,hko_320 P)::(nat_lit 337,hko_337 P)::(nat_lit 338,hko_338 P)::(nat_lit 354,hko_354 P)::(nat_lit 355,hko_355 P)::(nat_lit 370,hko_370 P)::(nat_lit 371,hko_371 P)::(nat_lit 387,hko_387 P)::(nat_lit 388,hko_388 P)::(nat_lit 403,hko_403 P)::(nat_lit 404,hko_404 P)::(nat_lit 420,hko_420 P)::(nat_lit 421,hko_421 P)::(nat_lit 446,hko_446 P)::(nat_lit 447,hko_447 P)::(nat_lit 464,hko_464 P)::(nat_lit 465,hko_465 P)::(nat_lit 481,hko_481 P)::(nat_lit 482,hko_482 P)::(nat_lit 497,hko_497 P)::(nat_lit 498,hko_498 P)::(nat_lit 514,hko_514 P)::(nat_lit 515,hko_515 P)::(nat_lit 518,hko_518 P)::(nat_lit 519,hko_519 P)::(nat_lit 520,hko_520 P)::(nat_lit 526,hko_526 P)::(nat_lit 527,hko_527 P)::(nat_lit 533,hko_533 P)::(nat_lit 534,hko_534 P)::(nat_lit 540,hko_540 P)::(nat_lit 541,hko_541 P)::(nat_lit 547,hko_547 P)::(nat_lit 548,hko_548 P)::(nat_lit 552,hko_552 P)::(nat_lit 553,hko_553 P)::(nat_lit 559,hko_559 P)::(nat_lit 560,hko_560 P)::(nat_lit 573,hko_573 P)::(nat_lit 574,hko_574 P)::(nat_lit 578,hko_578 P)::(nat_lit 579,hko_579 P)::(nat_lit 585,hko_585 P)::(nat_lit 586,hko_586 P)::(nat_lit 592,hko_592 P)::(nat_lit 593,hko_593 P)::(nat_lit 599,hko_599 P)::(nat_lit 600,hko_600 P)::(nat_lit 604,hko_604 P)::(nat_lit 605,hko_605 P)::(nat_lit 607,hko_607 P)::(nat_lit 608,hko_608 P)::(nat_lit 618,hko_618 P)::(nat_lit 619,hko_619 P)::(nat_lit 625,hko_625 P)::(nat_lit 626,hko_626 P)::(nat_lit 632,hko_632 P)::(nat_lit 633,hko_633 P)::(nat_lit 639,hko_639 P)::(nat_lit 640,hko_640 P)::(nat_lit 646,hko_646 P)::(nat_lit 647,hko_647 P)::(nat_lit 653,hko_653 P)::(nat_lit 654,hko_654 P)::(nat_lit 660,hko_660 P)::(nat_lit 661,hko_661 P)::(nat_lit 667,hko_667 P)::(nat_lit 668,hko_668 P)::(nat_lit 674,hko_674 P)::(nat_lit 675,hko_675 P)::(nat_lit 681,hko_681 P)::(nat_lit 682,hko_682 P)::(nat_lit 688,hko_688 P)::(nat_lit 689,hko_689 P)::(nat_lit 695,hko_695 P)::(nat_lit 696,hko_696 P)::(nat_lit 702,hko_702 P)::(nat_lit 703,hko_703 P)::(nat_lit 709,hko_709 P)::(nat_lit 710,hko_710 P)::(nat_lit 716,hko_716 P)::(nat_lit 717,hko_717 P)::(nat_lit 721,hko_721 P)::(nat_lit 722,hko_722 P)::(nat_lit 726,hko_726 P)::(nat_lit 727,hko_727 P)::(nat_lit 731,hko_731 P)::(nat_lit 732,hko_732 P)::(nat_lit 738,hko_738 P)::(nat_lit 739,hko_739 P)::(nat_lit 743,hko_743 P)::(nat_lit 744,hko_744 P)::(nat_lit 750,hko_750 P)::(nat_lit 751,hko_751 P)::(nat_lit 757,hko_757 P)::(nat_lit 758,hko_758 P)::(nat_lit 764,hko_764 P)::(nat_lit 765,hko_765 P)::(nat_lit 771,hko_771 P)::(nat_lit 772,hko_772 P)::(nat_lit 778,hko_778 P)::(nat_lit 779,hko_779 P)::[]
def hkA:List Addr:=[2,3,30,31,50,51,62,63,81,82,88,89,95,96,100,101,107,108,114,115,128,129,130,131,137,138,144,145,151,152,158,159,163,164,172,178,179,223,224,241,242,251,252,269,270,286,287,319,320,337,338,354,355,370,371,387,388,403,404,420,421,446,447,464,465,481,482,497,498,514,515,518,519,520,526,527,533,534,540,541,547,548,552,553,559,560,573,574,578,579,585,586,592,593,599,600,604,605,607,608,618,619,625,626,632,633,639,640,646,647,653,654,660,661,667,668,674,675,681,682,688,689,695,696,702,703,709,710,716,717,721,722,726,727,731,732,738,739,743,744,750,751,757,758,764,765,771,772,778,779]
theorem hkA_eq:∀P,hkA=(HK P).map (·.1):=λ_=>by kernel_rfl
def hkV:Program:=W.view PySem.Challenge.pw_doletaper_k36_rows_read [0,2,3,4,5,7,8,9,10,11,13,15,16,17,18,19,20,21,22,24,25,26,27,28,29,30,31,33,34,35,37,38,39,40,41,42,43,44,46,47,48,49,50,51,52,53,54,55,56,57,58,60,61,62,63,64,65,66,67,68,69,70,71,72,73,74,75,76,77,78,79,80,81,82,83]
def hkLo:List Str:=["FORMS","LISTS","LONGEST"]
abbrev tu0:Obj:=⟨.type "tuple",none,.seq #[] 0,#[]⟩
abbrev fi0:Obj:=⟨.none,none,.fields #[],#[]⟩
def tuV:Nat->List Str->List Value
 | _,[]=>[]
 | t,x::l=>.str x t::tuV (t+1) l
abbrev tuS (l:List Str)(t:Nat):Obj:=⟨.type "tuple",none,.seq ⟨tuV t l⟩ 0,#[]⟩
def fiV:List (Int×Int×Nat)->List Value
 | []=>[]
 | (a,b,c)::l=>.int a 0::.int b 0::.ref c::fiV l
abbrev fiC (l:List (Int×Int×Nat)):Obj:=⟨.none,none,.fields ⟨fiV l⟩,#[]⟩
abbrev gO (n q:Str)(s:Stmt):Obj:=⟨.none,none,.func ⟨n,q,QC s,.stmts (Qx s),Qh s,0,[],.none,.none,.none,.none,none,.none,.none,0⟩,#[]⟩
abbrev frO (a b:Nat)(m:Str)(t:Nat):Obj:=⟨.type "frame",none,.plain,#[some (.ref a),some (.ref 3),some (.ref b),none,some (.str m t),none,some (.ref 0)]⟩
abbrev cdO (n q:Str)(t:Nat)(l k f:Int)(a:Nat)(o:Bool)(e:Int)(b:Nat)(x y z v:Value)(u:Nat):Obj:=⟨.type "code",none,.fields #[.str n t,.str q (t+1),.str "/claim/cut.py" (t+2),.int l 0,.int k 0,.int 0 0,.int 0 0,.int f 0,.ref a,.bool o,.int e 0,.ref b,x,y,z,v,.int u 0,.int l 0,.str "/claim/cut.py" (u+1)],#[]⟩
def hfs0 (P:Params):List Obj:=[W.boot_o_0 P,⟨(.type "dict"),none,(.dict #[Ek P "builtins" 162 (.ref 4),Ek P "__main__" 163 (.ref 5)] 2),#[]⟩,hko_2 P,hko_3 P,⟨(.type "module"),(some 0),.plain,#[]⟩,⟨(.type "module"),(some 3),.plain,#[]⟩,⟨(.type "dict"),none,(.dict #[] 0),#[]⟩,tu0,fi0,cdO "<module>" "<module>" 176 1 0 0 7 false 175 8 .none .none .none .none 179,frO 9 3 "__main__" 164,tu0,fiC [(1,0,20),(5,0,27),(7,0,40),(11,0,59),(13,0,71),(22,0,88),(27,0,95),(37,0,100),(43,0,107),(50,0,114),(59,0,121),(65,0,128),(73,0,137),(77,0,144),(82,0,151),(86,0,158),(96,0,163),(102,0,170),(132,0,234),(141,0,262),(156,0,295),(158,0,302),(165,0,330),(175,0,363),(187,0,396),(198,0,429),(205,0,457),(217,0,490),(235,0,526),(243,0,533),(249,0,540),(261,0,547),(266,0,552),(274,0,559),(278,0,566),(317,0,618),(330,0,625),(334,0,632),(337,0,639),(343,0,646),(348,0,653),(358,0,660),(364,0,667),(368,0,674),(373,0,681),(378,0,688),(387,0,695),(396,0,702),(402,0,709),(410,0,716),(417,0,721),(445,0,726),(457,0,731),(465,0,738),(477,0,743),(487,0,750),(493,0,757),(499,0,764),(518,0,771),(529,0,778)],cdO "<module>" "<module>" 182 1 0 0 11 false 181 12 .none .none .none .none 185,frO 13 3 "__main__" 164,tu0,fi0,tuS ["k"] 190,tu0,gO "_wall" "_wall" (top 0),cdO "_wall" "_wall" 187 1 1 3 15 true 181 16 .none (.ref 17) (.ref 18) (.ref 19) 191,⟨(.type "function"),none,(.func (W.fnOf "_wall" "_wall" (QC (top 0)) (Qx (top 0)) (Qh (top 0)) .none .none .none (.str "__main__" 164) none (.ref 20) .none)),#[]⟩,⟨(.type "tuple"),none,(.seq #[(.type "ValueError")] 0),#[]⟩,⟨(.type "builtin_function_or_method"),none,(.fields #[(.builtin "type.__prepare__"),(.type "type")]),#[]⟩]
def hfs1 (P:Params):List Obj:=[⟨(.type "dict"),none,(.dict #[Ek P "__module__" 203 (.str "doletaper.errors" 194),Ek P "__qualname__" 205 (.str "HelpError" 204),Ek P "__firstlineno__" 207 (.int 5 206),Ek P "__static_attributes__" 208 (.ref 29)] 4),#[]⟩,tu0,fi0,cdO "HelpError" "HelpError" 198 5 0 0 25 false 181 26 .none .none .none .none 201,frO 27 24 "doletaper.errors" 194,tu0,hko_30 P,hko_31 P,⟨(.type "getset_descriptor"),none,(.fields #[(.str "__weakref__" 209),(.ref 31),(.builtin "ExceptionGroup.__weakref__"),.none]),#[]⟩,⟨(.type "super"),none,(.fields #[(.ref 31),(.ref 31),(.ref 31)]),#[]⟩,⟨(.type "builtin_function_or_method"),none,(.fields #[(.builtin "object.__init_subclass__"),(.ref 31)]),#[]⟩,⟨(.type "tuple"),none,(.seq #[(.ref 31)] 0),#[]⟩,⟨(.type "builtin_function_or_method"),none,(.fields #[(.builtin "type.__prepare__"),(.type "type")]),#[]⟩,⟨(.type "dict"),none,(.dict #[Ek P "__module__" 221 (.str "doletaper.errors" 194),Ek P "__qualname__" 223 (.str "Unknown" 222),Ek P "__firstlineno__" 225 (.int 7 224),Ek P "__init__" 233 (.ref 48),Ek P "__static_attributes__" 235 (.ref 49)] 5),#[]⟩,tu0,fiC [(9,4,47)],cdO "Unknown" "Unknown" 216 7 0 0 38 false 181 39 .none .none .none .none 219,frO 40 37 "doletaper.errors" 194,tu0,fi0,tuS ["self","title"] 229,tu0,gO "__init__" "Unknown.__init__" (Qi (top 3) 0),cdO "__init__" "Unknown.__init__" 226 9 2 3 42 true 181 43 .none (.ref 44) (.ref 45) (.ref 46) 231]
def hfs2 (P:Params):List Obj:=[⟨(.type "function"),none,(.func (W.fnOf "__init__" "Unknown.__init__" (QC (Qi (top 3) 0)) (Qx (Qi (top 3) 0)) (Qh (Qi (top 3) 0)) .none .none .none (.str "doletaper.errors" 194) none (.ref 47) .none)),#[]⟩,tuS ["title"] 234,hko_50 P,hko_51 P,⟨(.type "super"),none,(.fields #[(.ref 51),(.ref 51),(.ref 51)]),#[]⟩,⟨(.type "builtin_function_or_method"),none,(.fields #[(.builtin "object.__init_subclass__"),(.ref 51)]),#[]⟩,⟨(.type "tuple"),none,(.seq #[(.ref 31)] 0),#[]⟩,⟨(.type "builtin_function_or_method"),none,(.fields #[(.builtin "type.__prepare__"),(.type "type")]),#[]⟩,⟨(.type "dict"),none,(.dict #[Ek P "__module__" 246 (.str "doletaper.errors" 194),Ek P "__qualname__" 248 (.str "NoWord" 247),Ek P "__firstlineno__" 250 (.int 11 249),Ek P "__static_attributes__" 251 (.ref 61)] 4),#[]⟩,tu0,fi0,cdO "NoWord" "NoWord" 241 11 0 0 57 false 181 58 .none .none .none .none 244,frO 59 56 "doletaper.errors" 194,tu0,hko_62 P,hko_63 P,⟨(.type "super"),none,(.fields #[(.ref 63),(.ref 63),(.ref 63)]),#[]⟩,⟨(.type "builtin_function_or_method"),none,(.fields #[(.builtin "object.__init_subclass__"),(.ref 63)]),#[]⟩,⟨(.type "tuple"),none,(.seq #[(.ref 31)] 0),#[]⟩,⟨(.type "builtin_function_or_method"),none,(.fields #[(.builtin "type.__prepare__"),(.type "type")]),#[]⟩,⟨(.type "dict"),none,(.dict #[Ek P "__module__" 262 (.str "doletaper.errors" 194),Ek P "__qualname__" 264 (.str "NoRow" 263),Ek P "__firstlineno__" 266 (.int 13 265),Ek P "__init__" 274 (.ref 79),Ek P "__static_attributes__" 276 (.ref 80)] 5),#[]⟩,tu0,fiC [(15,4,78)],cdO "NoRow" "NoRow" 257 13 0 0 69 false 181 70 .none .none .none .none 260]
def hfs3 (P:Params):List Obj:=[frO 71 68 "doletaper.errors" 194,tu0,fi0,tuS ["self","place"] 270,tu0,gO "__init__" "NoRow.__init__" (Qi (top 5) 0),cdO "__init__" "NoRow.__init__" 267 15 2 3 73 true 181 74 .none (.ref 75) (.ref 76) (.ref 77) 272,⟨(.type "function"),none,(.func (W.fnOf "__init__" "NoRow.__init__" (QC (Qi (top 5) 0)) (Qx (Qi (top 5) 0)) (Qh (Qi (top 5) 0)) .none .none .none (.str "doletaper.errors" 194) none (.ref 78) .none)),#[]⟩,tuS ["place"] 275,hko_81 P,hko_82 P,⟨(.type "super"),none,(.fields #[(.ref 82),(.ref 82),(.ref 82)]),#[]⟩,⟨(.type "builtin_function_or_method"),none,(.fields #[(.builtin "object.__init_subclass__"),(.ref 82)]),#[]⟩,tu0,fi0,gO "is_name" "is_name" XO,hko_88 P,hko_89 P,tu0,fi0,tuS ["one","other","rest"] 301,tu0,gO "common_divisor" "common_divisor" Zh,hko_95 P]
def hfs4 (P:Params):List Obj:=[hko_96 P,tu0,fi0,gO "is_written_whole" "is_written_whole" Q8,hko_100 P,hko_101 P,tu0,fi0,tuS ["text","most","number"] 324,tu0,gO "whole_read" "whole_read" ZL,hko_107 P,hko_108 P,tu0,fi0,tuS ["text","written","top","bottom"] 333,tu0,gO "rate_read" "rate_read" Z2,hko_114 P,hko_115 P,tu0,fi0,tuS ["one","top","bottom"] 343,tu0]
def hfs5 (P:Params):List Obj:=[gO "rate_shown" "rate_shown" (top 21),cdO "rate_shown" "rate_shown" 340 59 1 3 116 true 181 117 .none (.ref 118) (.ref 119) (.ref 120) 346,⟨(.type "function"),none,(.func (W.fnOf "rate_shown" "rate_shown" (QC (top 21)) (Qx (top 21)) (Qh (top 21)) .none .none .none (.str "doletaper.words" 307) none (.ref 121) .none)),#[]⟩,tu0,fi0,tuS ["text"] 352,tu0,gO "name_read" "name_read" Z4,hko_128 P,hko_129 P,hko_130 P,hko_131 P,tu0,fi0,tuS ["sort"] 370,tu0,gO "most_of" "most_of" XG,hko_137 P,hko_138 P,tu0,fi0,tuS ["word","unit"] 377,tu0,gO "unit_read" "unit_read" Z1]
def hfs6 (P:Params):List Obj:=[hko_144 P,hko_145 P,tu0,fi0,tuS ["word"] 385,tu0,gO "way_read" "way_read" Xk,hko_151 P,hko_152 P,tu0,fi0,tuS ["sort","word"] 392,tu0,gO "word_read" "word_read" ZZ,hko_158 P,hko_159 P,tu0,fi0,gO "words_read" "words_read" ZK,hko_163 P,hko_164 P,tu0,⟨(.type "builtin_function_or_method"),none,(.fields #[(.builtin "type.__prepare__"),(.type "type")]),#[]⟩,⟨(.type "dict"),none,(.dict #[Ek P "__module__" 412 (.str "doletaper.kinds" 403),Ek P "__qualname__" 414 (.str "Kind" 413),Ek P "__firstlineno__" 416 (.int 102 415),Ek P "__init__" 433 (.ref 179),Ek P "full_of" 441 (.ref 186),Ek P "may_have" 449 (.ref 193),Ek P "owns" 457 (.ref 200),Ek P "taken_off" 464 (.ref 207),Ek P "greatest_rate" 471 (.ref 214),Ek P "amount_from" 479 (.ref 221),Ek P "__static_attributes__" 489 (.ref 222)] 11),#[]⟩]
def hfs7 (P:Params):List Obj:=[tu0,fiC [(104,4,178),(115,4,185),(118,4,192),(121,4,199),(124,4,206),(127,4,213),(130,4,220)],cdO "Kind" "Kind" 407 102 0 0 168 false 181 169 .none .none .none .none 410,frO 170 167 "doletaper.kinds" 403,hko_172 P,tu0,fi0,tuS ["self","title","parts","terms","pays","counts","offs","limit","unit","way"] 421,tu0,gO "__init__" "Kind.__init__" QG,hko_178 P,hko_179 P,tu0,fi0,tuS ["self","home"] 437,tu0,gO "full_of" "Kind.full_of" (Qi (top 33) 1),cdO "full_of" "Kind.full_of" 434 115 2 3 180 true 181 181 .none (.ref 182) (.ref 183) (.ref 184) 439,⟨(.type "function"),none,(.func (W.fnOf "full_of" "Kind.full_of" (QC (Qi (top 33) 1)) (Qx (Qi (top 33) 1)) (Qh (Qi (top 33) 1)) .none .none .none (.str "doletaper.kinds" 403) none (.ref 185) .none)),#[]⟩,tu0,fi0,tuS ["self","home"] 445,tu0,gO "may_have" "Kind.may_have" (Qi (top 33) 2)]
def hfs8 (P:Params):List Obj:=[cdO "may_have" "Kind.may_have" 442 118 2 3 187 true 181 188 .none (.ref 189) (.ref 190) (.ref 191) 447,⟨(.type "function"),none,(.func (W.fnOf "may_have" "Kind.may_have" (QC (Qi (top 33) 2)) (Qx (Qi (top 33) 2)) (Qh (Qi (top 33) 2)) .none .none .none (.str "doletaper.kinds" 403) none (.ref 192) .none)),#[]⟩,tu0,fi0,tuS ["self","home"] 453,tu0,gO "owns" "Kind.owns" (Qi (top 33) 3),cdO "owns" "Kind.owns" 450 121 2 3 194 true 181 195 .none (.ref 196) (.ref 197) (.ref 198) 455,⟨(.type "function"),none,(.func (W.fnOf "owns" "Kind.owns" (QC (Qi (top 33) 3)) (Qx (Qi (top 33) 3)) (Qh (Qi (top 33) 3)) .none .none .none (.str "doletaper.kinds" 403) none (.ref 199) .none)),#[]⟩,tu0,fi0,tuS ["self"] 461,tu0,gO "taken_off" "Kind.taken_off" (Qi (top 33) 4),cdO "taken_off" "Kind.taken_off" 458 124 1 3 201 true 181 202 .none (.ref 203) (.ref 204) (.ref 205) 462,⟨(.type "function"),none,(.func (W.fnOf "taken_off" "Kind.taken_off" (QC (Qi (top 33) 4)) (Qx (Qi (top 33) 4)) (Qh (Qi (top 33) 4)) .none .none .none (.str "doletaper.kinds" 403) none (.ref 206) .none)),#[]⟩,tu0,fi0,tuS ["self"] 468,tu0,gO "greatest_rate" "Kind.greatest_rate" (Qi (top 33) 5),cdO "greatest_rate" "Kind.greatest_rate" 465 127 1 3 208 true 181 209 .none (.ref 210) (.ref 211) (.ref 212) 469,⟨(.type "function"),none,(.func (W.fnOf "greatest_rate" "Kind.greatest_rate" (QC (Qi (top 33) 5)) (Qx (Qi (top 33) 5)) (Qh (Qi (top 33) 5)) .none .none .none (.str "doletaper.kinds" 403) none (.ref 213) .none)),#[]⟩,tu0]
def hfs9 (P:Params):List Obj:=[fi0,tuS ["self","left"] 475,tu0,gO "amount_from" "Kind.amount_from" (Qi (top 33) 6),cdO "amount_from" "Kind.amount_from" 472 130 2 3 215 true 181 216 .none (.ref 217) (.ref 218) (.ref 219) 477,⟨(.type "function"),none,(.func (W.fnOf "amount_from" "Kind.amount_from" (QC (Qi (top 33) 6)) (Qx (Qi (top 33) 6)) (Qh (Qi (top 33) 6)) .none .none .none (.str "doletaper.kinds" 403) none (.ref 220) .none)),#[]⟩,tuS ["counts","limit","offs","parts","pays","terms","title","unit","way"] 480,hko_223 P,hko_224 P,⟨(.type "getset_descriptor"),none,(.fields #[(.str "__dict__" 490),(.ref 224),(.builtin "function.__dict__"),(.builtin "function.__dict__#set")]),#[]⟩,⟨(.type "getset_descriptor"),none,(.fields #[(.str "__weakref__" 492),(.ref 224),(.builtin "ExceptionGroup.__weakref__"),.none]),#[]⟩,⟨(.type "super"),none,(.fields #[(.ref 224),(.ref 224),(.ref 224)]),#[]⟩,⟨(.type "builtin_function_or_method"),none,(.fields #[(.builtin "object.__init_subclass__"),(.ref 224)]),#[]⟩,tu0,⟨(.type "builtin_function_or_method"),none,(.fields #[(.builtin "type.__prepare__"),(.type "type")]),#[]⟩,⟨(.type "dict"),none,(.dict #[Ek P "__module__" 504 (.str "doletaper.kinds" 403),Ek P "__qualname__" 506 (.str "Cap" 505),Ek P "__firstlineno__" 508 (.int 132 507),Ek P "__init__" 518 (.ref 242),Ek P "room_for" 526 (.ref 249),Ek P "__static_attributes__" 530 (.ref 250)] 6),#[]⟩,tu0,fiC [(134,4,241),(139,4,248)],cdO "Cap" "Cap" 499 132 0 0 232 false 181 233 .none .none .none .none 502,frO 234 231 "doletaper.kinds" 403,tu0,fi0,tuS ["self","limit","each","titles"] 512,tu0]
def hfs10 (P:Params):List Obj:=[gO "__init__" "Cap.__init__" Zs,hko_241 P,hko_242 P,tu0,fi0,tuS ["self","home"] 522,tu0,gO "room_for" "Cap.room_for" (Qi (top 34) 1),cdO "room_for" "Cap.room_for" 519 139 2 3 243 true 181 244 .none (.ref 245) (.ref 246) (.ref 247) 524,⟨(.type "function"),none,(.func (W.fnOf "room_for" "Cap.room_for" (QC (Qi (top 34) 1)) (Qx (Qi (top 34) 1)) (Qh (Qi (top 34) 1)) .none .none .none (.str "doletaper.kinds" 403) none (.ref 248) .none)),#[]⟩,tuS ["each","limit","titles"] 527,hko_251 P,hko_252 P,⟨(.type "getset_descriptor"),none,(.fields #[(.str "__dict__" 531),(.ref 252),(.builtin "function.__dict__"),(.builtin "function.__dict__#set")]),#[]⟩,⟨(.type "getset_descriptor"),none,(.fields #[(.str "__weakref__" 533),(.ref 252),(.builtin "ExceptionGroup.__weakref__"),.none]),#[]⟩,⟨(.type "super"),none,(.fields #[(.ref 252),(.ref 252),(.ref 252)]),#[]⟩,⟨(.type "builtin_function_or_method"),none,(.fields #[(.builtin "object.__init_subclass__"),(.ref 252)]),#[]⟩,tu0,⟨(.type "builtin_function_or_method"),none,(.fields #[(.builtin "type.__prepare__"),(.type "type")]),#[]⟩,⟨(.type "dict"),none,(.dict #[Ek P "__module__" 545 (.str "doletaper.kinds" 403),Ek P "__qualname__" 547 (.str "Office" 546),Ek P "__firstlineno__" 549 (.int 141 548),Ek P "__init__" 558 (.ref 270),Ek P "kind" 567 (.ref 277),Ek P "named" 574 (.ref 284),Ek P "__static_attributes__" 577 (.ref 285)] 7),#[]⟩,tu0,fiC [(143,4,269),(147,4,276),(153,4,283)],cdO "Office" "Office" 540 141 0 0 260 false 181 261 .none .none .none .none 543,frO 262 259 "doletaper.kinds" 403]
def hfs11 (P:Params):List Obj:=[tu0,fi0,tuS ["self","kinds","caps"] 553,tu0,gO "__init__" "Office.__init__" Ze,hko_269 P,hko_270 P,tu0,fi0,tuS ["self","title","one"] 562,tu0,gO "kind" "Office.kind" (Qi (top 35) 1),cdO "kind" "Office.kind" 559 147 2 3 271 true 181 272 .none (.ref 273) (.ref 274) (.ref 275) 565,⟨(.type "function"),none,(.func (W.fnOf "kind" "Office.kind" (QC (Qi (top 35) 1)) (Qx (Qi (top 35) 1)) (Qh (Qi (top 35) 1)) .none .none .none (.str "doletaper.kinds" 403) none (.ref 276) .none)),#[]⟩,tu0,fi0,tuS ["self"] 571,tu0,gO "named" "Office.named" (Qi (top 35) 2),cdO "named" "Office.named" 568 153 1 3 278 true 181 279 .none (.ref 280) (.ref 281) (.ref 282) 572,⟨(.type "function"),none,(.func (W.fnOf "named" "Office.named" (QC (Qi (top 35) 2)) (Qx (Qi (top 35) 2)) (Qh (Qi (top 35) 2)) .none .none .none (.str "doletaper.kinds" 403) none (.ref 283) .none)),#[]⟩,tuS ["caps","kinds"] 575,hko_286 P,hko_287 P]
def hfs12 (P:Params):List Obj:=[⟨(.type "getset_descriptor"),none,(.fields #[(.str "__dict__" 578),(.ref 287),(.builtin "function.__dict__"),(.builtin "function.__dict__#set")]),#[]⟩,⟨(.type "getset_descriptor"),none,(.fields #[(.str "__weakref__" 580),(.ref 287),(.builtin "ExceptionGroup.__weakref__"),.none]),#[]⟩,⟨(.type "super"),none,(.fields #[(.ref 287),(.ref 287),(.ref 287)]),#[]⟩,⟨(.type "builtin_function_or_method"),none,(.fields #[(.builtin "object.__init_subclass__"),(.ref 287)]),#[]⟩,tu0,fi0,gO "row_of" "row_of" (top 37),cdO "row_of" "row_of" 587 156 1 3 292 true 181 293 .none .none .none (.ref 294) 590,⟨(.type "function"),none,(.func (W.fnOf "row_of" "row_of" (QC (top 37)) (Qx (top 37)) (Qh (top 37)) .none .none .none (.str "doletaper.parts" 585) none (.ref 295) .none)),#[]⟩,tu0,⟨(.type "builtin_function_or_method"),none,(.fields #[(.builtin "type.__prepare__"),(.type "type")]),#[]⟩,⟨(.type "dict"),none,(.dict #[Ek P "__module__" 600 (.str "doletaper.parts" 585),Ek P "__qualname__" 602 (.str "Part" 601),Ek P "__firstlineno__" 604 (.int 158 603),Ek P "worth" 612 (.ref 310),Ek P "row" 619 (.ref 317),Ek P "__static_attributes__" 620 (.ref 318)] 6),#[]⟩,tu0,fiC [(160,4,309),(163,4,316)],cdO "Part" "Part" 595 158 0 0 300 false 181 301 .none .none .none .none 598,frO 302 299 "doletaper.parts" 585,tu0,fi0,tuS ["self","home"] 608,tu0,gO "worth" "Part.worth" (Qi (top 38) 0),cdO "worth" "Part.worth" 605 160 2 3 304 true 181 305 .none (.ref 306) (.ref 307) (.ref 308) 610,⟨(.type "function"),none,(.func (W.fnOf "worth" "Part.worth" (QC (Qi (top 38) 0)) (Qx (Qi (top 38) 0)) (Qh (Qi (top 38) 0)) .none .none .none (.str "doletaper.parts" 585) none (.ref 309) .none)),#[]⟩,tu0]
def hfs13 (P:Params):List Obj:=[fi0,tuS ["self"] 616,tu0,gO "row" "Part.row" (Qi (top 38) 1),cdO "row" "Part.row" 613 163 1 3 311 true 181 312 .none (.ref 313) (.ref 314) (.ref 315) 617,⟨(.type "function"),none,(.func (W.fnOf "row" "Part.row" (QC (Qi (top 38) 1)) (Qx (Qi (top 38) 1)) (Qh (Qi (top 38) 1)) .none .none .none (.str "doletaper.parts" 585) none (.ref 316) .none)),#[]⟩,tu0,hko_319 P,hko_320 P,⟨(.type "getset_descriptor"),none,(.fields #[(.str "__dict__" 621),(.ref 320),(.builtin "function.__dict__"),(.builtin "function.__dict__#set")]),#[]⟩,⟨(.type "getset_descriptor"),none,(.fields #[(.str "__weakref__" 623),(.ref 320),(.builtin "ExceptionGroup.__weakref__"),.none]),#[]⟩,⟨(.type "super"),none,(.fields #[(.ref 320),(.ref 320),(.ref 320)]),#[]⟩,⟨(.type "builtin_function_or_method"),none,(.fields #[(.builtin "object.__init_subclass__"),(.ref 320)]),#[]⟩,⟨(.type "tuple"),none,(.seq #[(.ref 320)] 0),#[]⟩,⟨(.type "builtin_function_or_method"),none,(.fields #[(.builtin "type.__prepare__"),(.type "type")]),#[]⟩,⟨(.type "dict"),none,(.dict #[Ek P "__module__" 635 (.str "doletaper.parts" 585),Ek P "__qualname__" 637 (.str "Base" 636),Ek P "__firstlineno__" 639 (.int 165 638),Ek P "__init__" 647 (.ref 338),Ek P "worth" 655 (.ref 345),Ek P "row" 662 (.ref 352),Ek P "__static_attributes__" 664 (.ref 353)] 7),#[]⟩,tu0,fiC [(167,4,337),(170,4,344),(173,4,351)],cdO "Base" "Base" 630 165 0 0 328 false 181 329 .none .none .none .none 633,frO 330 327 "doletaper.parts" 585,tu0,fi0,tuS ["self","amount"] 643,tu0]
def hfs14 (P:Params):List Obj:=[gO "__init__" "Base.__init__" Zo,hko_337 P,hko_338 P,tu0,fi0,tuS ["self","home"] 651,tu0,gO "worth" "Base.worth" (Qi (top 39) 1),cdO "worth" "Base.worth" 648 170 2 3 339 true 181 340 .none (.ref 341) (.ref 342) (.ref 343) 653,⟨(.type "function"),none,(.func (W.fnOf "worth" "Base.worth" (QC (Qi (top 39) 1)) (Qx (Qi (top 39) 1)) (Qh (Qi (top 39) 1)) .none .none .none (.str "doletaper.parts" 585) none (.ref 344) .none)),#[]⟩,tu0,fi0,tuS ["self"] 659,tu0,gO "row" "Base.row" (Qi (top 39) 2),cdO "row" "Base.row" 656 173 1 3 346 true 181 347 .none (.ref 348) (.ref 349) (.ref 350) 660,⟨(.type "function"),none,(.func (W.fnOf "row" "Base.row" (QC (Qi (top 39) 2)) (Qx (Qi (top 39) 2)) (Qh (Qi (top 39) 2)) .none .none .none (.str "doletaper.parts" 585) none (.ref 351) .none)),#[]⟩,tuS ["amount"] 663,hko_354 P,hko_355 P,⟨(.type "super"),none,(.fields #[(.ref 355),(.ref 355),(.ref 355)]),#[]⟩,⟨(.type "builtin_function_or_method"),none,(.fields #[(.builtin "object.__init_subclass__"),(.ref 355)]),#[]⟩,⟨(.type "tuple"),none,(.seq #[(.ref 320)] 0),#[]⟩,⟨(.type "builtin_function_or_method"),none,(.fields #[(.builtin "type.__prepare__"),(.type "type")]),#[]⟩]
def hfs15 (P:Params):List Obj:=[⟨(.type "dict"),none,(.dict #[Ek P "__module__" 675 (.str "doletaper.parts" 585),Ek P "__qualname__" 677 (.str "Each" 676),Ek P "__firstlineno__" 679 (.int 175 678),Ek P "__init__" 689 (.ref 371),Ek P "worth" 697 (.ref 378),Ek P "row" 704 (.ref 385),Ek P "__static_attributes__" 708 (.ref 386)] 7),#[]⟩,tu0,fiC [(177,4,370),(182,4,377),(185,4,384)],cdO "Each" "Each" 670 175 0 0 361 false 181 362 .none .none .none .none 673,frO 363 360 "doletaper.parts" 585,tu0,fi0,tuS ["self","amount","low","high"] 683,tu0,gO "__init__" "Each.__init__" Zn,hko_370 P,hko_371 P,tu0,fi0,tuS ["self","home"] 693,tu0,gO "worth" "Each.worth" (Qi (top 40) 1),cdO "worth" "Each.worth" 690 182 2 3 372 true 181 373 .none (.ref 374) (.ref 375) (.ref 376) 695,⟨(.type "function"),none,(.func (W.fnOf "worth" "Each.worth" (QC (Qi (top 40) 1)) (Qx (Qi (top 40) 1)) (Qh (Qi (top 40) 1)) .none .none .none (.str "doletaper.parts" 585) none (.ref 377) .none)),#[]⟩,tu0,fi0,tuS ["self"] 701,tu0,gO "row" "Each.row" (Qi (top 40) 2)]
def hfs16 (P:Params):List Obj:=[cdO "row" "Each.row" 698 185 1 3 379 true 181 380 .none (.ref 381) (.ref 382) (.ref 383) 702,⟨(.type "function"),none,(.func (W.fnOf "row" "Each.row" (QC (Qi (top 40) 2)) (Qx (Qi (top 40) 2)) (Qh (Qi (top 40) 2)) .none .none .none (.str "doletaper.parts" 585) none (.ref 384) .none)),#[]⟩,tuS ["amount","high","low"] 705,hko_387 P,hko_388 P,⟨(.type "super"),none,(.fields #[(.ref 388),(.ref 388),(.ref 388)]),#[]⟩,⟨(.type "builtin_function_or_method"),none,(.fields #[(.builtin "object.__init_subclass__"),(.ref 388)]),#[]⟩,⟨(.type "tuple"),none,(.seq #[(.ref 320)] 0),#[]⟩,⟨(.type "builtin_function_or_method"),none,(.fields #[(.builtin "type.__prepare__"),(.type "type")]),#[]⟩,⟨(.type "dict"),none,(.dict #[Ek P "__module__" 719 (.str "doletaper.parts" 585),Ek P "__qualname__" 721 (.str "Rent" 720),Ek P "__firstlineno__" 723 (.int 187 722),Ek P "__init__" 732 (.ref 404),Ek P "worth" 740 (.ref 411),Ek P "row" 747 (.ref 418),Ek P "__static_attributes__" 750 (.ref 419)] 7),#[]⟩,tu0,fiC [(189,4,403),(193,4,410),(196,4,417)],cdO "Rent" "Rent" 714 187 0 0 394 false 181 395 .none .none .none .none 717,frO 396 393 "doletaper.parts" 585,tu0,fi0,tuS ["self","rate","most"] 727,tu0,gO "__init__" "Rent.__init__" Zl,hko_403 P,hko_404 P,tu0,fi0,tuS ["self","home"] 736]
def hfs17 (P:Params):List Obj:=[tu0,gO "worth" "Rent.worth" (Qi (top 41) 1),cdO "worth" "Rent.worth" 733 193 2 3 405 true 181 406 .none (.ref 407) (.ref 408) (.ref 409) 738,⟨(.type "function"),none,(.func (W.fnOf "worth" "Rent.worth" (QC (Qi (top 41) 1)) (Qx (Qi (top 41) 1)) (Qh (Qi (top 41) 1)) .none .none .none (.str "doletaper.parts" 585) none (.ref 410) .none)),#[]⟩,tu0,fi0,tuS ["self"] 744,tu0,gO "row" "Rent.row" (Qi (top 41) 2),cdO "row" "Rent.row" 741 196 1 3 412 true 181 413 .none (.ref 414) (.ref 415) (.ref 416) 745,⟨(.type "function"),none,(.func (W.fnOf "row" "Rent.row" (QC (Qi (top 41) 2)) (Qx (Qi (top 41) 2)) (Qh (Qi (top 41) 2)) .none .none .none (.str "doletaper.parts" 585) none (.ref 417) .none)),#[]⟩,tuS ["most","rate"] 748,hko_420 P,hko_421 P,⟨(.type "super"),none,(.fields #[(.ref 421),(.ref 421),(.ref 421)]),#[]⟩,⟨(.type "builtin_function_or_method"),none,(.fields #[(.builtin "object.__init_subclass__"),(.ref 421)]),#[]⟩,tu0,⟨(.type "builtin_function_or_method"),none,(.fields #[(.builtin "type.__prepare__"),(.type "type")]),#[]⟩,⟨(.type "dict"),none,(.dict #[Ek P "__module__" 761 (.str "doletaper.parts" 585),Ek P "__qualname__" 763 (.str "Term" 762),Ek P "__firstlineno__" 765 (.int 198 764),Ek P "met" 773 (.ref 437),Ek P "row" 780 (.ref 444),Ek P "__static_attributes__" 781 (.ref 445)] 6),#[]⟩,tu0,fiC [(200,4,436),(203,4,443)],cdO "Term" "Term" 756 198 0 0 427 false 181 428 .none .none .none .none 759,frO 429 426 "doletaper.parts" 585,tu0]
def hfs18 (P:Params):List Obj:=[fi0,tuS ["self","home"] 769,tu0,gO "met" "Term.met" (Qi (top 42) 0),cdO "met" "Term.met" 766 200 2 3 431 true 181 432 .none (.ref 433) (.ref 434) (.ref 435) 771,⟨(.type "function"),none,(.func (W.fnOf "met" "Term.met" (QC (Qi (top 42) 0)) (Qx (Qi (top 42) 0)) (Qh (Qi (top 42) 0)) .none .none .none (.str "doletaper.parts" 585) none (.ref 436) .none)),#[]⟩,tu0,fi0,tuS ["self"] 777,tu0,gO "row" "Term.row" (Qi (top 42) 1),cdO "row" "Term.row" 774 203 1 3 438 true 181 439 .none (.ref 440) (.ref 441) (.ref 442) 778,⟨(.type "function"),none,(.func (W.fnOf "row" "Term.row" (QC (Qi (top 42) 1)) (Qx (Qi (top 42) 1)) (Qh (Qi (top 42) 1)) .none .none .none (.str "doletaper.parts" 585) none (.ref 443) .none)),#[]⟩,tu0,hko_446 P,hko_447 P,⟨(.type "getset_descriptor"),none,(.fields #[(.str "__dict__" 782),(.ref 447),(.builtin "function.__dict__"),(.builtin "function.__dict__#set")]),#[]⟩,⟨(.type "getset_descriptor"),none,(.fields #[(.str "__weakref__" 784),(.ref 447),(.builtin "ExceptionGroup.__weakref__"),.none]),#[]⟩,⟨(.type "super"),none,(.fields #[(.ref 447),(.ref 447),(.ref 447)]),#[]⟩,⟨(.type "builtin_function_or_method"),none,(.fields #[(.builtin "object.__init_subclass__"),(.ref 447)]),#[]⟩,⟨(.type "tuple"),none,(.seq #[(.ref 447)] 0),#[]⟩,⟨(.type "builtin_function_or_method"),none,(.fields #[(.builtin "type.__prepare__"),(.type "type")]),#[]⟩,⟨(.type "dict"),none,(.dict #[Ek P "__module__" 796 (.str "doletaper.parts" 585),Ek P "__qualname__" 798 (.str "From" 797),Ek P "__firstlineno__" 800 (.int 205 799),Ek P "__init__" 810 (.ref 465),Ek P "met" 818 (.ref 472),Ek P "row" 825 (.ref 479),Ek P "__static_attributes__" 829 (.ref 480)] 7),#[]⟩,tu0]
def hfs19 (P:Params):List Obj:=[fiC [(207,4,464),(212,4,471),(215,4,478)],cdO "From" "From" 791 205 0 0 455 false 181 456 .none .none .none .none 794,frO 457 454 "doletaper.parts" 585,tu0,fi0,tuS ["self","many","low","high"] 804,tu0,gO "__init__" "From.__init__" Zm,hko_464 P,hko_465 P,tu0,fi0,tuS ["self","home"] 814,tu0,gO "met" "From.met" (Qi (top 43) 1),cdO "met" "From.met" 811 212 2 3 466 true 181 467 .none (.ref 468) (.ref 469) (.ref 470) 816,⟨(.type "function"),none,(.func (W.fnOf "met" "From.met" (QC (Qi (top 43) 1)) (Qx (Qi (top 43) 1)) (Qh (Qi (top 43) 1)) .none .none .none (.str "doletaper.parts" 585) none (.ref 471) .none)),#[]⟩,tu0,fi0,tuS ["self"] 822,tu0,gO "row" "From.row" (Qi (top 43) 2),cdO "row" "From.row" 819 215 1 3 473 true 181 474 .none (.ref 475) (.ref 476) (.ref 477) 823,⟨(.type "function"),none,(.func (W.fnOf "row" "From.row" (QC (Qi (top 43) 2)) (Qx (Qi (top 43) 2)) (Qh (Qi (top 43) 2)) .none .none .none (.str "doletaper.parts" 585) none (.ref 478) .none)),#[]⟩]
def hfs20 (P:Params):List Obj:=[tuS ["high","low","many"] 826,hko_481 P,hko_482 P,⟨(.type "super"),none,(.fields #[(.ref 482),(.ref 482),(.ref 482)]),#[]⟩,⟨(.type "builtin_function_or_method"),none,(.fields #[(.builtin "object.__init_subclass__"),(.ref 482)]),#[]⟩,⟨(.type "tuple"),none,(.seq #[(.ref 447)] 0),#[]⟩,⟨(.type "builtin_function_or_method"),none,(.fields #[(.builtin "type.__prepare__"),(.type "type")]),#[]⟩,⟨(.type "dict"),none,(.dict #[Ek P "__module__" 840 (.str "doletaper.parts" 585),Ek P "__qualname__" 842 (.str "Upto" 841),Ek P "__firstlineno__" 844 (.int 217 843),Ek P "__init__" 854 (.ref 498),Ek P "met" 862 (.ref 505),Ek P "row" 869 (.ref 512),Ek P "__static_attributes__" 873 (.ref 513)] 7),#[]⟩,tu0,fiC [(219,4,497),(224,4,504),(227,4,511)],cdO "Upto" "Upto" 835 217 0 0 488 false 181 489 .none .none .none .none 838,frO 490 487 "doletaper.parts" 585,tu0,fi0,tuS ["self","many","low","high"] 848,tu0,gO "__init__" "Upto.__init__" Zk,hko_497 P,hko_498 P,tu0,fi0,tuS ["self","home"] 858,tu0,gO "met" "Upto.met" (Qi (top 44) 1)]
def hfs21 (P:Params):List Obj:=[cdO "met" "Upto.met" 855 224 2 3 499 true 181 500 .none (.ref 501) (.ref 502) (.ref 503) 860,⟨(.type "function"),none,(.func (W.fnOf "met" "Upto.met" (QC (Qi (top 44) 1)) (Qx (Qi (top 44) 1)) (Qh (Qi (top 44) 1)) .none .none .none (.str "doletaper.parts" 585) none (.ref 504) .none)),#[]⟩,tu0,fi0,tuS ["self"] 866,tu0,gO "row" "Upto.row" (Qi (top 44) 2),cdO "row" "Upto.row" 863 227 1 3 506 true 181 507 .none (.ref 508) (.ref 509) (.ref 510) 867,⟨(.type "function"),none,(.func (W.fnOf "row" "Upto.row" (QC (Qi (top 44) 2)) (Qx (Qi (top 44) 2)) (Qh (Qi (top 44) 2)) .none .none .none (.str "doletaper.parts" 585) none (.ref 511) .none)),#[]⟩,tuS ["high","low","many"] 870,hko_514 P,hko_515 P,⟨(.type "super"),none,(.fields #[(.ref 515),(.ref 515),(.ref 515)]),#[]⟩,⟨(.type "builtin_function_or_method"),none,(.fields #[(.builtin "object.__init_subclass__"),(.ref 515)]),#[]⟩,hko_518 P,hko_519 P,hko_520 P,tu0,fi0,tuS ["words","form","further"] 973,tu0,gO "form_of" "form_of" XQ,hko_526 P,hko_527 P]
def hfs22 (P:Params):List Obj:=[tu0,fi0,tuS ["words","form","values"] 982,tu0,gO "values_of" "values_of" Z0,hko_533 P,hko_534 P,tu0,fi0,tuS ["sort","values"] 991,tu0,gO "thing_of" "thing_of" Xl,hko_540 P,hko_541 P,tu0,fi0,tuS ["title","draft","name"] 999,tu0,gO "new_draft" "new_draft" Z3,hko_547 P,hko_548 P,tu0,fi0,gO "fits_in" "fits_in" XR]
def hfs23 (P:Params):List Obj:=[hko_552 P,hko_553 P,tu0,fi0,tuS ["draft","limit","rounding"] 1014,tu0,gO "kind_of" "kind_of" XN,hko_559 P,hko_560 P,tu0,⟨(.type "builtin_function_or_method"),none,(.fields #[(.builtin "type.__prepare__"),(.type "type")]),#[]⟩,⟨(.type "dict"),none,(.dict #[Ek P "__module__" 1027 (.str "doletaper.reading" 877),Ek P "__qualname__" 1029 (.str "Reader" 1028),Ek P "__firstlineno__" 1031 (.int 278 1030),Ek P "__init__" 1038 (.ref 574),Ek P "titles_told" 1044 (.ref 579),Ek P "fits" 1053 (.ref 586),Ek P "caps_none_twice" 1063 (.ref 593),Ek P "take" 1072 (.ref 600),Ek P "office_told" 1078 (.ref 605),Ek P "__static_attributes__" 1082 (.ref 606)] 10),#[]⟩,tu0,fiC [(280,4,573),(285,4,578),(288,4,585),(295,4,592),(301,4,599),(312,4,604)],cdO "Reader" "Reader" 1022 278 0 0 564 false 181 565 .none .none .none .none 1025,frO 566 563 "doletaper.reading" 877,tu0,fi0,tuS ["self"] 1035,tu0,gO "__init__" "Reader.__init__" Zd,hko_573 P,hko_574 P,tu0]
def hfs24 (P:Params):List Obj:=[fi0,gO "titles_told" "Reader.titles_told" QZ,hko_578 P,hko_579 P,tu0,fi0,tuS ["self","sort","values"] 1048,tu0,gO "fits" "Reader.fits" ZA,hko_585 P,hko_586 P,tu0,fi0,tuS ["self","titles","capped","cap"] 1057,tu0,gO "caps_none_twice" "Reader.caps_none_twice" QN,hko_592 P,hko_593 P,tu0,fi0,tuS ["self","sort","values"] 1067,tu0,gO "take" "Reader.take" Zz,hko_599 P]
def hfs25 (P:Params):List Obj:=[hko_600 P,tu0,fi0,gO "office_told" "Reader.office_told" Q0,hko_604 P,hko_605 P,tuS ["asked_for","caps","drafts"] 1079,hko_607 P,hko_608 P,⟨(.type "getset_descriptor"),none,(.fields #[(.str "__dict__" 1083),(.ref 608),(.builtin "function.__dict__"),(.builtin "function.__dict__#set")]),#[]⟩,⟨(.type "getset_descriptor"),none,(.fields #[(.str "__weakref__" 1085),(.ref 608),(.builtin "ExceptionGroup.__weakref__"),.none]),#[]⟩,⟨(.type "super"),none,(.fields #[(.ref 608),(.ref 608),(.ref 608)]),#[]⟩,⟨(.type "builtin_function_or_method"),none,(.fields #[(.builtin "object.__init_subclass__"),(.ref 608)]),#[]⟩,tu0,fi0,tuS ["rows","reader","place","row","words","values"] 1093,tu0,gO "read" "read" Jr,hko_618 P,hko_619 P,tu0,fi0,tuS ["_law_script","_law_k"] 1107,tu0]
def hfs26 (P:Params):List Obj:=[gO "_law_cell" "_law_cell" Yo,hko_625 P,hko_626 P,tu0,fi0,tuS ["_law_cell_here","_law_k","_law_prime"] 1115,tu0,gO "_law_mixed" "_law_mixed" XJ,hko_632 P,hko_633 P,tu0,fi0,tuS ["_law_one","_law_other"] 1124,tu0,gO "_law_common" "_law_common" Xm,hko_639 P,hko_640 P,tu0,fi0,tuS ["_law_top","_law_bottom","_law_common_here"] 1132,tu0,gO "_law_made" "_law_made" Ym,hko_646 P,hko_647 P]
def hfs27 (P:Params):List Obj:=[tu0,fi0,tuS ["_law_cell_here","_law_letters","_law_size","_law_at","_law_text","_law_k"] 1141,tu0,gO "_law_name" "_law_name" Yl,hko_653 P,hko_654 P,tu0,fi0,tuS ["_law_cell_here","_law_k","_law_top","_law_bottom"] 1153,tu0,gO "_law_rate" "_law_rate" Yi,hko_660 P,hko_661 P,tu0,fi0,tuS ["_law_rate_here"] 1163,tu0,gO "_law_shown" "_law_shown" XI,hko_667 P,hko_668 P,tu0,fi0,tuS ["_law_cell_here","_law_low"] 1170]
def hfs28 (P:Params):List Obj:=[tu0,gO "_law_ages" "_law_ages" Yp,hko_674 P,hko_675 P,tu0,fi0,tuS ["_law_cell_here","_law_k","_law_number"] 1178,tu0,gO "_law_amount" "_law_amount" Xn,hko_681 P,hko_682 P,tu0,fi0,tuS ["_law_cell_here","_law_most","_law_pool_here","_law_k","_law_title"] 1187,tu0,gO "_law_pool" "_law_pool" Yj,hko_688 P,hko_689 P,tu0,fi0,tuS ["_law_cell_here","_law_amount_here","_law_low","_law_high","_law_way"] 1198,tu0,gO "_law_part" "_law_part" Yk,hko_695 P]
def hfs29 (P:Params):List Obj:=[hko_696 P,tu0,fi0,tuS ["_law_cell_here","_law_low","_law_high","_law_many"] 1209,tu0,gO "_law_term" "_law_term" Yg,hko_702 P,hko_703 P,tu0,fi0,tuS ["_law_row","_law_words_here","_law_one"] 1219,tu0,gO "_law_words" "_law_words" XH,hko_709 P,hko_710 P,tu0,fi0,tuS ["_law_offs","_law_cell_here","_law_step"] 1228,tu0,gO "_law_limit" "_law_limit" XM,hko_716 P,hko_717 P,tu0,fi0]
def hfs30 (P:Params):List Obj:=[gO "_law_put" "_law_put" Wb,hko_721 P,hko_722 P,tu0,fi0,gO "_law_cap" "_law_cap" Wc,hko_726 P,hko_727 P,tu0,fi0,gO "_law_kind" "_law_kind" Yn,hko_731 P,hko_732 P,tu0,fi0,tuS ["_law_cells","_law_pool_here","_law_kinds","_law_caps","_law_rows_here","_law_cell_here","_law_row"] 1255,tu0,gO "_law_rows" "_law_rows" Yh,hko_738 P,hko_739 P,tu0,fi0,gO "_law_lacking" "_law_lacking" Z5,hko_743 P]
def hfs31 (P:Params):List Obj:=[hko_744 P,tu0,fi0,tuS ["_law_found","_law_part_here"] 1274,tu0,gO "_law_is_part" "_law_is_part" Z7,hko_750 P,hko_751 P,tu0,fi0,tuS ["_law_found","_law_term_here","_law_good"] 1282,tu0,gO "_law_is_term" "_law_is_term" Z6,hko_757 P,hko_758 P,tu0,fi0,tuS ["_law_found","_law_kind_here","_law_title","_law_parts","_law_terms","_law_pays","_law_counts","_law_offs","_law_limits","_law_rounds","_law_k"] 1291,tu0,gO "_law_is_kind" "_law_is_kind" Z8,hko_764 P,hko_765 P,tu0,fi0]
def hfs32 (P:Params):List Obj:=[tuS ["_law_found","_law_kinds","_law_caps","_law_k","_law_one"] 1308,tu0,gO "_law_is_office" "_law_is_office" Zy,hko_771 P,hko_772 P,tu0,fi0,tuS ["_law_script","_law_pool_here","_law_kinds","_law_caps","_law_rows_here","_law_handed","_law_found"] 1319,tu0,gO "law" "law" WY,hko_778 P,hko_779 P]
def FS (P:Params):List Obj:=hfs0 P++(hfs1 P++(hfs2 P++(hfs3 P++(hfs4 P++(hfs5 P++(hfs6 P++(hfs7 P++(hfs8 P++(hfs9 P++(hfs10 P++(hfs11 P++(hfs12 P++(hfs13 P++(hfs14 P++(hfs15 P++(hfs16 P++(hfs17 P++(hfs18 P++(hfs19 P++(hfs20 P++(hfs21 P++(hfs22 P++(hfs23 P++(hfs24 P++(hfs25 P++(hfs26 P++(hfs27 P++(hfs28 P++(hfs29 P++(hfs30 P++(hfs31 P++(hfs32 P))))))))))))))))))))))))))))))))
open PySem PySem.W in
def hdF (f:Params->List Obj)(w:World)(os:OsState):Shared:=⟨⟨⟨f w.params⟩,{}⟩,#[],{},1329,os⟩
open PySem PySem.W in
def hdL0 (p:Program)(w:World)(os:OsState):=Hd.answer p 61 6000 10 (λs=>s) w os
open PySem PySem.W in
def hdR0 (p:Program)(f:Params->List Obj)(w:World)(os:OsState):=Hd.answer0 p 2 (hdF f w os)
theorem qL0:hdL0=hdL0:=rfl
theorem qR0:hdR0=hdR0:=rfl
name_quick hdL0 for hdL0 by qL0
name_quick hdR0 for hdR0 by qR0
theorem MM (w:World)(os:OsState):(λw=>hdL0 PySem.Challenge.pw_doletaper_k36_rows_read w os=hdR0 PySem.Challenge.pw_doletaper_k36_rows_read FS w os) (w.withFollow "special-get-raises" false):=by
 show _=_;rw[PySem.W.Fast.hdL0_eq,PySem.W.Fast.hdR0_eq]
 (kernel_rfl)
theorem ML (w:World)(os:OsState):(λw=>hdL0 PySem.Challenge.pw_doletaper_k36_rows_read w os=hdR0 PySem.Challenge.pw_doletaper_k36_rows_read FS w os) (w.withFollow "special-get-raises" true):=by
 show _=_;rw[PySem.W.Fast.hdL0_eq,PySem.W.Fast.hdR0_eq]
 (kernel_rfl)
theorem Bq (w:World)(os:OsState):hdL0 PySem.Challenge.pw_doletaper_k36_rows_read w os=hdR0 PySem.Challenge.pw_doletaper_k36_rows_read FS w os:=W.byRow2 "special-get-raises" (P:=λw=>hdL0 PySem.Challenge.pw_doletaper_k36_rows_read w os=hdR0 PySem.Challenge.pw_doletaper_k36_rows_read FS w os) (λw=>MM w os) (λw=>ML w os) w
open PySem PySem.W in
def hdL1 (p q:Program)(A:List Addr)(rs:W.WRecords)(lo:List Str)(s:Shared)(w:World):=Hd.fH s λs=>((W.staticsOk (importedModules p.main.body) (W.boot_heap w.params) s.heap&&W.namesBound p s.heap&&W.gensDone s&&W.laidKept (W.boot_heap w.params) s.heap),A.map s.heap.get?)
open PySem PySem.W in
def hdR1 (p q:Program)(f:Params->W.Frag)(lo:List Str)(w:World):=(true,(f w.params).map λp=>some p.2)
theorem qL1:hdL1=hdL1:=rfl
name_quick hdL1 for hdL1 by qL1
theorem P6 (w:World)(os:OsState):hdL1 PySem.Challenge.pw_doletaper_k36_rows_read hkV hkA (W.RowW.records (W.OpenRow.toRowW PySem.Challenge.rw_doletaper_k36_rows_read.row)) hkLo (hdF FS w os) w=hdR1 PySem.Challenge.pw_doletaper_k36_rows_read hkV HK hkLo w:=by
 rw[PySem.W.Fast.hdL1_eq]
 (kernel_rfl)
open PySem PySem.W in
def hdL2 (p q:Program)(A:List Addr)(rs:W.WRecords)(lo:List Str)(s:Shared)(w:World):=Hd.fH s λs=>seen ((recsOf q).map (·.name)) (ownsOf q) [] { s with gens:=#[] }
open PySem PySem.W in
def hdR2 (p q:Program)(f:Params->W.Frag)(lo:List Str)(w:World):=(expectedOf q)
theorem qL2:hdL2=hdL2:=rfl
name_quick hdL2 for hdL2 by qL2
theorem P5 (w:World)(os:OsState):hdL2 PySem.Challenge.pw_doletaper_k36_rows_read hkV hkA (W.RowW.records (W.OpenRow.toRowW PySem.Challenge.rw_doletaper_k36_rows_read.row)) hkLo (hdF FS w os) w=hdR2 PySem.Challenge.pw_doletaper_k36_rows_read hkV HK hkLo w:=by
 rw[PySem.W.Fast.hdL2_eq]
 (kernel_rfl)
open PySem PySem.W in
def hdL31 (p q:Program)(A:List Addr)(rs:W.WRecords)(lo:List Str)(s:Shared)(w:World):=Hd.fH s λs=>(s.heap.bltView)
open PySem PySem.W in
def hdR31 (p q:Program)(f:Params->W.Frag)(lo:List Str)(w:World):=bltViewBooted
theorem Bp (w:World)(os:OsState):hdL31 PySem.Challenge.pw_doletaper_k36_rows_read hkV hkA (W.RowW.records (W.OpenRow.toRowW PySem.Challenge.rw_doletaper_k36_rows_read.row)) hkLo (hdF FS w os) w=hdR31 PySem.Challenge.pw_doletaper_k36_rows_read hkV HK hkLo w:=by
 (kernel_rfl)
open PySem PySem.W in
def hdL32 (p q:Program)(A:List Addr)(rs:W.WRecords)(lo:List Str)(s:Shared)(w:World):=Hd.fH s λs=>(s.heap.keysOk (looseW q lo) ((recsOf q).map (·.name)) ((litsOf q).map (·.1)) ((clssOf q (looseW q lo)).map (·.name))&&s.heap.accountedOkI (importedModules p.main.body)&&s.heap.isNs mainGlobals&&s.heap.isNs builtinsNs&&tablesOk q s.heap&&(λs=>W.xlAt q [] s&&W.recOk rs s) s&&(if true then s.gens.size==0 else !leftWithCleanup s.gens))
open PySem PySem.W in
def hdR32 (p q:Program)(f:Params->W.Frag)(lo:List Str)(w:World):=true
theorem Fb:hdL32=hdL32:=rfl
name_quick hdL32 for hdL32 by Fb
theorem Bo (w:World)(os:OsState):hdL32 PySem.Challenge.pw_doletaper_k36_rows_read hkV hkA (W.RowW.records (W.OpenRow.toRowW PySem.Challenge.rw_doletaper_k36_rows_read.row)) hkLo (hdF FS w os) w=hdR32 PySem.Challenge.pw_doletaper_k36_rows_read hkV HK hkLo w:=by
 rw[PySem.W.Fast.hdL32_eq]
 (kernel_rfl)
open PySem PySem.W in
def hdL33 (p q:Program)(A:List Addr)(rs:W.WRecords)(lo:List Str)(s:Shared)(w:World):=Hd.fH s λs=>(tabsOk q s)
open PySem PySem.W in
def hdR33 (p q:Program)(f:Params->W.Frag)(lo:List Str)(w:World):=true
theorem HZ:hdL33=hdL33:=rfl
name_quick hdL33 for hdL33 by HZ
theorem Bm (w:World)(os:OsState):hdL33 PySem.Challenge.pw_doletaper_k36_rows_read hkV hkA (W.RowW.records (W.OpenRow.toRowW PySem.Challenge.rw_doletaper_k36_rows_read.row)) hkLo (hdF FS w os) w=hdR33 PySem.Challenge.pw_doletaper_k36_rows_read hkV HK hkLo w:=by
 rw[PySem.W.Fast.hdL33_eq]
 (kernel_rfl)
open PySem PySem.W in
def hdL4 (p q:Program)(A:List Addr)(rs:W.WRecords)(lo:List Str)(s:Shared)(w:World):=Hd.fH s λs=>(pinSeenD q (drecsOf q) s,plainSeenE q (looseW q lo) s,plainSeenD q lo s,wideSeen q s,clsSeenW q lo s)
open PySem PySem.W in
def hdR4 (p q:Program)(f:Params->W.Frag)(lo:List Str)(w:World):=(pinGoodD (drecsOf q),plainGoodE q (looseW q lo),plainGoodD q lo,wideGood q,clsGoodW q lo)
theorem qL4:hdL4=hdL4:=rfl
name_quick hdL4 for hdL4 by qL4
theorem P4 (w:World)(os:OsState):hdL4 PySem.Challenge.pw_doletaper_k36_rows_read hkV hkA (W.RowW.records (W.OpenRow.toRowW PySem.Challenge.rw_doletaper_k36_rows_read.row)) hkLo (hdF FS w os) w=hdR4 PySem.Challenge.pw_doletaper_k36_rows_read hkV HK hkLo w:=by
 rw[PySem.W.Fast.hdL4_eq]
 (kernel_rfl)
theorem hd_left:W.LeftO PySem.Challenge.pw_doletaper_k36_rows_read hkV hkLo (λs=>W.xlAt hkV [] s&&W.recOk (W.RowW.records (W.OpenRow.toRowW PySem.Challenge.rw_doletaper_k36_rows_read.row)) s) (W.Hook.obs (W.kHook HK hkA hkA_eq)) (W.Hook.val (W.kHook HK hkA hkA_eq)) 400000:=
 Hd.left_okF (c:=61) (F:=6000) (M:=10) (n:=2) (fin:=hdF FS) (by kernel_rfl) rfl (λs=>by kernel_rfl) Hd.size Bq P6 P5 Bp Bo Bm P4 (by kernel_rfl)
end My
namespace L2
open PySem PySem.Spec PyProof.Rows
abbrev Key:=Sum Int Str
def JF:Key->Value->Bool
 | .inl k,v=>Value.isInt k v
 | .inr x,v=>Value.isStrOf x v
def Ff (w:World):Key->Int
 | .inl k=>hashInt k
 | .inr x=>hashStr w x
theorem Q5:∀{k:Key}{v:Value},JF k v=true->(∃i t,k=Sum.inl i/\v=Value.int i t)∨(∃x t,k=Sum.inr x/\v=Value.str x t)
 | .inl i,v,h=>by
  obtain⟨t,e⟩:=Value.isInt_shape (k:=i) (v:=v) h;exact .inl ⟨i,t,rfl,e⟩
 | .inr x,v,h=>by
  obtain⟨t,e⟩:=Value.isStrOf_shape (x:=x) (v:=v) h;exact .inr ⟨x,t,rfl,e⟩
theorem Nn (i:Int)(t:Tok):JF (.inl i) (.int i t)=true:=by simp[JF,Value.isInt]
theorem WR (x:Str)(t:Tok):JF (.inr x) (.str x t)=true:=by simp[JF,Value.isStrOf]
theorem PU (a b:Int):decide ((Sum.inl a:Key)=Sum.inl b)=(a==b):=by
 by_cases e:a=b
 ·subst e;simp
 ·have h:¬(Sum.inl a:Key)=Sum.inl b:=λq=>e (Sum.inl.inj q)
  rw[F1 h];exact(beq_eq_false_iff_ne.mpr e).symm
theorem PP (a b:Str):decide ((Sum.inr a:Key)=Sum.inr b)=decide (a=b):=by
 by_cases e:a=b
 ·subst e;simp
 ·have h:¬(Sum.inr a:Key)=Sum.inr b:=λq=>e (Sum.inr.inj q)
  rw[F1 h,F1 e]
theorem PR (a:Int)(b:Str):decide ((Sum.inl a:Key)=Sum.inr b)=false:=F1 (λq=>nomatch q)
theorem PQ (a:Str)(b:Int):decide ((Sum.inr a:Key)=Sum.inl b)=false:=F1 (λq=>nomatch q)
def QY (prog:Program)(w:World):PySem.KeyKind prog w Key where
 is:=JF
 hash:=Ff w
 inj:=λv a b ha hb=>by
  rcases Q5 ha with ⟨i,t,rfl,rfl⟩|⟨x,t,rfl,rfl⟩
  ·rcases Q5 hb with ⟨j,u,rfl,e⟩|⟨y,u,rfl,e⟩
   ·injection e with e1 _;rw[e1]
   ·exact nomatch e
  ·rcases Q5 hb with ⟨j,u,rfl,e⟩|⟨y,u,rfl,e⟩
   ·exact nomatch e
   ·injection e with e1 _;rw[e1]
 byValue:=λk v h=>by
  rcases Q5 h with ⟨i,t,rfl,rfl⟩|⟨x,t,rfl,rfl⟩<;>rfl
 pyHash:=λhv h=>by
  rcases Q5 hv with ⟨i,t,rfl,rfl⟩|⟨x,t,rfl,rfl⟩
  ·exact wpAny_pyHash_int h
  ·exact wpAny_pyHash_str h
 eqBool:=λhu hv h=>by
  rcases Q5 hu with ⟨i,t,rfl,rfl⟩|⟨x,t,rfl,rfl⟩
  ·rcases Q5 hv with ⟨j,u,rfl,rfl⟩|⟨y,u,rfl,rfl⟩
   ·rw[PU] at h;exact wpAny_eqBool_int h
   ·rw[PR] at h;exact SeqAt.EqAt.int_str i t y u _ _ _ _ h
  ·rcases Q5 hv with ⟨j,u,rfl,rfl⟩|⟨y,u,rfl,rfl⟩
   ·rw[PQ] at h;exact SeqAt.EqAt.str_int x t j u _ _ _ _ h
   ·rw[PP] at h;exact wpAny_eqBool_str h
 «strs»:=λk x t v h=>by
  rcases Q5 h with ⟨i,u,rfl,e⟩|⟨y,u,rfl,e⟩
  ·exact nomatch e
  ·injection e with e1 _
   subst e1;cases v<;>rfl
theorem VX (prog:Program)(w:World)(i:Int)(t:Tok):(QY prog w).is (.inl i) (.int i t)=true:=Nn i t
theorem VW (prog:Program)(w:World)(x:Str)(t:Tok):(QY prog w).is (.inr x) (.str x t)=true:=WR x t
inductive V where
 | non|bl (b:Bool)|int (i:Int)|str (x:Str)|byt (b:Array UInt8)|flt (b:UInt64)|ref (a:Addr)|ty (n:String)
 deriving DecidableEq
def RelV:V->Value->Prop
 | .non,u=>u=Value.none
 | .bl b,u=>u=Value.bool b
 | .int i,u=>∃t,u=Value.int i t
 | .str x,u=>∃t,u=Value.str x t
 | .byt b,u=>∃t,u=Value.bytes b t
 | .flt b,u=>∃t,u=Value.float b t
 | .ref a,u=>u=Value.ref a
 | .ty n,u=>u=Value.type n
abbrev Vals:List V->List Value->Prop:=Paired RelV
theorem Vals.length {xs:List V}(r:Vals xs us):xs.length=us.length:=Paired.length r
theorem Vals.get:∀{xs:List V}{us:List Value}{i:Nat}{x:V},Vals xs us->xs[i]?=some x->∃u,us[i]?=some u/\RelV x u
 | _,_,_,_,.nil,e=>by simp at e
 | _,_,0,_,.cons r _,e=>by simp at e;subst e;exact⟨_,rfl,r⟩
 | _,_,i+1,x,.cons _ t,e=>by
  obtain⟨u,h1,h2⟩:=Vals.get (i:=i) (x:=x) t (by simpa using e);exact⟨u,by simpa using h1,h2⟩
theorem Vals.append:∀{xs ys:List V}{us ws:List Value},Vals xs us->Vals ys ws->Vals (xs++ys) (us++ws)
 | _,_,_,_,.nil,s=>s
 | _,_,_,_,.cons r t,s=>.cons r (Vals.append t s)
theorem Vals.take:∀{xs:List V}{us:List Value}(n:Nat),Vals xs us->Vals (xs.take n) (us.take n)
 | _,_,0,_=>.nil
 | _,_,_+1,.nil=>.nil
 | _,_,n+1,.cons r t=>.cons r (Vals.take n t)
theorem Vals.drop:∀{xs:List V}{us:List Value}(n:Nat),Vals xs us->Vals (xs.drop n) (us.drop n)
 | _,_,0,r=>r
 | _,_,_+1,.nil=>.nil
 | _,_,n+1,.cons _ t=>Vals.drop n t
def RelO:Option V->Option Value->Prop
 | some v,some u=>RelV v u
 | none,none=>True
 | _,_=>False
def KV {κ:Type}:List (κ×V)->List (κ×Value)->Prop:=Paired λ(p:κ×V) (q:κ×Value)=>p.1=q.1/\RelV p.2 q.2
def kV:Key->V
 | .inl i=>.int i
 | .inr x=>.str x
inductive HO where
 | lst (xs:List V)
 | tup (xs:List V)
 | dK (kvs:List (Key×V))|dT (kvs:List (List Key×V))
 | set (S:Int->Bool) (n:Nat)
 | ins (C dx:Addr) (fs:List (Str×V))
 | own (x:Addr)
 | xd (fs:List (Str×V))
 | met (f x:Addr)
 | rng (lo hi:Int)
 | frz (o:Obj) (u:HO)
 | tbl (ps:Array Value)
 | ext (φ:Heap->Prop)
abbrev Hp:=Addr->Option HO
def upd (H:Hp)(a:Addr)(o:HO):Hp:=λb=>if b=a then some o else H b
theorem Qe {H:Hp}{a:Addr}{o:HO}:upd H a o a=some o:=by unfold upd;rw[FD rfl]
theorem Qq {H:Hp}{a b:Addr}{o:HO}(h:b≠a):upd H a o b=H b:=by unfold upd;rw[FC h]
theorem Kn {H:Hp}{a b:Addr}{o u:HO}(h:H a=some o)(h':H b=some u)(d:o≠u):a≠b:=by
 intro e;subst e;rw[h] at h';exact d (FX h')
theorem Qm {H:Hp}{a b:Addr}{o:HO}(h:H a=some o)(h':H b=none):a≠b:=by
 intro e;subst e;rw[h] at h';cases h'
section
variable (P:Program) (w:World)
def ObjOk (H:Hp)(h:Heap)(a:Addr):HO->Prop
 | .lst xs=>xs.length<=sizeLine/\∃(its:List Value) (n:Nat),Vals xs its/\h.get? a=some { cls:=.type "list",data:=.seq its.toArray n }
 | .tup xs=>xs.length<=sizeLine/\∃its:List Value,Vals xs its/\IsTup h a its.toArray
 | .dK kvs=>kvs.length<=sizeLine/\(a==sysModules)=false/\∃vs,KV kvs vs/\h.DictOf (QY P w) a vs
 | .dT kvs=>kvs.length<=sizeLine/\(a==sysModules)=false/\∃xs:List (List Key×Addr×Value),
   Paired (λ(p:List Key×V) (q:List Key×Addr×Value)=>p.1=q.1/\H q.2.1=some (.tup (p.1.map kV))/\RelV p.2 q.2.2) kvs xs /\
   ∃o es ep,h.get? a=some o/\o.ExactDict/\o.data=.dict es ep/\es.toList=xs.map (entryOfKey (tupleKind (QY P w)))/\(xs.map (·.1)).Nodup
 | .set S n=>h.SetOf (intKind P w) a S n
 | .ins C dx fs=>H dx=some (.own a)/\fs.length<=1000/\dx≠a/\h.get? a=some (W.instObj C dx) /\
   ∃mA,h.Ns1 dx mA/\(∀f,RelO (fs.lookup f) (mA f))/\PySem.Within mA (fs.map (·.1))
 | .own _=>∃o,h.get? a=some o
 | .xd fs=>∃mA,h.Ns1 a mA/\∀f,RelO (fs.lookup f) (mA f)
 | .rng lo hi=>∃t u v,h.get? a=some { cls:=.type "range",data:=.fields #[.int lo t,.int hi u,.int 1 v] }
 | .frz o u=>h.get? a=some o/\ObjOk H h a u
 | .tbl ps=>h.get? a=some { cls:=.none,data:=.fields ps }
 | .met f x=>h.get? a=some (W.methodObj (.ref f) (.ref x))
 | .ext φ=>φ h/\(∃o,h.get? a=some o)/\∀h1 h2:Heap,φ h1->(∀o,h1.get? a=some o->h2.get? a=some o)->φ h2
def HOk (H:Hp)(h:Heap):Prop:=∀a o,H a=some o->ObjOk P w H h a o
end
section
variable {P:Program} {w:World} {H H':Hp} {h h':Heap} {a:Addr} {o:HO}
theorem ObjOk.lt (x:ObjOk P w H h a o):a<h.objs.size:=by
 cases o with
 | lst xs=>obtain⟨_,_,_,_,e⟩:=x;exact FJ e
 | tup xs=>obtain⟨_,_,_,p⟩:=x;exact p.lt
 | dK kvs=>obtain⟨_,_,_,_,o,_,_,e,_⟩:=x;exact FJ e
 | dT kvs=>obtain⟨_,_,_,_,o,_,_,e,_⟩:=x;exact FJ e
 | set S n=>obtain⟨o,_,_,_,e,_⟩:=x;exact FJ e
 | ins C dx fs=>obtain⟨_,_,_,e,_⟩:=x;exact FJ e
 | own y=>obtain⟨_,e⟩:=x;exact FJ e
 | xd fs=>obtain⟨_,⟨_,_,_,e,_⟩,_⟩:=x;exact FJ e
 | rng lo hi=>obtain⟨_,_,_,e⟩:=x;exact FJ e
 | frz ob u=>obtain⟨e,_⟩:=x;exact FJ e
 | tbl ps=>exact FJ (show h.get? a=some _ from x)
 | met f y=>exact FJ (show h.get? a=some _ from x)
 | ext φ=>obtain⟨_,⟨_,e⟩,_⟩:=x;exact FJ e
theorem Paired.mapP {β:Type}{F G:α->β->Prop}:∀{l₁:List α}{l₂:List β},Paired F l₁ l₂->(∀a b,F a b->G a b)->Paired G l₁ l₂
 | _,_,.nil,_=>.nil
 | _,_,.cons r t,f=>.cons (f _ _ r) (Paired.mapP t f)
theorem ObjOk.stay (x:ObjOk P w H h a o)(k:∀b u,(b=a∨H b=some (.own a))->h.get? b=some u->h'.get? b=some u)
  (ho:∀b,H b=some (.own a)->H' b=some (.own a)) (ht:∀b xs,H b=some (.tup xs)->H' b=some (.tup xs)):ObjOk P w H' h' a o:=by
 induction o with
 | lst xs=>obtain⟨z,its,n,r,e⟩:=x;exact⟨z,its,n,r,k _ _ (.inl rfl) e⟩
 | tup xs=>obtain⟨z,its,r,ob,e,c⟩:=x;exact⟨z,its,r,ob,k _ _ (.inl rfl) e,c⟩
 | dK kvs=>obtain⟨z,y,vs,r,ob,es,ep,e,c⟩:=x;exact⟨z,y,vs,r,ob,es,ep,k _ _ (.inl rfl) e,c⟩
 | dT kvs=>
  obtain⟨z,y,xs,r,ob,es,ep,e,c⟩:=x;exact⟨z,y,xs,Paired.mapP r λp q z=>⟨z.1,ht _ _ z.2.1,z.2.2⟩,ob,es,ep,k _ _ (.inl rfl) e,c⟩
 | set S n=>obtain⟨ob,es,ep,t,e,c⟩:=x;exact⟨ob,es,ep,t,k _ _ (.inl rfl) e,c⟩
 | ins C dx fs=>
  obtain⟨d,z,ne,e,mA,⟨od,es,ep,e2,c⟩,r⟩:=x;exact⟨ho _ d,z,ne,k _ _ (.inl rfl) e,mA,⟨od,es,ep,k _ _ (.inr d) e2,c⟩,r⟩
 | own y=>obtain⟨ob,e⟩:=x;exact⟨ob,k _ _ (.inl rfl) e⟩
 | xd fs=>obtain⟨mA,⟨od,es,ep,e,c⟩,r⟩:=x;exact⟨mA,⟨od,es,ep,k _ _ (.inl rfl) e,c⟩,r⟩
 | rng lo hi=>obtain⟨t,u,v,e⟩:=x;exact⟨t,u,v,k _ _ (.inl rfl) e⟩
 | frz ob u ih=>obtain⟨e,q⟩:=x;exact⟨k _ _ (.inl rfl) e,ih q⟩
 | tbl ps=>
  have e:h.get? a=some { cls:=.none,data:=.fields ps }:=x;show h'.get? a=some { cls:=.none,data:=.fields ps };exact k a _ (.inl rfl) e
 | met f y=>
  have e:h.get? a=some (W.methodObj (.ref f) (.ref y)):=x;show h'.get? a=some (W.methodObj (.ref f) (.ref y));exact k a _ (.inl rfl) e
 | ext φ=>obtain⟨p,⟨o,e⟩,st⟩:=x;exact⟨st _ _ p λo q=>k _ _ (.inl rfl) q,⟨o,k _ _ (.inl rfl) e⟩,st⟩
theorem HOk.lt (x:HOk P w H h)(e:H a=some o):a<h.objs.size:=(x a o e).lt
theorem HOk.fresh (x:HOk P w H h)(e:h.objs.size<=a):H a=none:=by
 cases q:H a with
 | none=>rfl
 | some u=>exact absurd (FW (x.lt q) e) (FY _)
theorem HOk.kept (x:HOk P w H h)(k:∀b u,h.get? b=some u->h'.get? b=some u):HOk P w H h':=λa o e=>
 (x a o e).stay (λb u _ q=>k b u q) (λ_ q=>q) λ_ _ q=>q
theorem HOk.laid (x:HOk P w H h)(k:∀b u,h.get? b=some u->h'.get? b=some u)(hp:h.objs.size<=a)(new:ObjOk P w (upd H a o) h' a o):HOk P w (upd H a o) h':=λb u e=>by
 have hn:=x.fresh hp;by_cases hb:b=a
 ·subst hb;rw[Qe] at e;cases e;exact new
 ·rw[Qq hb] at e;exact(x b u e).stay (λc v _ q=>k c v q) (λc q=>by rw[Qq (Qm q hn)];exact q) λc xs q=>by rw[Qq (Qm q hn)];exact q
end
def Rd (H:Hp)(a:Addr)(u:HO):Prop:=H a=some u∨∃o,H a=some (.frz o u)
theorem Rd.ok {H:Hp}{h:Heap}{a:Addr}{u:HO}(r:Rd H a u)(x:HOk P w H h):ObjOk P w H h a u:=by
 rcases r with r|⟨o,r⟩
 ·exact x a u r
 ·obtain⟨_,q⟩:=x a _ r;exact q
def Mut:Option HO->Prop
 | some (.lst _)=>True
 | some (.dK _)=>True
 | some (.dT _)=>True
 | some (.set _ _)=>True
 | some (.ins _ _ _)=>True
 | some (.ext _)=>True
 | _=>False
section
variable {P:Program} {w:World} {H:Hp} {h h':Heap} {x e:Addr} {o':HO}
theorem HOk.write (ok:HOk P w H h)(mu:Mut (H x))(he:e=x∨H e=some (.own x))(k:∀b u,b≠e->h.get? b=some u->h'.get? b=some u)(heo:∃u,h'.get? e=some u)
  (new:ObjOk P w (upd H x o') h' x o'):HOk P w (upd H x o') h':=λb u q=>by
 have nown:∀c y,H c=some (.own y)->c≠x:=λc y r z=>by subst z;rw[r] at mu;exact mu
 have ntup:∀c xs,H c=some (.tup xs)->c≠x:=λc xs r z=>by subst z;rw[r] at mu;exact mu
 by_cases hb:b=x
 ·subst hb;rw[Qe] at q;cases q;exact new
 ·rw[Qq hb] at q;by_cases hbe:b=e
  ·have q':H b=some (.own x):=by
    rcases he with z|z
    ·exact absurd (hbe.trans z) hb
    ·rw[hbe];exact z
   rw[q] at q';cases q';obtain⟨v,hv⟩:=heo;exact⟨v,by rw[hbe];exact hv⟩
  ·refine(ok b u q).stay (λc v hc r=>k c v ?_ r) (λc r=>by rw[Qq (nown c b r)];exact r) λc xs r=>by rw[Qq (ntup c xs r)];exact r
   rcases hc with rfl|hc
   ·exact hbe
   ·rintro rfl;rcases he with z|z
    ·exact nown c b hc z
    ·rw[hc] at z;cases z;exact hb rfl
end
structure Un (fs ex:List Addr)(H H':Hp)(h h':Heap):Prop where
 keep:∀b o,h.get? b=some o->H b=none->b∉fs->b∉ex->h'.get? b=some o
 slot:∀b o,h.get? b=some o->H b=none->b∈fs->b∉ex->∃sl,h'.get? b=some { o with slots:=sl }
 free:∀b o,h.get? b=some o->H b=none->b∉ex->H' b=none
 there:∀b o,h.get? b=some o->b∉ex->∃o',h'.get? b=some o'
 tups:∀b xs,H b=some (.tup xs)->H' b=some (.tup xs)
 frzs:∀b o u,H b=some (.frz o u)->H' b=some (.frz o u)
 tbls:∀b ps,H b=some (.tbl ps)->∃more,H' b=some (.tbl (ps++more))
section
variable {fs fs' ex ex':List Addr} {H H1 H2:Hp} {h h1 h2 h':Heap} {a x e:Addr} {o:HO}
theorem Un.any (u:Un fs ex H H1 h h1){b:Addr}{ob:Obj}(q:h.get? b=some ob)(n:H b=none)(hx:b∉ex):∃sl,h1.get? b=some { ob with slots:=sl }:=by
 by_cases hb:b∈fs
 ·exact u.slot b ob q n hb hx
 ·exact⟨ob.slots,u.keep b ob q n hb hx⟩
theorem Un.kept (k:∀b u,h.get? b=some u->h'.get? b=some u):Un fs ex H H h h':=
 ⟨λb ob q _ _ _=>k b ob q,λb ob q _ _ _=>⟨ob.slots,k b ob q⟩,λ_ _ _ n _=>n,λb ob q _=>⟨ob,k b ob q⟩,λ_ _ q=>q,λ_ _ _ q=>q,λ_ ps q=>⟨#[],by rw[q];simp⟩⟩
theorem Un.refl:Un fs ex H H h h:=Un.kept λ_ _ q=>q
theorem Un.laid (k:∀b u,h.get? b=some u->h'.get? b=some u)(hp:h.objs.size<=a)(hn:H a=none):Un fs ex H (upd H a o) h h' where
 keep:=λb u q _ _ _=>k b u q
 slot:=λb u q _ _ _=>⟨u.slots,k b u q⟩
 free:=λb u q n _=>by rw[Qq (FU (FW (FJ q) hp))];exact n
 there:=λb u q _=>⟨u,k b u q⟩
 tups:=λb xs q=>by rw[Qq (Qm q hn)];exact q
 frzs:=λb u xs q=>by rw[Qq (Qm q hn)];exact q
 tbls:=λb ps q=>⟨#[],by rw[Qq (Qm q hn),q];simp⟩
theorem Un.write (mu:Mut (H x))(he:e=x∨H e=some (.own x))(k:∀b u,b≠e->h.get? b=some u->h'.get? b=some u)(heo:∃u,h'.get? e=some u):Un fs ex H (upd H x o) h h':=by
 have hx:∀b,H b=none->b≠x:=λb n z=>by subst z;rw[n] at mu;exact mu
 have hb:∀b,H b=none->b≠e:=λb n z=>by
  subst z;rcases he with r|r
  ·exact hx b n r
  ·rw[n] at r;cases r
 have hm:∀b u,H b=some u->¬Mut (some u)->b≠x:=λb u q nm z=>by subst z;rw[q] at mu;exact nm mu
 refine⟨λb u q n _ _=>k b u (hb b n) q,λb u q n _ _=>⟨u.slots,k b u (hb b n) q⟩,λb u q n _=>by rw[Qq (hx b n)];exact n,λb u q _=>?_,
  λb xs q=>by rw[Qq (hm b _ q λz=>z)];exact q,λb u xs q=>by rw[Qq (hm b _ q λz=>z)];exact q,λb ps q=>⟨#[],by rw[Qq (hm b _ q λz=>z),q];simp⟩⟩
 by_cases hbe:b=e
 ·subst hbe;exact heo
 ·exact⟨u,k b u hbe q⟩
end
def trk (h:Heap)(H:Hp):List Addr:=(List.range h.objs.size).filter λa=>(H a).isSome
def Vk (h:Heap)(H:Hp):Heap:=W.hideAll h (trk h H)
theorem Nt (h:Heap)(H:Hp):(Vk h H).objs.size=h.objs.size:=W.hideAll_size _ _
theorem MK {h:Heap}{H:Hp}{b:Addr}{o:Obj}(e:h.get? b=some o)(n:H b=none):(Vk h H).get? b=some o:=
 W.hideAll_get _ e λhm=>by
  have q:(H b).isSome=true:=(Eu.mp hm).2;rw[n] at q;simp at q
theorem Bb {h:Heap}{H:Hp}{b:Addr}{o:Obj}(e:(Vk h H).get? b=some o):h.get? b=some o/\H b=none:=by
 have e':h.get? b=some o:=W.of_hideAll (trk h H) e;refine⟨e',?_⟩;cases q:H b with
 | none=>rfl
 | some x=>
  have hm:b∈trk h H:=Eu.mpr ⟨List.mem_range.mpr (FJ e'),by simp[q]⟩;have z:(Vk h H).get? b=none:=W.hideAll_none (trk h H) hm;rw[z] at e;cases e
def BJ (g h:Heap)(L:Addr):List (Addr×Obj):=(List.range h.objs.size).filterMap λa=>if a=L∨(g.get? a).isSome=true then none else(h.get? a).map λo=>(a,o)
def rest (g h:Heap)(L d:Addr):List (Addr×Obj):=(BJ g h L).filter λp=>decide (p.1≠d)
structure Mod (K:W.Frag)(mg:Str->Option Value)(base:Heap):Prop where
 kin:K.In base
 glob:base.Ns mainGlobals mg
 blt:∃mb,base.Ns builtinsNs mb/\∀x:Str,x≠"__name__"->mb x=bootBuiltins x
 nolimit:base.NoLimit
structure Cx where
 prog:Program
 w:World
 K:W.Frag
 mg:Str->Option Value
 base:Heap
 A:Around
 N:List Str
 s₀:Shared
 H₀:Hp
 env:Env
 outer:List Env
 stack:List Env
 ex:List Addr
 fn:Str->Bool
 calm:Bool
 pn:List (Addr×Obj)
 xe:Value->Shared->Prop
def frs (l:List Env):List Addr:=l.filterMap (·.frame)
abbrev Cx.fs (X:Cx):List Addr:=frs X.outer
def Vis (sc:Scope)(x:Str):Prop:=sc.names.lookup x=some .local∨sc.names.lookup x=some .cell∨sc.names.lookup x=some .free
def Loc (sc:Scope)(x:Str):Prop:=sc.names.lookup x=some .local∨sc.names.lookup x=some .cell
def Fy (env:Env)(h:Heap)(m:Str->Option Value)(x:Str)(u:Value):Prop:=
 (env.kindOf x=some .local/\m x=some u)∨((env.kindOf x=some .cell∨env.kindOf x=some .free)/\∃c,env.cells.lookup x=some c/\h.IsCell c (some u))
structure Cx.Ok (X:Cx):Prop where
 mod:Mod X.K X.mg X.base
 kind:X.env.scope.kind=.function
 glob:X.env.globals=mainGlobals
 blt:X.env.builtins=builtinsNs
 above:X.s₀.heap.objs.size<=X.env.locals
 inj:∀x y c,X.env.cells.lookup x=some c->X.env.cells.lookup y=some c->x=y
 has:∀x,(X.env.kindOf x=some .cell∨X.env.kindOf x=some .free)->∃c,X.env.cells.lookup x=some c
 cab:∀x c,X.fn x=true->X.env.cells.lookup x=some c->X.s₀.heap.objs.size<=c
 hd:X.calm=true->X.A.handled=none
 frames:X.A.frames=some X.stack
 stk:X.stack=X.outer∨(X.stack=X.env::X.outer/\X.env.frame=some X.env.locals)
 exf:∀b∈X.ex,b≠X.env.locals/\∀x c,X.env.cells.lookup x=some c->c≠b
 bs:∀b o,X.base.get? b=some o->X.s₀.heap.get? b=some o/\X.H₀ b=none
 bsz:X.base.objs.size<=X.s₀.heap.objs.size
 noex:∀b o,X.base.get? b=some o->b∉X.ex
 exfs:∀b∈X.ex,b∉X.fs
 funs:X.s₀.heap.FunFrames X.base X.outer
 frf:∀b∈X.fs,X.H₀ b=none
structure Inv (X:Cx)(pins:List (Addr×Obj))(σ:List (Option V))(H:Hp)(s:Shared):Prop where
 ok:X.Ok
 os:s.os=X.s₀.os
 bare:AllBare s.gens
 base:Un X.fs X.ex X.H₀ H X.s₀.heap s.heap
 loc:∃m,s.heap.Ns X.env.locals m/\∀(i:Nat) (x:Str) (v:V),X.N[i]?=some x->σ[i]?=some (some v)->Vis X.env.scope x->∃u,RelV v u/\Fy X.env s.heap m x u
 cell:∀x c,X.env.cells.lookup x=some c->∃v,s.heap.IsCell c v
 free:H X.env.locals=none
 freeC:∀x c,X.env.cells.lookup x=some c->H c=none
 pin:∀p∈X.pn++pins,s.heap.get? p.1=some p.2/\H p.1=none/\p.1≠X.env.locals/\p.1∉X.fs/\∀v,p.2.data≠.cell v
 hok:HOk X.prog X.w H s.heap
 len:σ.length=X.N.length
section
variable {X:Cx} {pins:List (Addr×Obj)} {σ:List (Option V)} {H H':Hp} {s:Shared} {h':Heap}
theorem Cx.Ok.nofr (ok:X.Ok){b:Addr}{o:Obj}(e:X.base.get? b=some o):b∉X.fs:=λhb=>by
 have:=(ok.funs.mem hb).1;rw[e] at this;cases this
theorem Inv.bs (I:Inv X pins σ H s):∀b o,X.base.get? b=some o->s.heap.get? b=some o/\H b=none:=λb o e=>
 ⟨I.base.keep b o (I.ok.bs b o e).1 (I.ok.bs b o e).2 (I.ok.nofr e) (I.ok.noex b o e),I.base.free b o (I.ok.bs b o e).1 (I.ok.bs b o e).2 (I.ok.noex b o e)⟩
theorem Inv.bk (I:Inv X pins σ H s):∀b o,X.base.get? b=some o->s.heap.get? b=some o:=λb o e=>(I.bs b o e).1
theorem Inv.mod (I:Inv X pins σ H s):Mod X.K X.mg X.base:=I.ok.mod
theorem Inv.kIn (I:Inv X pins σ H s):X.K.In s.heap:=I.ok.mod.kin.keeps I.bk
theorem Inv.lt (I:Inv X pins σ H s):X.env.locals<s.heap.objs.size:=let ⟨_,hn,_⟩:=I.loc;hn.lt
theorem Inv.sz (I:Inv X pins σ H s):X.s₀.heap.objs.size<=s.heap.objs.size:=F2 I.ok.above (E7 I.lt)
theorem Inv.nofs (I:Inv X pins σ H s){a:Addr}(h:s.heap.objs.size<=a):a∉X.fs:=λhb=>by
 obtain⟨_,o,ho,_⟩:=I.ok.funs.mem hb;exact absurd (FW (FJ ho) (F2 I.sz h)) (FY _)
theorem Inv.cne (I:Inv X pins σ H s):∀x c,X.env.cells.lookup x=some c->c≠X.env.locals:=λx c e z=>by
 obtain⟨v,o,ho,hd⟩:=I.cell x c e;obtain⟨m,⟨o',es,ep,ho',hd',_⟩,_⟩:=I.loc;rw[z,ho'] at ho;cases ho;rw[hd'] at hd;cases hd
theorem Inv.funs (I:Inv X pins σ H s):s.heap.FunFrames X.base X.outer:=by
 have all:∀(l:List Env),(∀b∈frs l,b∈X.fs)->X.s₀.heap.FunFrames X.base l->s.heap.FunFrames X.base l:=by
  intro l
  induction l with
  | nil=>intro _ _;trivial
  | cons env r ih=>
   intro hs hl;obtain⟨hk,⟨L,o,hf,hn,ho,hd⟩,hr⟩:=hl;have hL:L∈X.fs:=hs L (by unfold frs;rw[List.filterMap_cons,hf];exact Eb);obtain⟨sl,e⟩:=I.base.slot L o ho (I.ok.frf L hL) hL λz=>I.ok.exfs L z hL
   exact⟨hk,⟨L,_,hf,hn,e,hd⟩,ih (λb hb=>hs b (by unfold frs;rw[List.filterMap_cons,hf];exact F5 _ hb)) hr⟩
 exact all X.outer (λ_ hb=>hb) I.ok.funs
theorem Inv.stack (I:Inv X pins σ H s):s.heap.FunFrames X.base X.stack:=by
 rcases I.ok.stk with e|⟨e,hf⟩
 ·rw[e];exact I.funs
 ·rw[e];obtain⟨m,hn,_⟩:=I.loc;refine .cons (by rw[I.ok.kind];decide) hf hn ?_ I.funs;exact Heap.get?_none_of_le (F2 I.ok.bsz I.ok.above)
theorem Inv.stkSub (I:Inv X pins σ H s):∀b∈frs X.stack,b∈X.env.locals::X.fs:=λb hb=>by
 rcases I.ok.stk with e|⟨e,hf⟩
 ·rw[e] at hb;exact F5 _ hb
 ·rw[e] at hb;unfold frs at hb;rw[List.filterMap_cons,hf] at hb;exact hb
theorem Inv.stkFree (I:Inv X pins σ H s):∀b∈frs X.stack,H b=none:=λb hb=>by
 rcases FP.mp (I.stkSub b hb) with e|hb
 ·rw[e];exact I.free
 ·obtain⟨_,o,ho,_⟩:=I.ok.funs.mem hb;exact I.base.free b o ho (I.ok.frf b hb) λz=>I.ok.exfs b z hb
theorem Inv.step {g':Array GenState}{d':Drawn}(I:Inv X pins σ H s)
  (hch:∀b∈ch,(b∈X.ex∨X.s₀.heap.objs.size<=b)/\b≠X.env.locals/\(∀x c,X.env.cells.lookup x=some c->c≠b)/\∀p∈X.pn++pins,p.1≠b)
  (keep:∀b o,b≠X.env.locals->b∉X.fs->b∉ch->s.heap.get? b=some o->H b=none->h'.get? b=some o)
  (slot:∀b o,b≠X.env.locals->b∈X.fs->b∉ch->s.heap.get? b=some o->H b=none->∃sl,h'.get? b=some { o with slots:=sl }) (free:∀b o,b∉ch->s.heap.get? b=some o->H b=none->H' b=none)
  (there:∀b o,b∉ch->s.heap.get? b=some o->∃o',h'.get? b=some o')
  (tups:∀b xs,H b=some (.tup xs)->H' b=some (.tup xs)) (frzs:∀b o u,H b=some (.frz o u)->H' b=some (.frz o u)) (tbls:∀b ps,H b=some (.tbl ps)->∃more,H' b=some (.tbl (ps++more)))
  (ns:∀m,s.heap.Ns X.env.locals m->h'.Ns X.env.locals m) (hok:HOk X.prog X.w H' h') (hg:AllBare g') :
  Inv X pins σ H' { s with heap:=h',gens:=g',drawn:=d',toks:=t' }:=by
 have neL:∀b o,X.s₀.heap.get? b=some o->b≠X.env.locals:=λb o e=>FU (FW (FJ e) I.ok.above)
 have neC:∀b o,X.s₀.heap.get? b=some o->b∉X.ex->b∉ch:=λb o e hx hb=>by
  rcases(hch b hb).1 with z|z
  ·exact hx z
  ·exact absurd (FW (FJ e) z) (FY _)
 have cellK:∀x c,X.env.cells.lookup x=some c->∀v,s.heap.IsCell c v->h'.IsCell c v:=λx c e v ⟨o,ho,hd⟩=>by
  have nch:c∉ch:=λz=>(hch c z).2.2.1 x c e rfl
  by_cases hc:c∈X.fs
  ·obtain⟨sl,q⟩:=slot c o (I.cne x c e) hc nch ho (I.freeC x c e);exact⟨_,q,hd⟩
  ·exact⟨o,keep c o (I.cne x c e) hc nch ho (I.freeC x c e),hd⟩
 refine⟨I.ok,I.os,hg,⟨λb o e n hb hx=>?_,λb o e n hb hx=>?_,λb o e n hx=>?_,λb o e hx=>?_,λb xs e=>tups b xs (I.base.tups b xs e),λb o xs e=>frzs b o xs (I.base.frzs b o xs e),λb ps e=>?_⟩,?_,λx c e=>?_,?_,λx c e=>?_,λp hp=>?_,hok,I.len⟩
 ·exact keep b o (neL b o e) hb (neC b o e hx) (I.base.keep b o e n hb hx) (I.base.free b o e n hx)
 ·obtain⟨sl,e1⟩:=I.base.slot b o e n hb hx;obtain⟨sl',e2⟩:=slot b _ (neL b o e) hb (neC b o e hx) e1 (I.base.free b o e n hx);exact⟨sl',e2⟩
 ·obtain⟨o',e1⟩:=I.base.there b o e hx;exact free b o' (neC b o e hx) e1 (I.base.free b o e n hx)
 ·obtain⟨o',e1⟩:=I.base.there b o e hx;exact there b o' (neC b o e hx) e1
 ·obtain⟨m1,e1⟩:=I.base.tbls b ps e;obtain⟨m2,e2⟩:=tbls b _ e1;exact⟨m1++m2,by rw[e2,Array.append_assoc]⟩
 ·obtain⟨m,hn,hl⟩:=I.loc;refine⟨m,ns m hn,λi x v e1 e2 e3=>?_⟩;obtain⟨u,r,l⟩:=hl i x v e1 e2 e3;refine⟨u,r,?_⟩;rcases l with l|⟨k,c,e,z⟩
  ·exact .inl l
  ·exact .inr ⟨k,c,e,cellK x c e _ z⟩
 ·obtain⟨v,z⟩:=I.cell x c e;exact⟨v,cellK x c e v z⟩
 ·obtain⟨m,⟨o,_,_,ho,_⟩,_⟩:=I.loc;exact free _ o (λz=>(hch _ z).2.1 rfl) ho I.free
 ·obtain⟨v,o,ho,hd⟩:=I.cell x c e;exact free c o (λz=>(hch c z).2.2.1 x c e rfl) ho (I.freeC x c e)
 ·obtain⟨e,n,ne,nf,d⟩:=I.pin p hp;have nch:p.1∉ch:=λz=>(hch p.1 z).2.2.2 p hp rfl
  exact⟨keep p.1 p.2 ne nf nch e n,free p.1 p.2 nch e n,ne,nf,d⟩
theorem Inv.un (I:Inv X pins σ H s)(u:Un X.fs [] H H' s.heap h')(hok:HOk X.prog X.w H' h'):Inv X pins σ H' { s with heap:=h',toks:=t' }:=by
 obtain⟨m,⟨o,es,ep,ho,r⟩,_⟩:=id I.loc;obtain⟨sl,hL⟩:=u.any ho I.free (by simp);exact I.step (g':=s.gens) (d':=s.drawn) (ch:=[]) (λ_ z=>nomatch z) (λb o _ hb _ e n=>u.keep b o e n hb (by simp)) (λb o _ hb _ e n=>u.slot b o e n hb (by simp)) (λb o _ e n=>u.free b o e n (by simp)) (λb o _ e=>u.there b o e (by simp)) u.tups u.frzs u.tbls (λm' hm=>by
  obtain⟨o',es',ep',ho',r'⟩:=hm;rw[ho] at ho';cases ho';exact⟨_,es',ep',hL,r'⟩) hok I.bare
theorem Inv.call {g':Array GenState}{d':Drawn}(I:Inv X pins σ H s)(u:Un (frs X.stack) ch H H' s.heap h')(hok:HOk X.prog X.w H' h')(hg:AllBare g')
  (hch:∀b∈ch,(b∈X.ex∨X.s₀.heap.objs.size<=b)/\b≠X.env.locals/\(∀x c,X.env.cells.lookup x=some c->c≠b)/\∀p∈X.pn++pins,p.1≠b) :
  Inv X pins σ H' { s with heap:=h',gens:=g',drawn:=d',toks:=t' }:=by
 obtain⟨m,⟨o,es,ep,ho,r⟩,_⟩:=id I.loc;obtain⟨sl,hL⟩:=u.any ho I.free λz=>(hch _ z).2.1 rfl
 exact I.step (ch:=ch) hch (λb o hL hb hc e n=>u.keep b o e n (λz=>(FP.mp (I.stkSub b z)).elim hL hb) hc) (λb o _ _ hc e n=>u.any e n hc) (λb o hc e n=>u.free b o e n hc) (λb o hc e=>u.there b o e hc) u.tups u.frzs u.tbls (λm' hm=>by
  obtain⟨o',es',ep',ho',r'⟩:=hm;rw[ho] at ho';cases ho';exact⟨_,es',ep',hL,r'⟩) hok hg
theorem Inv.turned (I:Inv X pins σ H s)(k:∀b o,b≠it->s.heap.get? b=some o->h'.get? b=some o)(hn:H it=none)(hL:it≠X.env.locals)
  (h1:it∈X.ex∨X.s₀.heap.objs.size<=it) (h2:∀x c,X.env.cells.lookup x=some c->c≠it) (h3:∀p∈X.pn++pins,p.1≠it):Inv X pins σ H { s with heap:=h',toks:=t' }:=by
 have nit:∀b u,H b=some u->b≠it:=λb u e z=>by rw[z,hn] at e;cases e
 refine I.step (g':=s.gens) (d':=s.drawn) (ch:=[it]) (λb hb=>?_) (λb o _ _ hc e _=>k b o (λz=>hc (by simp[z])) e) (λb o _ _ hc e _=>⟨o.slots,k b o (λz=>hc (by simp[z])) e⟩) (λ_ _ _ _ n=>n)
  (λb o hc e=>⟨o,k b o (λz=>hc (by simp[z])) e⟩) (λ_ _ e=>e) (λ_ _ _ e=>e) (λb ps e=>⟨#[],by rw[e];simp⟩) (λm hm=>?_) (λb u e=>?_) I.bare
 ·have e:b=it:=by simpa using hb
  subst e;exact⟨h1,hL,h2,h3⟩
 ·obtain⟨o,es,ep,ho,r⟩:=hm;exact⟨o,es,ep,k _ o (Ey hL) ho,r⟩
 ·refine(I.hok b u e).stay (λc v hc q=>k c v ?_ q) (λ_ q=>q) λ_ _ q=>q
  rcases hc with z|z
  ·rw[z];exact nit b u e
  ·exact nit c _ z
theorem Inv.tok (I:Inv X pins σ H s)(t:Nat):Inv X pins σ H { s with toks:=t }:=I.un (h':=s.heap) (t':=t) Un.refl I.hok
theorem Inv.kept (I:Inv X pins σ H s)(k:∀b u,s.heap.get? b=some u->h'.get? b=some u):Inv X pins σ H { s with heap:=h',toks:=t' }:=I.un (Un.kept k) (I.hok.kept k)
theorem Inv.laid {a:Addr}{o:HO}(I:Inv X pins σ H s)(k:∀b u,s.heap.get? b=some u->h'.get? b=some u)(hp:s.heap.objs.size<=a)(new:ObjOk X.prog X.w (upd H a o) h' a o) :
  Inv X pins σ (upd H a o) { s with heap:=h',toks:=t' }:=I.un (Un.laid k hp (I.hok.fresh hp)) (I.hok.laid k hp new)
theorem Inv.write {x e:Addr}{o:HO}(I:Inv X pins σ H s)(mu:Mut (H x))(he:e=x∨H e=some (.own x))(k:∀b u,b≠e->s.heap.get? b=some u->h'.get? b=some u)(heo:∃u,h'.get? e=some u)
  (new:ObjOk X.prog X.w (upd H x o) h' x o):Inv X pins σ (upd H x o) { s with heap:=h',toks:=t' }:=I.un (Un.write mu he k heo) (I.hok.write mu he k heo new)
theorem Inv.pins_of {pins':List (Addr×Obj)}(I:Inv X pins σ H s)(h:∀p∈pins',s.heap.get? p.1=some p.2/\H p.1=none/\p.1≠X.env.locals/\p.1∉X.fs/\∀v,p.2.data≠.cell v):Inv X pins' σ H s:=
 ⟨I.ok,I.os,I.bare,I.base,I.loc,I.cell,I.free,I.freeC,λp hp=>(Ec.mp hp).elim (λz=>I.pin p (EF _ z)) (h p),I.hok,I.len⟩
theorem VT {N:List Str}(hN:N.Nodup){i j:Nat}{x:Str}(a:N[i]?=some x)(b:N[j]?=some x):i=j:=by
 obtain⟨h1,e1⟩:=FZ.mp a;obtain⟨h2,e2⟩:=FZ.mp b;exact(List.getElem_inj hN).mp (e1.trans e2.symm)
theorem Ki {v:V}{Q:Unit->Shared->Prop}(I:Inv X pins σ H s)(hN:X.N.Nodup)(hi:X.N[i]?=some x)(hx:Loc X.env.scope x)(r:RelV v u)
  (h:∀s',Inv X pins (σ.set i (some v)) H s'->(∃a,Heap.SameBut a s.heap s'.heap/\(a=X.env.locals∨X.env.cells.lookup x=some a))->Q () s') (hf:X.fn x=true∨X.env.scope.names.lookup x=some .local:=by first|exact .inl rfl|exact .inr rfl|assumption):wpAny M A (storeName X.env x u) Q E s:=by
 obtain⟨m,hn,hl⟩:=id I.loc;have hcls:(X.env.scope.kind==.class||(X.env.scope.kind==.module&&X.env.locals != X.env.globals))=false:=by rw[I.ok.kind];rfl
 have hiσ:i<σ.length:=by rw[I.len];exact(FZ.mp hi).1
 have cne:=I.cne;have tracked:∀{a:Addr} {h':Heap},(∃o,s.heap.get? a=some o/\H a=none)->Heap.SameBut a s.heap h'->HOk X.prog X.w H h':=λ{a h'} ha hs b ob e=>by
  obtain⟨_,_,hfree⟩:=ha;refine(I.hok b ob e).stay (λc w' hc q=>(hs.2 c ?_).trans q) (λ_ q=>q) λ_ _ q=>q
  rintro rfl;rcases hc with rfl|hc
  ·rw[hfree] at e;cases e
  ·rw[hfree] at hc;cases hc
 rcases hx with hk|hk
 ·refine wpAny_storeName_local hk hn (λh' hn' hs=>?_) hcls;obtain⟨oL,_,_,hoL,_⟩:=id hn;refine h _ ⟨I.ok,I.os,I.bare,⟨λb o e n hb hx=>?_,λb o e n hb hx=>?_,I.base.free,λb o e hx=>?_,I.base.tups,I.base.frzs,I.base.tbls⟩,⟨_,hn',λj y v' e1 e2 e3=>?_⟩,λy c e=>?_,I.free,I.freeC,λp hp=>?_,tracked ⟨oL,hoL,I.free⟩ hs,by simpa using I.len⟩ ⟨_,hs,.inl rfl⟩
  ·exact(hs.2 b (FU (FW (FJ e) I.ok.above))).trans (I.base.keep b o e n hb hx)
  ·obtain⟨sl,e1⟩:=I.base.slot b o e n hb hx;exact⟨sl,(hs.2 b (FU (FW (FJ e) I.ok.above))).trans e1⟩
  ·obtain⟨o',e1⟩:=I.base.there b o e hx;exact⟨o',(hs.2 b (FU (FW (FJ e) I.ok.above))).trans e1⟩
  ·by_cases hj:j=i
   ·subst hj;rw[hi] at e1;cases e1;rw[List.getElem?_set_self hiσ] at e2;cases e2;exact⟨u,r,.inl ⟨hk,by simp⟩⟩
   ·rw[List.getElem?_set_ne (Ey hj)] at e2;obtain⟨u',r',q⟩:=hl j y v' e1 e2 e3;refine⟨u',r',?_⟩;rcases q with ⟨k,e⟩|⟨k,c,e,z⟩
    ·refine .inl ⟨k,?_⟩;have:y≠x:=λe=>hj (VT hN e1 (e▸hi))
     simp[this,e]
    ·exact .inr ⟨k,c,e,z.sameBut hs (cne y c e)⟩
  ·obtain⟨w',z⟩:=I.cell y c e;exact⟨w',z.sameBut hs (cne y c e)⟩
  ·obtain⟨e,n,ne,nf,d⟩:=I.pin p hp;exact⟨(hs.2 p.1 ne).trans e,n,ne,nf,d⟩
 ·have hfn:X.fn x=true:=by
   rcases hf with z|z
   ·exact z
   ·rw[z] at hk;cases hk
  obtain⟨c,hc⟩:=I.ok.has x (.inl hk);obtain⟨w',z⟩:=I.cell x c hc;refine wpAny_storeName_cell I.ok.kind hk hc z (λh' hc' hs=>?_);obtain⟨oc,hoc,hocd⟩:=id z;refine h { s with heap:=h' } ⟨I.ok,I.os,I.bare,⟨λb o e n hb hx=>?_,λb o e n hb hx=>?_,I.base.free,λb o e hx=>?_,I.base.tups,I.base.frzs,I.base.tbls⟩,⟨m,hn.sameBut hs (Ey (cne x c hc)),λj y v' e1 e2 e3=>?_⟩,λy c' e=>?_,I.free,I.freeC,λp hp=>?_,tracked ⟨oc,hoc,I.freeC x c hc⟩ hs,by simpa using I.len⟩ ⟨c,hs,.inr hc⟩
  ·exact(hs.2 b (FU (FW (FJ e) (I.ok.cab x c hfn hc)))).trans (I.base.keep b o e n hb hx)
  ·obtain⟨sl,e1⟩:=I.base.slot b o e n hb hx;exact⟨sl,(hs.2 b (FU (FW (FJ e) (I.ok.cab x c hfn hc)))).trans e1⟩
  ·obtain⟨o',e1⟩:=I.base.there b o e hx;exact⟨o',(hs.2 b (FU (FW (FJ e) (I.ok.cab x c hfn hc)))).trans e1⟩
  ·by_cases hj:j=i
   ·subst hj;rw[hi] at e1;cases e1;rw[List.getElem?_set_self hiσ] at e2;cases e2;exact⟨u,r,.inr ⟨.inl hk,c,hc,hc'⟩⟩
   ·rw[List.getElem?_set_ne (Ey hj)] at e2;obtain⟨u',r',q⟩:=hl j y v' e1 e2 e3;refine⟨u',r',?_⟩;rcases q with q|⟨k,c',e,z'⟩
    ·exact .inl q
    ·refine .inr ⟨k,c',e,z'.sameBut hs ?_⟩;rintro rfl;exact hj (VT hN e1 (I.ok.inj _ _ _ e hc▸hi))
  ·by_cases hcc:c'=c
   ·subst hcc;exact⟨_,hc'⟩
   ·obtain⟨w2,z2⟩:=I.cell y c' e;exact⟨w2,z2.sameBut hs hcc⟩
  ·obtain ⟨e,n,ne,nf,d⟩:=I.pin p hp;refine ⟨(hs.2 p.1 ?_).trans e,n,ne,nf,d⟩;intro q;rw [q,hoc] at e;have q':oc=p.2:=FX e;exact d w' (by rw [<-q'];exact hocd)
theorem Ye {v:V}{Q:Unit->Shared->Prop}(I:Inv X pins σ H s)(hN:X.N.Nodup)(hi:X.N[i]?=some x)(hx:Loc X.env.scope x)(r:RelV v u)
  (h:∀s',Inv X pins (σ.set i (some v)) H s'->Q () s') (hf:X.fn x=true∨X.env.scope.names.lookup x=some .local:=by first|exact .inl rfl|exact .inr rfl|assumption):wpAny M A (storeName X.env x u) Q E s:=
 Ki I hN hi hx r (λs' I' _=>h s' I') hf
theorem Inv.call' {s':Shared}(I:Inv X pins σ H s)(ho:s'.os=s.os)(u:Un (frs X.stack) ch H H' s.heap s'.heap)(hok:HOk X.prog X.w H' s'.heap)(hg:AllBare s'.gens)
  (hch:∀b∈ch,(b∈X.ex∨X.s₀.heap.objs.size<=b)/\b≠X.env.locals/\(∀x c,X.env.cells.lookup x=some c->c≠b)/\∀p∈X.pn++pins,p.1≠b):Inv X pins σ H' s':=by
 obtain⟨h',g',d',t',o'⟩:=s';have e:o'=s.os:=ho;subst e;exact I.call (g':=g') (t':=t') (d':=d') u hok hg hch
end
abbrev XK:=Value->Option Addr->Hp->Prop
abbrev St:=List (Option V)
abbrev VK:=V->Hp->Prop
abbrev TE:=St->Hp->VK->Prop
abbrev TT:=St->Hp->(Bool->Hp->Prop)->Prop
abbrev TA:=St->Hp->(List V->Hp->Prop)->Prop
structure Q6 where
 nx:St->Hp->Prop
 rt:VK
 bk:St->Hp->Prop:=λ_ _=>False
 ct:St->Hp->Prop:=λ_ _=>False
abbrev TS:=Q6->St->Hp->Prop
def EP (X:Cx)(pins:List (Addr×Obj))(σ:St)(Q:VK)(u:Value)(s':Shared):Prop:=∃v H',Inv X pins σ H' s'/\RelV v u/\Q v H'
def TP (X:Cx)(pins:List (Addr×Obj))(σ:St)(Q:Bool->Hp->Prop)(b:Bool)(s':Shared):Prop:=∃H',Inv X pins σ H' s'/\Q b H'
def AP (X:Cx)(pins:List (Addr×Obj))(σ:St)(Q:List V->Hp->Prop)(us:List Value)(s':Shared):Prop:=∃vs H',Inv X pins σ H' s'/\Vals vs us/\Q vs H'
def SP (X:Cx)(pins:List (Addr×Obj))(D:Q6)(f:Flow)(s':Shared):Prop:=
 match f with
 | .next=>∃σ' H',Inv X pins σ' H' s'/\D.nx σ' H'
 | .brk=>∃σ' H',Inv X pins σ' H' s'/\D.bk σ' H'
 | .cont=>∃σ' H',Inv X pins σ' H' s'/\D.ct σ' H'
 | .ret u=>∃v σ' H',Inv X pins σ' H' s'/\RelV v u/\D.rt v H'
def PE (X:Cx)(e:Expr)(t:TE):Prop:=
 ∀(pins:List (Addr×Obj)) (s:Shared) (σ:St) (H:Hp) (Q:VK),Inv X pins σ H s->t σ H Q->wpAny (model X.prog X.w) X.A (eval e X.env) (EP X pins σ Q) X.xe s
def PT (X:Cx)(e:Expr)(t:TT):Prop:=
 ∀(pins:List (Addr×Obj)) (s:Shared) (σ:St) (H:Hp) (Q:Bool->Hp->Prop),Inv X pins σ H s->t σ H Q->wpAny (model X.prog X.w) X.A (isTrue e X.env (eval e X.env)) (TP X pins σ Q) X.xe s
def PW (X:Cx)(e:Expr)(t:TT):Prop:=
 ∀(whole:Sem Value) (pins:List (Addr×Obj)) (s:Shared) (σ:St) (H:Hp) (Q:Bool->Hp->Prop),Inv X pins σ H s->t σ H Q->wpAny (model X.prog X.w) X.A (isTrue e X.env whole) (TP X pins σ Q) X.xe s
theorem PW.pt {X:Cx}{e:Expr}{t:TT}(h:PW X e t):PT X e t:=h _
def PA (X:Cx)(es:List Expr)(t:TA):Prop:=
 ∀(pos:Pos) (pins:List (Addr×Obj)) (s:Shared) (σ:St) (H:Hp) (Q:List V->Hp->Prop),Inv X pins σ H s->t σ H Q->wpAny (model X.prog X.w) X.A (spliced (backTo pos (starEach es X.env))) (AP X pins σ Q) X.xe s
def PS (X:Cx)(st:Stmt)(t:TS):Prop:=
 ∀(pins:List (Addr×Obj)) (s:Shared) (σ:St) (H:Hp) (D:Q6),Inv X pins σ H s->t D σ H->wpAny (model X.prog X.w) X.A (exec st X.env) (SP X pins D) X.xe s
def PSs (X:Cx)(st:List Stmt)(t:TS):Prop:=
 ∀(pins:List (Addr×Obj)) (s:Shared) (σ:St) (H:Hp) (D:Q6),Inv X pins σ H s->t D σ H->wpAny (model X.prog X.w) X.A (execs st X.env) (SP X pins D) X.xe s
theorem thn {t:Sem α}{Q Q':α->Shared->Prop}(h:wpAny M A t Q E s)(hQ:∀a s,Q a s->Q' a s):wpAny M A t Q' E s:=Ed h hQ λ_ _ x=>x
section
variable {X:Cx}
theorem bin {a b:Expr}{ta tb:TE}(ha:PE X a ta)(hb:PE X b tb){pins:List (Addr×Obj)}{s:Shared}{σ:St}{H:Hp}{R:V->V->Hp->Prop}(I:Inv X pins σ H s)(h:ta σ H λx H1=>tb σ H1 λy H2=>R x y H2)
  {α:Type} {Q:α->Shared->Prop} {f:Value->Value->Sem α}
  (hf:∀v u s2 x y H2,Inv X pins σ H2 s2->RelV x v->RelV y u->R x y H2->wpAny (model X.prog X.w) X.A (f v u) Q X.xe s2) :
  wpAny (model X.prog X.w) X.A (eval a X.env) (λv s₁=>wpAny (model X.prog X.w) X.A (eval b X.env) (λu s₂=>wpAny (model X.prog X.w) X.A (f v u) Q X.xe s₂) X.xe s₁) X.xe s:=by
 refine thn (ha pins s σ H _ I h) λv s1 ⟨x,H1,I1,r1,q1⟩=>?_
 refine thn (hb pins s1 σ H1 _ I1 q1) λu s2 ⟨y,H2,I2,r2,q2⟩=>?_
 exact hf v u s2 x y H2 I2 r1 r2 q2
def SD (i:Nat):TE:=λσ H Q=>∃v,σ[i]?=some (some v)/\Q v H
def tC (v:V):TE:=λ_ H Q=>Q v H
theorem Pn (hN:X.N[i]?=some x)(hv:Vis X.env.scope x)(hd:(x==("__debug__":Str))=false:=by decide)(hcd:(x==("__classdict__":Str))=false:=by decide):PE X (.Name x pos) (SD i):=by
 intro pins s σ H Q I h;obtain⟨v,e,h⟩:=h;obtain⟨m,hn,hl⟩:=I.loc;obtain⟨u,r,l⟩:=hl i x v hN e hv;have fin:EP X pins σ Q u s:=⟨v,H,I,r,h⟩
 rcases l with ⟨hk,hm⟩|⟨hk,c,hc,hcell⟩
 ·exact wpAny_Name (wpAny_loadName_local I.ok.kind hk hn hm fin) hd
 ·rcases hk with hk|hk
  ·exact wpAny_Name (wpAny_loadName_cell I.ok.kind hk hc hcell fin) hd
  ·exact wpAny_Name (wpAny_loadName_free I.ok.kind hk hc hcell fin hcd) hd
theorem Qd {i j pos}:PE X (.Constant (.int i) j pos) (tC (.int i)):=λ_ _ _ H _ I h=>wpAny_Constant_int ⟨.int i,H,I.tok _,⟨_,rfl⟩,h⟩
theorem Xf {b j pos}:PE X (.Constant (.bool b) j pos) (tC (.bl b)):=λ_ _ _ H _ I h=>Constant_bool ⟨.bl b,H,I,rfl,h⟩
theorem K1 {j pos}:PE X (.Constant .none j pos) (tC .non):=λ_ _ _ H _ I h=>Constant_none ⟨.non,H,I,rfl,h⟩
theorem Qn {x j pos}:PE X (.Constant (.str x) j pos) (tC (.str x)):=λ_ _ _ H _ I h=>Calls.Constant_str ⟨.str x,H,I.tok _,⟨_,rfl⟩,h⟩
def Gl (X:Cx)(x:Str):Prop:=X.env.kindOf x=some .globalImplicit
theorem X4 {σ:St}{H:Hp}{Q:Value->Shared->Prop}(I:Inv X pins σ H s)(hg:Gl X x)(hm:X.mg x=some u)(h:Q u s)
  (hd:(x==("__debug__":Str))=false:=by decide):wpAny (model X.prog X.w) X.A (eval (.Name x pos) X.env) Q E s:=
 Calls.Name_function_global I.ok.kind hg (Calls.loadGlobal_global (by rw[I.ok.glob];exact I.mod.glob.keeps I.bk) hm h) hd
theorem WO {σ:St}{H:Hp}{Q:Value->Shared->Prop}(I:Inv X pins σ H s)(hg:Gl X x)(hm:X.mg x=none)(hv:bootBuiltins x=some u)(h:Q u s)
  (hn:x≠"__name__":=by decide) (hd:(x==("__debug__":Str))=false:=by decide):wpAny (model X.prog X.w) X.A (eval (.Name x pos) X.env) Q E s:=by
 obtain⟨mb,h1,h2⟩:=I.mod.blt;exact Calls.Name_function_global I.ok.kind hg (Calls.loadGlobal_builtin (by rw[I.ok.glob];exact I.mod.glob.keeps I.bk) hm (by rw[I.ok.blt];exact h1.keeps I.bk) ((h2 x hn).trans hv) h) hd
theorem ZO {v:V}(hg:Gl X x)(hm:X.mg x=some u)(r:RelV v u)(hd:(x==("__debug__":Str))=false:=by decide):PE X (.Name x pos) (tC v):=
 λ_ _ _ H _ I h=>X4 I hg hm ⟨v,H,I,r,h⟩ hd
theorem L3 {v:V}(hg:Gl X x)(hm:X.mg x=none)(hv:bootBuiltins x=some u)(r:RelV v u)(hn:x≠"__name__":=by decide)(hd:(x==("__debug__":Str))=false:=by decide):PE X (.Name x pos) (tC v):=
 λ_ _ _ H _ I h=>WO I hg hm hv ⟨v,H,I,r,h⟩ hn hd
variable {a b:Expr} {ta tb:TE} {pos:Pos}
def PC (X:Cx)(op:CmpOp)(a b:Expr)(t:TE):Prop:=
 ∀(pins:List (Addr×Obj)) (s:Shared) (σ:St) (H:Hp) (Q:VK),Inv X pins σ H s->t σ H Q ->
  wpAny (model X.prog X.w) X.A (eval a X.env) (λv s₁=>wpAny (model X.prog X.w) X.A (eval b X.env) (λu s₂=>wpAny (model X.prog X.w) X.A (compareOp op v u) (EP X pins σ Q) X.xe s₂) X.xe s₁) X.xe s
theorem Mw (b:Expr){op:CmpOp}(h:op≠.In)(h2:op≠.NotIn):behindInMarks op b=false:=by
 have e1:(op==CmpOp.In)=false:=by cases op<;>first|rfl|exact absurd rfl h
 have e2:(op==CmpOp.NotIn)=false:=by cases op<;>first|rfl|exact absurd rfl h2
 cases b<;>simp[behindInMarks,e1,e2]
def tB (t:TE):TT:=λσ H Q=>t σ H λx H1=>∃c,x=.bl c/\Q c H1
theorem Ph {t:TE}(h:PC X op a b t)(h1:behindInMarks op b=false:=by first|exact Mw _ (by decide) (by decide)|rfl):PT X (.Compare a [op] [b] pos) (tB t):=by
 intro pins s σ H Q I hw;refine wpAny_isTrue_Compare1 (thn (h pins s σ H _ I hw) λv s1 h1=>thn h1 λu s2 h2=>thn h2 λc s3 ⟨x,H1,I1,r1,q1⟩=>?_) h1;obtain⟨d,rfl,q⟩:=q1;cases r1;exact EO ⟨H1,I1,q⟩
variable {tA tB':TT} {rest:List Expr}
def KI (t u:TT):TT:=λσ H Q=>t σ H λc H1=>if c=true then u σ H1 Q else Q false H1
def tOr (t u:TT):TT:=λσ H Q=>t σ H λc H1=>if c=true then Q true H1 else u σ H1 Q
def SG (t:TT):TT:=λσ H Q=>t σ H λc H1=>Q (!c) H1
theorem Zt (ha:PT X a tA):PW X (.BoolOp .And [a] pos) tA:=by
 intro wh pins s σ H Q I h;refine isTrue_and (thn (ha pins s σ H Q I h) λc s1 e=>?_);cases c with
 | true=>exact isTrue_and_nil e
 | false=>exact e
theorem Xd (ha:PT X a tA):PW X (.BoolOp .Or [a] pos) tA:=by
 intro wh pins s σ H Q I h;refine isTrue_or (thn (ha pins s σ H Q I h) λc s1 e=>?_);cases c with
 | false=>exact isTrue_or_nil e
 | true=>exact e
theorem ZF (ha:PT X a tA)(hb:PW X (.BoolOp .And (b::rest) pos) tB'):PW X (.BoolOp .And (a::b::rest) pos) (KI tA tB'):=by
 intro wh pins s σ H Q I h;refine isTrue_and (thn (ha pins s σ H _ I h) λc s1 ⟨H1,I1,q1⟩=>?_);cases c with
 | true=>exact hb wh pins s1 σ H1 Q I1 q1
 | false=>exact⟨H1,I1,q1⟩
theorem Xo (ha:PT X a tA)(hb:PW X (.BoolOp .Or (b::rest) pos) tB'):PW X (.BoolOp .Or (a::b::rest) pos) (tOr tA tB'):=by
 intro wh pins s σ H Q I h;refine isTrue_or (thn (ha pins s σ H _ I h) λc s1 ⟨H1,I1,q1⟩=>?_);cases c with
 | true=>exact⟨H1,I1,q1⟩
 | false=>exact hb wh pins s1 σ H1 Q I1 q1
theorem Xp (ha:PT X a tA):PT X (.UnaryOp .Not a pos) (SG tA):=by
 intro pins s σ H Q I h;exact isTrue_not (ha pins s σ H (λc H1=>Q (!c) H1) I h)
theorem Ys {op}{t:TE}(h:PE X a t):PE X (.BoolOp op [a] pos) t:=λpins s σ H Q I hw=>BoolOp_one (h pins s σ H Q I hw)
def tIf (t:TT)(ta tb:TE):TE:=λσ H Q=>t σ H λc H1=>if c=true then ta σ H1 Q else tb σ H1 Q
theorem Jw {c:Expr}(hc:PT X c tA)(ha:PE X a ta)(hb:PE X b tb):PE X (.IfExp c a b pos) (tIf tA ta tb):=by
 intro pins s σ H Q I h;refine wpAny_IfExp (thn (hc pins s σ H _ I h) λd s1 ⟨H1,I1,q1⟩=>?_);cases d with
 | true=>exact ha pins s1 σ H1 Q I1 q1
 | false=>exact hb pins s1 σ H1 Q I1 q1
end
def SqL (K:W.Frag)(H:Hp)(a:Addr)(xs:List V):Prop:=
 Rd H a (.lst xs) ∨
  ∃(o:Obj) (its:Array Value) (n:Nat),K.lookup a=some o/\o.cls=.type "list"/\o.dict=none/\o.data=.seq its n/\its.size<=sizeLine/\Vals xs its.toList
def SqT (K:W.Frag)(H:Hp)(a:Addr)(xs:List V):Prop:=
 Rd H a (.tup xs) ∨
  ∃(o:Obj) (its:Array Value) (n:Nat),K.lookup a=some o/\o.cls=.type "tuple"/\o.data=.seq its n/\its.size<=sizeLine/\Vals xs its.toList
def Fw:Value->Option V
 | .none=>some .non
 | .bool b=>some (.bl b)
 | .int i _=>some (.int i)
 | .str x _=>some (.str x)
 | .bytes b _=>some (.byt b)
 | .float b _=>some (.flt b)
 | .ref a=>some (.ref a)
 | .type n=>some (.ty n)
 | _=>none
theorem RelV.abs {x:V}(r:RelV x u):Fw u=some x:=by
 cases x with
 | non=>cases r;rfl
 | bl _=>cases r;rfl
 | int _=>obtain⟨t,rfl⟩:=r;rfl
 | str _=>obtain⟨t,rfl⟩:=r;rfl
 | byt _=>obtain⟨t,rfl⟩:=r;rfl
 | flt _=>obtain⟨t,rfl⟩:=r;rfl
 | ref _=>cases r;rfl
 | ty _=>cases r;rfl
theorem RelV.inj {x y:V}(r:RelV x u)(q:RelV y u):x=y:=FX (r.abs.symm.trans q.abs)
theorem Vals.inj:∀{xs ys:List V}{us:List Value},Vals xs us->Vals ys us->xs=ys
 | _,_,_,.nil,.nil=>rfl
 | _,_,_,.cons r t,.cons r' t'=>by rw[r.inj r',Vals.inj t t']
section
variable {X:Cx} {pins:List (Addr×Obj)} {σ:St} {H:Hp} {s:Shared} {a:Addr} {xs ys:List V}
theorem SqL.of (h:H a=some (.lst xs)):SqL K H a xs:=.inl (.inl h)
theorem SqT.of (h:H a=some (.tup xs)):SqT K H a xs:=.inl (.inl h)
theorem Inv.list (I:Inv X pins σ H s)(h:SqL X.K H a xs):∃its:List Value,Vals xs its/\PlainL s.heap a its.toArray/\xs.length<=sizeLine:=by
 rcases h with h|⟨o,its,n,hk,hc,hd,hs,hz,r⟩
 ·obtain⟨z,its,n,r,e⟩:=h.ok I.hok;exact⟨its,r,⟨_,n,e,rfl,rfl,rfl⟩,z⟩
 ·refine⟨its.toList,r,⟨o,n,I.kIn a o hk,hc,hd,by simpa using hs⟩,?_⟩;have e:=r.length;simp only[Array.length_toList] at e;omega
theorem Inv.tuple (I:Inv X pins σ H s)(h:SqT X.K H a xs):∃its:List Value,Vals xs its/\IsTup s.heap a its.toArray/\xs.length<=sizeLine:=by
 rcases h with h|⟨o,its,n,hk,hc,hs,hz,r⟩
 ·obtain⟨z,its,r,p⟩:=h.ok I.hok;exact⟨its,r,p,z⟩
 ·refine⟨its.toList,r,⟨o,I.kIn a o hk,hc,n,by simpa using hs⟩,?_⟩;have e:=r.length;simp only[Array.length_toList] at e;omega
theorem Inv.list_inj (I:Inv X pins σ H s)(h:SqL X.K H a xs)(h':SqL X.K H a ys):xs=ys:=by
 obtain⟨its,r,⟨o,n,e,_,_,d⟩,_⟩:=I.list h;obtain⟨its',r',⟨o',n',e',_,_,d'⟩,_⟩:=I.list h';rw[e] at e';cases e';rw[d] at d';injection d' with d1 _
 have:its=its':=by simpa using congrArg Array.toList d1
 subst this;exact r.inj r'
theorem Inv.tuple_inj (I:Inv X pins σ H s)(h:SqT X.K H a xs)(h':SqT X.K H a ys):xs=ys:=by
 obtain⟨its,r,⟨o,e,_,n,d⟩,_⟩:=I.tuple h;obtain⟨its',r',⟨o',e',_,n',d'⟩,_⟩:=I.tuple h';rw[e] at e';cases e';rw[d] at d';injection d' with d1 _
 have:its=its':=by simpa using congrArg Array.toList d1
 subst this;exact r.inj r'
end
abbrev Cx.wish (X:Cx)(E:Value->Shared->Prop):Cx:={ X with xe:=E }
abbrev Cx.nox (X:Cx):Cx:=X.wish λ_ _=>False
theorem Cx.Ok.wish {X:Cx}(ok:X.Ok)(E:Value->Shared->Prop):(X.wish E).Ok:=
 ⟨ok.mod,ok.kind,ok.glob,ok.blt,ok.above,ok.inj,ok.has,ok.cab,ok.hd,ok.frames,ok.stk,ok.exf,ok.bs,ok.bsz,ok.noex,ok.exfs,ok.funs,ok.frf⟩
theorem Cx.Ok.unwish {X:Cx}(ok:(X.wish E).Ok):X.Ok:=
 ⟨ok.mod,ok.kind,ok.glob,ok.blt,ok.above,ok.inj,ok.has,ok.cab,ok.hd,ok.frames,ok.stk,ok.exf,ok.bs,ok.bsz,ok.noex,ok.exfs,ok.funs,ok.frf⟩
section
variable {X:Cx} {pins:List (Addr×Obj)} {σ:St} {H:Hp} {s:Shared} {E:Value->Shared->Prop}
theorem Inv.wish (I:Inv X pins σ H s)(E:Value->Shared->Prop):Inv (X.wish E) pins σ H s:=⟨I.ok.wish E,I.os,I.bare,I.base,I.loc,I.cell,I.free,I.freeC,I.pin,I.hok,I.len⟩
theorem Inv.unwish (I:Inv (X.wish E) pins σ H s):Inv X pins σ H s:=⟨I.ok.unwish,I.os,I.bare,I.base,I.loc,I.cell,I.free,I.freeC,I.pin,I.hok,I.len⟩
theorem SP.unwish {D:Q6}{f:Flow}{s':Shared}(h:SP (X.wish E) pins D f s'):SP X pins D f s':=by
 cases f with
 | next=>obtain⟨σ',H',I,q⟩:=h;exact⟨σ',H',I.unwish,q⟩
 | brk=>obtain⟨σ',H',I,q⟩:=h;exact⟨σ',H',I.unwish,q⟩
 | cont=>obtain⟨σ',H',I,q⟩:=h;exact⟨σ',H',I.unwish,q⟩
 | ret u=>obtain⟨v,σ',H',I,r,q⟩:=h;exact⟨v,σ',H',I.unwish,r,q⟩
theorem PSs.nox {st:List Stmt}{t:TS}(h:PSs X.nox st t):PSs X st t:=λpins s σ H D I hw=>
 Ed (h pins s σ H D (I.wish _) hw) (λ_ _ q=>q.unwish) λ_ _ z=>False.elim z
end
section
variable {X:Cx} {st:Stmt} {rest:List Stmt} {t u:TS} {e:Expr} {te:TE} {pos:Pos}
def BR:TS:=λD σ H=>D.nx σ H
def Y9 (t u:TS):TS:=λD σ H=>t { D with nx:=u D } σ H
theorem Qo:PSs X [] BR:=λ_ _ σ H _ I h=>ER ⟨σ,H,I,h⟩
theorem Qc (h1:PS X st t)(h2:PSs X rest u):PSs X (st::rest) (Y9 t u):=by
 intro pins s σ H D I h;refine wpAny_execs_cons (thn (h1 pins s σ H { D with nx:=u D } I h) λf s1 q=>?_);cases f with
 | next=>
  obtain⟨σ',H',I',q⟩:=q;exact h2 pins s1 σ' H' D I' q
 | ret v=>exact q
 | brk=>exact q
 | cont=>exact q
theorem Qf (h1:PS X st t):PSs X [st] t:=by
 intro pins s σ H D I h;refine wpAny_execs_cons (thn (h1 pins s σ H D I h) λf s1 q=>?_);cases f with
 | next=>exact ER q
 | ret v=>exact q
 | brk=>exact q
 | cont=>exact q
theorem Inv.quiet {σ:St}{H:Hp}(I:Inv X pins σ H s):interactive X.env=false:=by simp[interactive,I.ok.kind]
def BS (te:TE):TS:=λD σ H=>te σ H λ_ H1=>D.nx σ H1
theorem QP (he:PE X e te)(hs:swapsWith e none pos.line X.env=pure false:=by rfl):PS X (.Expr e pos) (BS te):=by
 intro pins s σ H D I h;exact wpAny_Expr_any (thn (he pins s σ H _ I h) λv s1 ⟨x,H1,I1,r1,q1⟩=>⟨σ,H1,I1,q1⟩) I.quiet hs
def RR (te:TE):TS:=λD σ H=>te σ H D.rt
theorem Ql (he:PE X e te):PS X (.Return (some e) pos) (RR te):=by
 intro pins s σ H D I h;exact wpAny_Return_some (thn (he pins s σ H _ I h) λv s1 ⟨x,H1,I1,r1,q1⟩=>⟨x,σ,H1,I1,r1,q1⟩)
def W3 (c:TT)(t u:TS):TS:=λD σ H=>c σ H λb H1=>if b=true then t D σ H1 else u D σ H1
theorem Qy {c:Expr}{a b:List Stmt}{tc:TT}(hc:PT X c tc)(ha:PSs X a t)(hb:PSs X b u):PS X (.If c a b pos) (W3 tc t u):=by
 intro pins s σ H D I h;refine wpAny_If (thn (hc pins s σ H _ I h) λd s1 ⟨H1,I1,q1⟩=>?_);cases d with
 | true=>exact ha pins s1 σ H1 D I1 q1
 | false=>exact hb pins s1 σ H1 D I1 q1
def N0:TS:=λ_ _ _=>False
theorem Jv:PS X st N0:=λ_ _ _ _ _ _ h=>h.elim
end
abbrev TG:=V->St->Hp->(St->Hp->Prop)->Prop
abbrev TGs:=List V->St->Hp->(St->Hp->Prop)->Prop
def PG (X:Cx)(target:Expr)(t:TG):Prop:=
 ∀(pins:List (Addr×Obj)) (s:Shared) (σ:St) (H:Hp) (v:V) (u:Value) (Q:St->Hp->Prop),Inv X pins σ H s->RelV v u->t v σ H Q ->
  wpAny (model X.prog X.w) X.A (assign target X.env u) (λ_ s'=>∃σ' H',Inv X pins σ' H' s'/\Q σ' H') X.xe s
def PGs (X:Cx)(ts:List Expr)(t:TGs):Prop:=
 ∀(pins:List (Addr×Obj)) (s:Shared) (σ:St) (H:Hp) (vs:List V) (us:List Value) (Q:St->Hp->Prop),Inv X pins σ H s->Vals vs us->t vs σ H Q ->
  wpAny (model X.prog X.w) X.A (assignInOrder ((assignEach ts X.env).map (·.2)) us) (λ_ s'=>∃σ' H',Inv X pins σ' H' s'/\Q σ' H') X.xe s
section
variable {X:Cx} {pos:Pos}
def Wk (i:Nat):TG:=λv σ H Q=>Q (σ.set i (some v)) H
theorem QA (hN:X.N.Nodup)(hi:X.N[i]?=some x)(hx:Loc X.env.scope x)(hf:X.fn x=true∨X.env.scope.names.lookup x=some .local:=by first|exact .inl rfl|exact .inr rfl|assumption):PG X (.Name x pos) (Wk i):=by
 intro pins s σ H v u Q I r h;exact wpAny_assign_Name (Ye I hN hi hx r (λs' I'=>⟨_,H,I',h⟩) hf)
def Fg:TGs:=λvs σ H Q=>vs=[]/\Q σ H
def Hs (t:TG)(u:TGs):TGs:=λvs σ H Q=>∃v r,vs=v::r/\t v σ H λσ' H'=>u r σ' H' Q
theorem pgs_nil:PGs X [] Fg:=by
 intro pins s σ H vs us Q I r h;obtain⟨e,h⟩:=h;subst e;cases r;exact assignInOrder_nil ⟨σ,H,I,h⟩
theorem Mj {e:Expr}{t:TG}{u:TGs}(h1:PG X e t)(h2:PGs X es u)
  (hs:(assignEach (e::es) X.env).map (·.2)=assign e X.env::(assignEach es X.env).map (·.2):=by rfl):PGs X (e::es) (Hs t u):=by
 intro pins s σ H vs us Q I r h;obtain⟨v,vr,e1,h⟩:=h;subst e1;cases r with
 | cons r rr=>
  rw[hs];refine assignInOrder_cons (thn (h1 pins s σ H _ _ _ I r h) λ_ s1 ⟨σ1,H1,I1,q1⟩=>?_);exact h2 pins s1 σ1 H1 _ _ Q I1 rr q1
def P7 (K:W.Frag)(n:Nat)(t:TGs):TG:=λv σ H Q=>∃a xs,v=.ref a/\SqT K H a xs/\xs.length=n/\t xs σ H Q
theorem Pm {k:Nat}{t:TGs}(hc:X.calm=true)(h:PGs X es t)
  (hn:(assignEach es X.env).length=n:=by rfl) (hst:(assignEach es X.env).findIdx? (·.1)=none:=by rfl):PG X (.Tuple es k pos) (P7 X.K n t):=by
 intro pins s σ H v u Q I r hw;obtain⟨a,xs,e1,hq,hl,hw⟩:=hw;subst e1;cases r;obtain⟨its,rv,ht,hz⟩:=I.tuple hq;refine assign_Tuple_tuple (I.ok.hd hc) ht (by simp[hn,<-hl,rv.length]) hst λh' hx=>?_
 have I1:Inv X pins σ H { s with heap:=h' }:=I.kept (t':=s.toks) λb o e=>hx b o (FU (FJ e)) e
 exact h pins _ σ H xs _ Q I1 (by simpa using rv) hw
def VB (te:TE)(g:TG):TS:=λD σ H=>te σ H λx H1=>g x σ H1 D.nx
theorem KZ {e:Expr}{te:TE}{g:TG}(he:PE X e te)(hg:PG X tg g)(hs:swapsWithSole [tg] e pos.line X.env=pure false:=by rfl)(hw:swappedStores [tg] e X.env=pure none:=by rfl)
  (h1:(assignEach [tg] X.env).map (·.2)=[assign tg X.env]:=by rfl):PS X (.Assign [tg] e pos) (VB te g):=by
 intro pins s σ H D I h;refine wpAny_Assign_stores (thn (he pins s σ H _ I h) λv s1 ⟨x,H1,I1,r1,q1⟩=>?_) hs hw;rw[h1];exact thn (hg pins s1 σ H1 x v _ I1 r1 q1) λ_ s2 q=>q
theorem Qw {e:Expr}{te:TE}{pos':Pos}(hN:X.N.Nodup)(hi:X.N[i]?=some x)(hx:Loc X.env.scope x)(he:PE X e te)(hs:swapsWith e (some (.Name x pos')) pos.line X.env=pure false:=by rfl)(hf:X.fn x=true∨X.env.scope.names.lookup x=some .local:=by first|exact .inl rfl|exact .inr rfl|assumption) :
  PS X (.Assign [.Name x pos'] e pos) (VB te (Wk i)):=by
 intro pins s σ H D I h;refine wpAny_Assign_Name (thn (he pins s σ H _ I h) λv s1 ⟨y,H1,I1,r1,q1⟩=>?_) hs;exact Ye I1 hN hi hx r1 (λs2 I2=>⟨_,H1,I2,q1⟩) hf
def SF (i j:Nat)(ta:TA):TS:=λD σ H=>ta σ H λvs H1=>∃v w,vs=[v,w]/\D.nx ((σ.set i (some v)).set j (some w)) H1
theorem Pi {j:Nat}{y:Str}{a b:Expr}{ta:TA}{pt:Pos}{kt k2 pt2}(hc:X.calm=true)(hN:X.N.Nodup)(hi:X.N[i]?=some x)(hj:X.N[j]?=some y)(hij:i≠j)
  (hx:X.env.scope.names.lookup x=some .local) (hy:X.env.scope.names.lookup y=some .local) (ha:PA X [a,b] ta)
  (hw:swappedStores [.Tuple [.Name x px,.Name y py] kt pt] (.Tuple [a,b] k2 pt2) X.env=pure (some [x,y]))
  (hs:swapsWithSole [.Tuple [.Name x px,.Name y py] kt pt] (.Tuple [a,b] k2 pt2) pos.line X.env=pure false:=by rfl) :
  PS X (.Assign [.Tuple [.Name x px,.Name y py] kt pt] (.Tuple [a,b] k2 pt2) pos) (SF i j ta):=by
 intro pins s σ H D I h;rw[exec_Assign_arm];refine FG (wpAny_standAt ?_);rw[hs];refine FG (FM ?_);rw[FC (by decide)];refine FG (Tuple_ (thn (ha _ pins s σ H _ I h) λus s1 ⟨vs,H1,I1,r1,q1⟩=>?_));obtain⟨v,w,e1,q1⟩:=q1;subst e1;obtain⟨u1,u2,rfl,rv,rw'⟩:∃u1 u2,us=[u1,u2]/\RelV v u1/\RelV w u2:=by
  cases r1 with
  | cons p q=>
   cases q with
   | cons p' q'=>
    cases q';exact⟨_,_,rfl,p,p'⟩
 refine wpAny_newObj_type ?_ (by show 2<=sizeLine;decide);have I2:Inv X pins σ H1 { s1 with heap:=s1.heap.push { cls:=.type "tuple",data:=.seq [u1,u2].toArray } }:=I1.kept (t':=s1.toks) λb o e=>FT _ e
 rw[hw];refine FG (FM ?_);show wpAny (model X.prog X.w) X.A (do rule "assign.swapped-stores";let items <-unpackItems (.ref s1.heap.objs.size) 2 none;assignInOrder [λv=>bindName X.env y v,λv=>bindName X.env x v] items.reverse;pure Flow.next) _ _ _;refine FG (wpAny_rule (FG (unpackItems_tuple (items:=#[u1,u2]) (I.ok.hd hc) (IsTup.new s1.heap _) λh' hx'=>?_)));have I3:=I2.kept (h':=h') (t':=s1.toks) λb o e=>hx' b o (FU (FJ e)) e
 show wpAny _ _ (assignInOrder [λv=>bindName X.env y v,λv=>bindName X.env x v] [u2,u1] >>= λ_=>pure Flow.next) _ _ _;refine FG (assignInOrder_cons (wpAny_bindName (Ye I3 hN hj (.inl hy) rw' (λs2 I4=>?_) (.inr hy))));refine assignInOrder_cons (wpAny_bindName (Ye I4 hN hi (.inl hx) rv (λs3 I5=>assignInOrder_nil (FM ?_)) (.inr hx)));rw[List.set_comm _ _ (Ey hij)] at I5;exact⟨_,H1,I5,q1⟩
end
section
variable {X:Cx} {pos:Pos}
def RQ (c:TT)(tb:TS):TS:=λD σ H=>∃W:Nat->St->Hp->Prop,(∃m,W m σ H)/\∀m σ H,W m σ H ->
 c σ H λb H1=>if b=true then ∃N:St->Hp->Prop,(∀σ' H',N σ' H'->∃m',m'<m/\W m' σ' H')/\tb { D with nx:=N,ct:=N,bk:=D.nx } σ H1 else D.nx σ H1
theorem VJ {c:Expr}{tc:TT}{tb:TS}(hp:PassesOwn (model X.prog X.w) X.A X.env X.xe)(hc:PT X c tc)(hb:PSs X body tb):PS X (.While c body [] pos) (RQ tc tb):=by
 intro pins s σ H D I h;obtain⟨W,⟨m0,w0⟩,turn⟩:=h;refine wpAny_While (codeAny_whileLoop (λn s'=>∃σ' H',Inv X pins σ' H' s'/\W n σ' H') ?_ m0 ⟨σ,H,I,w0⟩);rintro n s1 ⟨σ1,H1,I1,w1⟩;refine EJ hp (thn (hc pins s1 σ1 H1 _ I1 (turn n σ1 H1 w1)) λb s2 ⟨H2,I2,q2⟩=>?_);cases b with
 | true=>
  obtain⟨N,hN,q2⟩:=q2;rw[FD rfl];refine EJ hp (thn (hb pins s2 σ1 H2 _ I2 q2) λf s3 q3=>?_);cases f with
  | next=>
   obtain⟨σ3,H3,I3,n3⟩:=q3;obtain⟨m',hm,w3⟩:=hN σ3 H3 n3;exact⟨m',hm,σ3,H3,I3,w3⟩
  | cont=>
   obtain⟨σ3,H3,I3,n3⟩:=q3;obtain⟨m',hm,w3⟩:=hN σ3 H3 n3;exact⟨m',hm,σ3,H3,I3,w3⟩
  | brk=>exact q3
  | ret v=>exact q3
 | false=>
  rw[FC F4];exact ER ⟨σ1,H2,I2,q2⟩
end
structure It where
 go:Nat->Hp->Prop
 yld:Nat->Hp->V->Hp->Prop
 stop:Nat->Hp->Prop
def Ww (X:Cx)(pins:List (Addr×Obj))(H:Hp)(b:Addr):Prop:=
 H b=none/\b≠X.env.locals/\b∉X.fs/\(b∈X.ex∨X.s₀.heap.objs.size<=b)/\(∀x c,X.env.cells.lookup x=some c->c≠b)/\∀p∈X.pn++pins,p.1≠b
theorem Inv.fpOk {X:Cx}{σ:St}{H H':Hp}{b:Addr}(I:Inv X pins σ H s)(hb:s.heap.objs.size<=b)(hn:H' b=none):Ww X pins H' b:=by
 refine⟨hn,Df (FW I.lt hb),I.nofs hb,.inr (F2 I.sz hb),λx c e z=>?_,λp hp z=>?_⟩
 ·obtain⟨v,q⟩:=I.cell x c e;exact absurd (FW q.lt (by rw[z];exact hb)) (FY _)
 ·exact absurd (FW (FJ (I.pin p hp).1) (by rw[z];exact hb)) (FY _)
structure Um (P:Program)(w:World)(K:W.Frag)(tg:Expr)(J:It)(fp:List Addr)(it:Addr)(tn:Nat->Heap->Prop):Prop where
 mem:it∈fp
 obj:∀i h,tn i h->∀b∈fp,∃o,h.get? b=some o/\∀v,o.data≠.cell v
 keep:∀i h h',tn i h->(∀b∈fp,∀o,h.get? b=some o->h'.get? b=some o)->tn i h'
 item:∀(X:Cx),X.prog=P->X.w=w->X.K=K->X.calm=true->∀(i:Nat) (pins:List (Addr×Obj)) (s:Shared) (σ:St) (H:Hp) (E:Value->Shared->Prop),Inv X pins σ H s->(∀b∈fp,Ww X pins H b)->tn i s.heap->J.go i H ->
  wpAny (model P w) X.A (pyNext (.ref it)) (λr s1=>∃u,r=some u /\
   wpAny (model P w) X.A (letOwnedTupleGo tg (.ref it) u) (λ_ s2=>∃x H',Inv X pins σ H' s2/\RelV x u/\J.yld i H x H'/\tn (i+1) s2.heap/\∀b∈fp,H' b=none) E s1) E s
 done:∀(X:Cx),X.prog=P->X.w=w->X.K=K->X.calm=true->∀(i:Nat) (pins:List (Addr×Obj)) (s:Shared) (σ:St) (H:Hp) (E:Value->Shared->Prop),Inv X pins σ H s->(∀b∈fp,Ww X pins H b)->tn i s.heap->J.stop i H ->
  wpAny (model P w) X.A (pyNext (.ref it)) (λr s1=>r=none/\Inv X pins σ H s1) E s
 self:∀(A:Around) (i:Nat) (s:Shared) (Q:Value->Shared->Prop) (E:Value->Shared->Prop),tn i s.heap->Q (.ref it) s->wpAny (model P w) A (pyIter (.ref it)) Q E s
abbrev TI:=St->Hp->(It->Hp->Prop)->Prop
def PIE (X:Cx)(pins:List (Addr×Obj))(σ:St)(tg:Expr)(R:It->Hp->Prop)(itv:Value)(s2:Shared):Prop:=
 ∃(it:Addr) (fp:List Addr) (tn:Nat->Heap->Prop) (J:It) (H':Hp),itv=.ref it/\Inv X pins σ H' s2/\Um X.prog X.w X.K tg J fp it tn/\tn 0 s2.heap/\(∀b∈fp,Ww X pins H' b)/\R J H'
def PI (X:Cx)(tg iter:Expr)(wi:TI):Prop:=
 ∀(pins:List (Addr×Obj)) (s:Shared) (σ:St) (H:Hp) (R:It->Hp->Prop),Inv X pins σ H s->wi σ H R ->
  wpAny (model X.prog X.w) X.A (eval iter X.env) (λv s1=>wpAny (model X.prog X.w) X.A (pyIter v) (PIE X pins σ tg R) X.xe s1) X.xe s
theorem V4 {o:Obj}{n:String}{vs:Array Value}{Q:Unit->Shared->Prop}(ho:s.heap.get? it=some o)(hc:o.cls=.type n)(hd:o.data=.fields vs)
    (hn:["enumerate","zip","dict_itemiterator","dict_reverseitemiterator","odict_iterator","itertools.zip_longest","itertools.pairwise"].contains n=false) (hQ:Q () s):wpAny M A (letOwnedTupleGo tg (.ref it) u) Q E s:=by
  unfold letOwnedTupleGo;cases tg<;>first
    | exact FM hQ
    | (cases u<;>first
        | exact FM hQ
        | (refine FG (wpAny_load ho ?_)
           rw[hc,hd];show wpAny M A (if(["enumerate","zip","dict_itemiterator","dict_reverseitemiterator","odict_iterator","itertools.zip_longest","itertools.pairwise"].contains n&&vs[0]? == some (rawInt _))=true then _ else _) Q E s;rw[FC (by intro h;rw[hn,Bool.false_and] at h;cases h)];exact FM hQ))
def Itl (K:W.Frag)(a:Addr):It:=
 ⟨λi H=>∃xs x,SqL K H a xs/\xs[i]?=some x,λi H x H'=>H'=H/\∀xs,SqL K H a xs->xs[i]?=some x,λi H=>∃xs,SqL K H a xs/\xs.length<=i⟩
def Itt (K:W.Frag)(a:Addr):It:=
 ⟨λi H=>∃xs x,SqT K H a xs/\xs[i]?=some x,λi H x H'=>H'=H/\∀xs,SqT K H a xs->xs[i]?=some x,λi H=>∃xs,SqT K H a xs/\xs.length<=i⟩
def Itr (lo:Int)(n:Nat):It:=⟨λi _=>i<n,λi H x H'=>H'=H/\x=.int (lo+i),λi _=>n<=i⟩
theorem GT (a it:Addr):Um P w K tg (Itl K a) [it] it (λi h=>h.IsListIter it a i) where
 mem:=by simp
 obj:=λi h st b hb=>by
  have e:b=it:=by simpa using hb
  subst e;obtain⟨o,e,c,d⟩:=st;exact⟨o,e,λv z=>by rw[d] at z;cases z⟩
 keep:=λi h h' st k=>st.at λo e=>k it (by simp) o e
 item:=by
  intro X hP hw hK hc i pins s σ H E I hf st hg;subst hP hw hK;obtain⟨xs,x,hq,hx⟩:=hg;obtain⟨its,rv,p,hz⟩:=I.list hq;obtain⟨u,hu,ru⟩:=rv.get hx;obtain⟨f0,f1,f2,f3,f4,f5⟩:=hf it (by simp);refine wpAny_pyNext_list_item st p.isList (x:=u) (by simpa using hu) λh' st' sb=>?_
  have I1:Inv X pins σ H { s with heap:=h' }:=I.turned (t':=s.toks) (λb o hb e=>(sb.2 b hb).trans e) f0 f1 f3 f4 f5;obtain⟨o,e,c,d⟩:=id st';exact⟨u,rfl,V4 (s:={ s with heap:=h' }) e c d (by decide) ⟨x,H,I1,ru,⟨rfl,λys hy=>by rw[I.list_inj hy hq];exact hx⟩,st',λb hb=>(hf b hb).1⟩⟩
 done:=by
  intro X hP hw hK hc i pins s σ H E I hf st hg;subst hP hw hK;obtain⟨xs,hq,hx⟩:=hg;obtain⟨its,rv,p,hz⟩:=I.list hq;obtain⟨f0,f1,f2,f3,f4,f5⟩:=hf it (by simp);have hl:=rv.length;exact wpAny_pyNext_list_end (I.ok.hd hc) st p.isList (by simp;omega) λh' eb=>⟨rfl,I.turned (t':=s.toks) (λb o hb e=>eb b o hb e) f0 f1 f3 f4 f5⟩
 self:=λ_ _ _ _ _ st h=>wpAny_pyIter_listiter st h
theorem Us (a it:Addr):Um P w K tg (Itt K a) [it] it (λi h=>h.IsTupleIter it a i) where
 mem:=by simp
 obj:=λi h st b hb=>by
  have e:b=it:=by simpa using hb
  subst e;obtain⟨o,e,c,d⟩:=st;exact⟨o,e,λv z=>by rw[d] at z;cases z⟩
 keep:=λi h h' st k=>st.at λo e=>k it (by simp) o e
 item:=by
  intro X hP hw hK hc i pins s σ H E I hf st hg;subst hP hw hK;obtain⟨xs,x,hq,hx⟩:=hg;obtain⟨its,rv,p,hz⟩:=I.tuple hq;obtain⟨u,hu,ru⟩:=rv.get hx;obtain⟨f0,f1,f2,f3,f4,f5⟩:=hf it (by simp);refine wpAny_pyNext_tuple_item st (show s.heap.IsTuple a its.toArray from p) (x:=u) (by simpa using hu) λh' st' sb=>?_
  have I1:Inv X pins σ H { s with heap:=h' }:=I.turned (t':=s.toks) (λb o hb e=>(sb.2 b hb).trans e) f0 f1 f3 f4 f5;obtain⟨o,e,c,d⟩:=id st';exact⟨u,rfl,V4 (s:={ s with heap:=h' }) e c d (by decide) ⟨x,H,I1,ru,⟨rfl,λys hy=>by rw[I.tuple_inj hy hq];exact hx⟩,st',λb hb=>(hf b hb).1⟩⟩
 done:=by
  intro X hP hw hK hc i pins s σ H E I hf st hg;subst hP hw hK;obtain⟨xs,hq,hx⟩:=hg;obtain⟨its,rv,p,hz⟩:=I.tuple hq;obtain⟨f0,f1,f2,f3,f4,f5⟩:=hf it (by simp);have hl:=rv.length;exact wpAny_pyNext_tuple_end (I.ok.hd hc) st (show s.heap.IsTuple a its.toArray from p) (by simp;omega) λh' eb=>⟨rfl,I.turned (t':=s.toks) (λb o hb e=>eb b o hb e) f0 f1 f3 f4 f5⟩
 self:=λ_ _ _ _ _ st h=>wpAny_pyIter_tupleiter st h
theorem Ut (it:Addr)(lo:Int)(n:Nat):Um P w K tg (Itr lo n) [it] it (λi h=>IsRangeIter h it (lo+(i:Nat)*1) ((n:Int)-(i:Nat)) 1) where
 mem:=by simp
 obj:=λi h st b hb=>by
  have e:b=it:=by simpa using hb
  subst e;exact⟨_,st,λv z=>by
   have z':Data.fields _=Data.cell v:=z;cases z'⟩
 keep:=λi h h' st k=>k it (by simp) _ st
 item:=by
  intro X hP hw hK hc i pins s σ H E I hf st hg;subst hP hw hK;obtain⟨f0,f1,f2,f3,f4,f5⟩:=hf it (by simp);have W:=Walks.range (prog:=X.prog) (w:=X.w) (I.ok.hd hc) it lo 1 n;refine W.item i s _ _ hg st λv h' tk hv st' kk=>?_
  obtain⟨t,rfl⟩:=hv;have I1:Inv X pins σ H { s with heap:=h',toks:=tk }:=I.turned (λb o hb e=>kk b o (by simpa using hb) e) f0 f1 f3 f4 f5;refine⟨_,rfl,V4 (s:={ s with heap:=h',toks:=tk }) (n:="range_iterator") st' rfl rfl (by decide) ⟨.int (lo+i),H,I1,⟨t,?_⟩,⟨rfl,rfl⟩,st',λb hb=>(hf b hb).1⟩⟩;rw[Int.mul_one]
 done:=by
  intro X hP hw hK hc i pins s σ H E I hf st hg;subst hP hw hK;obtain⟨f0,f1,f2,f3,f4,f5⟩:=hf it (by simp);exact wpAny_pyNext_range_end (I.ok.hd hc) st (by have:n<=i:=hg;omega) λh' eb=>⟨rfl,I.turned (t':=s.toks) (λb o hb e=>eb b o hb e) f0 f1 f3 f4 f5⟩
 self:=λ_ _ _ _ _ st h=>wpAny_pyIter_rangeiter st h
section
variable {X:Cx} {tg:Expr}
def MJ (K:W.Frag)(tl:TE):TI:=λσ H R=>tl σ H λx H1=>∃a,x=.ref a/\(∃xs,SqL K H1 a xs)/\R (Itl K a) H1
def Ho (K:W.Frag)(tl:TE):TI:=λσ H R=>tl σ H λx H1=>∃a,x=.ref a/\(∃xs,SqT K H1 a xs)/\R (Itt K a) H1
theorem LR {l:Expr}{tl:TE}(hl:PE X l tl):PI X tg l (MJ X.K tl):=by
 intro pins s σ H R I h;refine thn (hl pins s σ H _ I h) λv s1 ⟨x,H1,I1,r1,q1⟩=>?_
 obtain⟨a,e,⟨xs,hq⟩,q⟩:=q1;subst e;cases r1;obtain⟨its,rv,p,hz⟩:=I1.list hq;refine wpAny_pyIter_list p.isList ?_;refine⟨s1.heap.objs.size,[s1.heap.objs.size],_,_,H1,rfl,I1.kept (t':=s1.toks) λb o e=>FT _ e,GT a _,⟨_,Ee _ rfl,rfl,rfl⟩,λb hb=>?_,q⟩;have e:b=s1.heap.objs.size:=by simpa using hb
 subst e;exact I1.fpOk (FE _) (I1.hok.fresh (FE _))
theorem Pl {l:Expr}{tl:TE}(hl:PE X l tl):PI X tg l (Ho X.K tl):=by
 intro pins s σ H R I h;refine thn (hl pins s σ H _ I h) λv s1 ⟨x,H1,I1,r1,q1⟩=>?_
 obtain⟨a,e,⟨xs,hq⟩,q⟩:=q1;subst e;cases r1;obtain⟨its,rv,p,hz⟩:=I1.tuple hq;refine wpAny_pyIter_tuple (show s1.heap.IsTuple a its.toArray from p) ?_;refine⟨s1.heap.objs.size,[s1.heap.objs.size],_,_,H1,rfl,I1.kept (t':=s1.toks) λb o e=>FT _ e,Us a _,⟨_,Ee _ rfl,rfl,rfl⟩,λb hb=>?_,q⟩;have e:b=s1.heap.objs.size:=by simpa using hb
 subst e;exact I1.fpOk (FE _) (I1.hok.fresh (FE _))
theorem N7 {σ:St}{H:Hp}{R:It->Hp->Prop}{hi:Int}{t u v:Tok}{tk:Nat}(I:Inv X pins σ H s)(h1:-(2 ^ 62)<=lo)(h2:lo<2 ^ 62)(h3:-(2 ^ 62)<=hi)(h4:hi<2 ^ 62)
  (q:R (Itr lo (hi-lo).toNat) H):wpAny (model X.prog X.w) X.A (pyIter (.ref s.heap.objs.size)) (PIE X pins σ tg R) E { s with heap:=s.heap.push { cls:=.type "range",data:=.fields #[.int lo t,.int hi u,.int 1 v] },toks:=tk }:=by
 refine wpAny_pyIter_range (IsRange.new ..) (small_one h1 h2 h3 h4) ?_;have I1:Inv X pins σ H { s with heap:=s.heap.push { cls:=.type "range",data:=.fields #[.int lo t,.int hi u,.int 1 v] },toks:=tk }:=I.kept λb o e=>FT _ e
 refine⟨(s.heap.push { cls:=.type "range",data:=.fields #[.int lo t,.int hi u,.int 1 v] }).objs.size,[(s.heap.push { cls:=.type "range",data:=.fields #[.int lo t,.int hi u,.int 1 v] }).objs.size],_,_,H,rfl,
  I1.kept (t':=tk) λb o e=>FT _ e,Ut _ lo (hi-lo).toNat,?_,λb hb=>?_,q⟩
 ·have e1:lo+((0:Nat):Int)*1=lo:=by simp
  have e2:(((hi-lo).toNat:Nat):Int)-((0:Nat):Int)=Builtin.Range.rangeSize lo hi 1:=by rw[rangeSize_one];split<;>omega
  show IsRangeIter _ _ (lo+((0:Nat):Int)*1) ((((hi-lo).toNat:Nat):Int)-((0:Nat):Int)) 1;rw[e1,e2];exact Ee _ rfl
 ·have e:b=(s.heap.push { cls:=.type "range",data:=.fields #[.int lo t,.int hi u,.int 1 v] }).objs.size:=by simpa using hb
  subst e;exact I1.fpOk (FE _) (I1.hok.fresh (FE _))
def B6 (ta:TA):TI:=λσ H R=>ta σ H λvs H1=>∃j:Int,vs=[.int j]/\-(2 ^ 62)<=j/\j<2 ^ 62/\R (Itr 0 j.toNat) H1
theorem ZU {a:Expr}{ta:TA}{p:Pos}(hg:Gl X "range")(hm:X.mg "range"=none)(ha:PA X [a] ta)(hs:starEach [a] X.env=[(false,eval a X.env)]:=by rfl):PI X tg (.Call (.Name "range" p) [a] [] pos) (B6 ta):=by
 intro pins s σ H R I h;refine Call_ (WO I hg hm boot_range (E8 (thn (ha pos pins s σ H _ I h) λus s1 ⟨vs,H1,I1,r1,q1⟩=>?_) hs rfl));obtain⟨j,e,q1,q2,q⟩:=q1;subst e;cases r1 with
 | cons r rr=>
  cases rr;obtain⟨t,rfl⟩:=r;exact call_range_1 (N7 I1 (by omega) (by omega) q1 q2 (by simpa using q))
def SH (wi:TI)(g:TG)(tb:TS):TS:=λD σ H=>wi σ H λJ H1=>∃W:Nat->Nat->St->Hp->Prop,(∃m,W 0 m σ H1)/\∀i m σ H,W i m σ H ->
 (J.stop i H/\D.nx σ H)∨(J.go i H/\∃N:St->Hp->Prop,(∀σ' H',N σ' H'->∃m',m'<m/\W (i+1) m' σ' H')/\∀x H',J.yld i H x H'->g x σ H' λσ2 H2=>tb { D with nx:=N,ct:=N,bk:=D.nx } σ2 H2)
def Yr (fp:List Addr)(h:Heap):List (Addr×Obj):=fp.filterMap λb=>(h.get? b).map λo=>(b,o)
theorem X3 {h:Heap}{b:Addr}{o:Obj}(hb:b∈fp)(e:h.get? b=some o):(b,o)∈Yr fp h:=List.mem_filterMap.mpr ⟨b,hb,by rw[e];rfl⟩
theorem Ni {h:Heap}{p:Addr×Obj}(hp:p∈Yr fp h):p.1∈fp/\h.get? p.1=some p.2:=by
 obtain⟨b,hb,e⟩:=List.mem_filterMap.mp hp;cases q:h.get? b with
 | none=>rw[q] at e;cases e
 | some o=>
  rw[q] at e;have e':(b,o)=p:=FX e;subst e';exact⟨hb,q⟩
theorem Inv.pinned {σ:St}{H:Hp}(I:Inv X pins σ H s)(hf:∀b∈fp,Ww X pins H b)(ho:∀b∈fp,∃o,s.heap.get? b=some o/\∀v,o.data≠.cell v):Inv X (pins++Yr fp s.heap) σ H s:=
 I.pins_of λp hp=>(Ec.mp hp).elim (λz=>I.pin p (Eo _ z)) λz=>by
  obtain⟨hb,e⟩:=Ni z;obtain⟨f0,f1,f2,_⟩:=hf p.1 hb;obtain⟨o,e',d⟩:=ho p.1 hb;rw[e] at e';cases e';exact⟨e,f0,f1,f2,d⟩
theorem Inv.unpinned {pl:List (Addr×Obj)}{σ:St}{H:Hp}(I:Inv X (pins++pl) σ H s):Inv X pins σ H s:=I.pins_of λp hp=>I.pin p (Eo _ (EF _ hp))
theorem ZG {wi:TI}{g:TG}{tb:TS}(hp:PassesOwn (model X.prog X.w) X.A X.env X.xe)(hc:X.calm=true)(hi:PI X tg iter wi)(hg:PG X tg g)(hb:PSs X body tb)
  (hs:∀x,foldedSetIterable iter X.env x=pure x:=by intro _;rfl):PS X (.For tg iter body [] pos) (SH wi g tb):=by
 intro pins s σ H D I h;refine wpAny_For (thn (hi pins s σ H _ I h) λv s1 h1=>thn h1 λitv s2 h2=>?_) hs;obtain⟨it,fp,tn,J,H2,e,I2,T,st2,f2,W,⟨m0,w0⟩,turn⟩:=h2;subst e;have stat:∀{H':Hp},(∀b∈fp,H' b=none)->∀b∈fp,Ww X pins H' b:=λhn b hb=>⟨hn b hb,(f2 b hb).2⟩
 refine codeAny_forLoop_any (λn s'=>∃i σ' H',Inv X pins σ' H' s'/\tn i s'.heap/\(∀b∈fp,H' b=none)/\W i n σ' H') ?_ m0 ⟨0,σ,H2,I2,st2,λb hb=>(f2 b hb).1,w0⟩;rintro n s3 ⟨i,σ3,H3,I3,st3,fr3,w3⟩;rcases turn i n σ3 H3 w3 with ⟨stop,qn⟩|⟨go,N,hN,step⟩
 ·refine EJ hp (thn (T.done X rfl rfl rfl hc i pins s3 σ3 H3 X.xe I3 (stat fr3) st3 stop) λr s4 ⟨hr,I4⟩=>?_);subst hr;exact ER ⟨σ3,H3,I4,qn⟩
 ·refine EJ hp (thn (T.item X rfl rfl rfl hc i pins s3 σ3 H3 X.xe I3 (stat fr3) st3 go) λr s4 ⟨u,hr,h4⟩=>?_);subst hr;refine EJ hp (thn h4 λ_ s5 ⟨x,H5,I5,r5,y5,st5,fr5⟩=>?_);have I5':=I5.pinned (stat fr5) (T.obj _ _ st5);refine EJ hp (thn (hg _ s5 σ3 H5 x u _ I5' r5 (step x H5 y5)) λ_ s6 ⟨σ6,H6,I6,q6⟩=>?_);refine EJ hp (thn (hb _ s6 σ6 H6 _ I6 q6) λf s7 q7=>?_);have again:∀{σ7:St} {H7:Hp},Inv X (pins++Yr fp s5.heap) σ7 H7 s7->N σ7 H7->∃m,m<n/\∃i σ' H',Inv X pins σ' H' s7/\tn i s7.heap/\(∀b∈fp,H' b=none)/\W i m σ' H':=λ{σ7 H7} I7 n7=>by
   obtain⟨m',hm,w7⟩:=hN σ7 H7 n7;refine⟨m',hm,i+1,σ7,H7,I7.unpinned,T.keep _ _ _ st5 λb hb o e=>(I7.pin (b,o) (Eo _ (Eo _ (X3 hb e)))).1,λb hb=>?_,w7⟩;obtain⟨o,e,d⟩:=T.obj _ _ st5 b hb;exact(I7.pin (b,o) (Eo _ (Eo _ (X3 hb e)))).2.1
  cases f with
  | next=>obtain⟨σ7,H7,I7,n7⟩:=q7;exact again I7 n7
  | cont=>obtain⟨σ7,H7,I7,n7⟩:=q7;exact again I7 n7
  | brk=>obtain⟨σ7,H7,I7,q7⟩:=q7;exact⟨σ7,H7,I7.unpinned,q7⟩
  | ret v=>obtain⟨x7,σ7,H7,I7,r7,q7⟩:=q7;exact⟨x7,σ7,H7,I7.unpinned,r7,q7⟩
end
theorem Yx {a:Addr}{xs:List V}{g:TG}{tb:TS}{D:Q6}{σ:St}{H:Hp}(Pv:Nat->St->Hp->Prop)(h0:Pv 0 σ H)(hl:∀i σ H,i<=xs.length->Pv i σ H->SqL K H a xs)
  (hs:∀i x σ H,xs[i]?=some x->Pv i σ H->g x σ H λσ2 H2=>tb { D with nx:=Pv (i+1),ct:=Pv (i+1),bk:=D.nx } σ2 H2) (hd:∀σ H,Pv xs.length σ H->D.nx σ H) :
  ∃W:Nat->Nat->St->Hp->Prop,(∃m,W 0 m σ H)/\∀i m σ H,W i m σ H ->
   ((Itl K a).stop i H/\D.nx σ H)∨((Itl K a).go i H/\∃N:St->Hp->Prop,(∀σ' H',N σ' H'->∃m',m'<m/\W (i+1) m' σ' H')/\∀x H',(Itl K a).yld i H x H'->g x σ H' λσ2 H2=>tb { D with nx:=N,ct:=N,bk:=D.nx } σ2 H2):=by
 refine⟨λi m σ H=>m=xs.length-i/\i<=xs.length/\Pv i σ H,⟨xs.length,by simp,F7 _,h0⟩,?_⟩;rintro i m σ H ⟨rfl,hi,p⟩;have q:=hl i σ H hi p;by_cases hlt:i<xs.length
 ·refine .inr ⟨⟨xs,xs[i],q,by simp[hlt]⟩,Pv (i+1),λσ' H' p'=>⟨xs.length-(i+1),by omega,rfl,hlt,p'⟩,λx H' y=>?_⟩;obtain⟨e,y⟩:=y;subst e;exact hs i x σ _ (y xs q) p
 ·have e:i=xs.length:=by omega
  subst e;exact .inl ⟨⟨xs,q,FE _⟩,hd σ H p⟩
theorem Bu {a:Addr}{xs:List V}{g:TG}{tb:TS}{D:Q6}{σ:St}{H:Hp}(Pv:Nat->St->Hp->Prop)(h0:Pv 0 σ H)(hl:∀i σ H,i<=xs.length->Pv i σ H->SqT K H a xs)
  (hs:∀i x σ H,xs[i]?=some x->Pv i σ H->g x σ H λσ2 H2=>tb { D with nx:=Pv (i+1),ct:=Pv (i+1),bk:=D.nx } σ2 H2) (hd:∀σ H,Pv xs.length σ H->D.nx σ H) :
  ∃W:Nat->Nat->St->Hp->Prop,(∃m,W 0 m σ H)/\∀i m σ H,W i m σ H ->
   ((Itt K a).stop i H/\D.nx σ H)∨((Itt K a).go i H/\∃N:St->Hp->Prop,(∀σ' H',N σ' H'->∃m',m'<m/\W (i+1) m' σ' H')/\∀x H',(Itt K a).yld i H x H'->g x σ H' λσ2 H2=>tb { D with nx:=N,ct:=N,bk:=D.nx } σ2 H2):=by
 refine⟨λi m σ H=>m=xs.length-i/\i<=xs.length/\Pv i σ H,⟨xs.length,by simp,F7 _,h0⟩,?_⟩;rintro i m σ H ⟨rfl,hi,p⟩;have q:=hl i σ H hi p;by_cases hlt:i<xs.length
 ·refine .inr ⟨⟨xs,xs[i],q,by simp[hlt]⟩,Pv (i+1),λσ' H' p'=>⟨xs.length-(i+1),by omega,rfl,hlt,p'⟩,λx H' y=>?_⟩;obtain⟨e,y⟩:=y;subst e;exact hs i x σ _ (y xs q) p
 ·have e:i=xs.length:=by omega
  subst e;exact .inl ⟨⟨xs,q,FE _⟩,hd σ H p⟩
theorem Nv {g:TG}{tb:TS}{D:Q6}{σ:St}{H:Hp}(Pv:Nat->St->Hp->Prop)(h0:Pv 0 σ H)
  (hs:∀i σ H,i<n->Pv i σ H->g (.int (lo+i)) σ H λσ2 H2=>tb { D with nx:=Pv (i+1),ct:=Pv (i+1),bk:=D.nx } σ2 H2) (hd:∀σ H,Pv n σ H->D.nx σ H) :
  ∃W:Nat->Nat->St->Hp->Prop,(∃m,W 0 m σ H)/\∀i m σ H,W i m σ H ->
   ((Itr lo n).stop i H/\D.nx σ H)∨((Itr lo n).go i H/\∃N:St->Hp->Prop,(∀σ' H',N σ' H'->∃m',m'<m/\W (i+1) m' σ' H')/\∀x H',(Itr lo n).yld i H x H'->g x σ H' λσ2 H2=>tb { D with nx:=N,ct:=N,bk:=D.nx } σ2 H2):=by
 refine⟨λi m σ H=>m=n-i/\i<=n/\Pv i σ H,⟨n,by simp,F7 _,h0⟩,?_⟩;rintro i m σ H ⟨rfl,hi,p⟩;by_cases hlt:i<n
 ·refine .inr ⟨hlt,Pv (i+1),λσ' H' p'=>⟨n-(i+1),by omega,rfl,hlt,p'⟩,λx H' y=>?_⟩;obtain⟨e,y⟩:=y;subst e y;exact hs i σ _ hlt p
 ·have e:i=n:=by omega
  subst e;exact .inl ⟨FE _,hd σ H p⟩
abbrev R2:=V->V->Hp->VK->Prop
def OpR (X:Cx)(f:Value->Value->Sem Value)(r:R2):Prop:=
 ∀(pins:List (Addr×Obj)) (s:Shared) (σ:St) (H:Hp) (x y:V) (v u:Value) (Q:VK),Inv X pins σ H s->RelV x v->RelV y u->r x y H Q ->
  wpAny (model X.prog X.w) X.A (f v u) (EP X pins σ Q) X.xe s
def UnR (X:Cx)(f:Value->Sem Value)(r:V->Hp->VK->Prop):Prop:=
 ∀(pins:List (Addr×Obj)) (s:Shared) (σ:St) (H:Hp) (x:V) (v:Value) (Q:VK),Inv X pins σ H s->RelV x v->r x H Q ->
  wpAny (model X.prog X.w) X.A (f v) (EP X pins σ Q) X.xe s
def CallR (X:Cx)(f:Value)(r:List V->Hp->VK->Prop):Prop:=
 ∀(pins:List (Addr×Obj)) (s:Shared) (σ:St) (H:Hp) (xs:List V) (us:List Value) (Q:VK),Inv X pins σ H s->Vals xs us->r xs H Q ->
  wpAny (model X.prog X.w) X.A (call f us) (EP X pins σ Q) X.xe s
def Fx (X:Cx)(r:V->Hp->(Bool->Hp->Prop)->Prop):Prop:=
 ∀(pins:List (Addr×Obj)) (s:Shared) (σ:St) (H:Hp) (x:V) (v:Value) (Q:Bool->Hp->Prop),Inv X pins σ H s->RelV x v->r x H Q ->
  wpAny (model X.prog X.w) X.A (truthy v) (TP X pins σ Q) X.xe s
def tOp (r:R2)(ta tb:TE):TE:=λσ H Q=>ta σ H λx H1=>tb σ H1 λy H2=>r x y H2 Q
def tUn (r:V->Hp->VK->Prop)(ta:TE):TE:=λσ H Q=>ta σ H λx H1=>r x H1 Q
def rI (C:Int->Int->Prop)(g:Int->Int->V):R2:=λx y H Q=>∃i j,x=.int i/\y=.int j/\C i j/\Q (g i j) H
def rI0 (g:Int->Int->V):R2:=λx y H Q=>∃i j,x=.int i/\y=.int j/\Q (g i j) H
def rU (g:Int->V):V->Hp->VK->Prop:=λx H Q=>∃i,x=.int i/\Q (g i) H
section
variable {X:Cx} {a b c:Expr} {ta tb tc:TE} {pos:Pos}
theorem Ti (ha:PE X a ta)(hb:PE X b tb){pins:List (Addr×Obj)}{s:Shared}{σ:St}{H:Hp}{R:V->V->Hp->Prop}(I:Inv X pins σ H s)
  (h:ta σ H λx H1=>tb σ H1 λy H2=>R x y H2) {Q:Value->Shared->Prop} {f:Value->Value->Sem Value}
  (hf:∀v u s2 x y H2,Inv X pins σ H2 s2->RelV x v->RelV y u->R x y H2->wpAny (model X.prog X.w) X.A (f v u) Q X.xe s2) :
  wpAny (model X.prog X.w) X.A (eval a X.env) (λv s₁=>wpAny (model X.prog X.w) X.A (eval b X.env) (λu s₂=>wpAny (model X.prog X.w) X.A (f v u) Q X.xe s₂) X.xe s₁) X.xe s:=by
 refine thn (ha pins s σ H _ I h) λv s1 ⟨x,H1,I1,r1,q1⟩=>?_
 refine thn (hb pins s1 σ H1 _ I1 q1) λu s2 ⟨y,H2,I2,r2,q2⟩=>?_
 exact hf v u s2 x y H2 I2 r1 r2 q2
theorem Qr {op:Operator}{r:R2}(ho:OpR X (binaryOp op) r)(ha:PE X a ta)(hb:PE X b tb):PE X (.BinOp a op b pos) (tOp r ta tb):=by
 intro pins s σ H Q I h;exact wpAny_BinOp (Ti ha hb I h λv u s2 x y H2 I2 rx ry q=>ho pins s2 σ H2 x y v u Q I2 rx ry q)
theorem Xa {op:UnaryOp}{r:V->Hp->VK->Prop}(ho:UnR X (unaryOp op) r)(ha:PE X a ta):PE X (.UnaryOp op a pos) (tUn r ta):=by
 intro pins s σ H Q I h;exact UnaryOp_ (thn (ha pins s σ H _ I h) λv s1 ⟨x,H1,I1,r1,q1⟩=>ho pins s1 σ H1 x v Q I1 r1 q1)
theorem opI {f:Value->Value->Sem Value}{C:Int->Int->Prop}{g:Int->Int->Int} 
  (rule:∀(i j:Int) (t u:Tok) (s:Shared) (Q:Value->Shared->Prop) (E:Value->Shared->Prop),C i j->Q (.int (g i j) s.toks) { s with toks:=s.toks+1 }->wpAny (model X.prog X.w) X.A (f (.int i t) (.int j u)) Q E s) :
  OpR X f (rI C λi j=>.int (g i j)):=by
 intro pins s σ H x y v u Q I rx ry h;obtain⟨i,j,rfl,rfl,hc,q⟩:=h;obtain⟨t,rfl⟩:=rx;obtain⟨t',rfl⟩:=ry;exact rule i j t t' s _ _ hc ⟨.int (g i j),H,I.tok _,⟨_,rfl⟩,q⟩
theorem Hi {f:Value->Value->Sem Value}{g:Int->Int->Int} 
  (rule:∀(i j:Int) (t u:Tok) (s:Shared) (Q:Value->Shared->Prop) (E:Value->Shared->Prop),Q (.int (g i j) s.toks) { s with toks:=s.toks+1 }->wpAny (model X.prog X.w) X.A (f (.int i t) (.int j u)) Q E s) :
  OpR X f (rI0 λi j=>.int (g i j)):=by
 intro pins s σ H x y v u Q I rx ry h;obtain⟨i,j,rfl,rfl,q⟩:=h;obtain⟨t,rfl⟩:=rx;obtain⟨t',rfl⟩:=ry;exact rule i j t t' s _ _ ⟨.int (g i j),H,I.tok _,⟨_,rfl⟩,q⟩
theorem L9 {f:Value->Value->Sem Value}{g:Int->Int->Bool} 
  (rule:∀(i j:Int) (t u:Tok) (s:Shared) (Q:Value->Shared->Prop) (E:Value->Shared->Prop),Q (.bool (g i j)) s->wpAny (model X.prog X.w) X.A (f (.int i t) (.int j u)) Q E s) :
  OpR X f (rI0 λi j=>.bl (g i j)):=by
 intro pins s σ H x y v u Q I rx ry h;obtain⟨i,j,rfl,rfl,q⟩:=h;obtain⟨t,rfl⟩:=rx;obtain⟨t',rfl⟩:=ry;exact rule i j t t' s _ _ ⟨.bl (g i j),H,I,rfl,q⟩
def Uq (i j:Int):Prop:=0<=j/\j<=1000000/\i.natAbs<2 ^ 64
theorem op_add:OpR X (binaryOp .Add) (rI0 λi j=>.int (i+j)):=Hi λ_ _ _ _ _ _ _ q=>add_int q
theorem op_sub:OpR X (binaryOp .Sub) (rI0 λi j=>.int (i-j)):=Hi λ_ _ _ _ _ _ _ q=>sub_int q
theorem op_mod:OpR X (binaryOp .Mod) (rI (λ_ j=>0<j) λi j=>.int (i % j)):=opI λi j _ _ _ _ _ hc q=>by
 have h1:(0:Int)<j:=hc;exact mod_int' (by omega) (by rw[Int.fmod_eq_emod_of_nonneg i (by omega)];exact q)
theorem op_pow:OpR X (binaryOp .Pow) (rI Uq λi j=>.int (i ^ j.toNat)):=opI λ_ _ _ _ _ _ _ hc q=>pow_int_small hc.1 hc.2.1 hc.2.2 q
theorem unI {f:Value->Sem Value}{g:Int->Int} 
  (rule:∀(i:Int) (t:Tok) (s:Shared) (Q:Value->Shared->Prop) (E:Value->Shared->Prop),Q (.int (g i) s.toks) { s with toks:=s.toks+1 }->wpAny (model X.prog X.w) X.A (f (.int i t)) Q E s) :
  UnR X f (rU λi=>.int (g i)):=by
 intro pins s σ H x v Q I rx h;obtain⟨i,rfl,q⟩:=h;obtain⟨t,rfl⟩:=rx;exact rule i t s _ _ ⟨.int (g i),H,I.tok _,⟨_,rfl⟩,q⟩
theorem un_neg:UnR X (unaryOp .USub) (rU λi=>.int (-i)):=unI λ_ _ _ _ _ q=>neg_int q
end
def SM:V->V->Bool
 | .non,.non=>true|.non,.int _=>true|.int _,.non=>true|.non,.bl _=>true|.bl _,.non=>true|.non,.str _=>true|.str _,.non=>true
 | .int _,.int _=>true|.bl _,.bl _=>true|.str _,.str _=>true|.byt _,.byt _=>true
 | .int _,.str _=>true|.str _,.int _=>true|.bl _,.str _=>true|.str _,.bl _=>true
 | _,_=>false
def rEq:R2:=λx y H Q=>SM x y=true/\Q (.bl (decide (x=y))) H
def rNe:R2:=λx y H Q=>SM x y=true/\Q (.bl (!decide (x=y))) H
theorem Jg {i:Int}:decide (V.int i=V.int j)=(i==j):=by
 rw[EA];simp
theorem M0 {i j:Bool}:decide (V.bl i=V.bl j)=(i==j):=by
 rw[EA];simp
theorem GI {i j:Str}:decide (V.str i=V.str j)=(i==j):=by
 rw[EA];simp
theorem GJ {i j:Array UInt8}:decide (V.byt i=V.byt j)=(i.toList==j.toList):=by
 rw[EA];cases i;cases j;simp
section
variable {X:Cx} {a b c:Expr} {ta tb tc:TE} {pos:Pos}
theorem QL {σ:St}{H:Hp}{Q:VK}{k k':Bool}(I:Inv X pins σ H s)(q:Q (.bl k) H)(e:k=k'):EP X pins σ Q (.bool k') s:=by
 subst e;exact⟨.bl k,H,I,rfl,q⟩
theorem op_eq:OpR X (compareOp .Eq) rEq:=by
 intro pins s σ H x y v u Q I rx ry h;obtain⟨hs,q⟩:=h;cases x with
 | non=>
  cases rx;cases y with
  | non=>cases ry;exact EqNone.eq_none_none (QL I q (by simp))
  | bl j=>cases ry;exact EqNone.eq_none_bool (QL I q (by simp))
  | int j=>obtain⟨t',rfl⟩:=ry;exact EqNone.eq_none_int (QL I q (by simp))
  | str j=>obtain⟨t',rfl⟩:=ry;exact EqNone.eq_none_str (QL I q (by simp))
  | _=>exact absurd (show false=true from hs) F4
 | bl i=>
  cases rx;cases y with
  | non=>cases ry;exact EqNone.eq_bool_none (QL I q (by simp))
  | bl j=>cases ry;exact eq_bool (QL I q M0)
  | str j=>obtain⟨t',rfl⟩:=ry;exact EqMixed.eq_bool_str (QL I q (by simp))
  | _=>exact absurd (show false=true from hs) F4
 | int i=>
  obtain⟨t,rfl⟩:=rx;cases y with
  | non=>cases ry;exact EqNone.eq_int_none (QL I q (by simp))
  | int j=>obtain⟨t',rfl⟩:=ry;exact eq_int (QL I q Jg)
  | str j=>obtain⟨t',rfl⟩:=ry;exact EqMixed.eq_int_str (QL I q (by simp))
  | _=>exact absurd (show false=true from hs) F4
 | str i=>
  obtain⟨t,rfl⟩:=rx;cases y with
  | non=>cases ry;exact EqNone.eq_str_none (QL I q (by simp))
  | bl j=>cases ry;exact EqMixed.eq_str_bool (QL I q (by simp))
  | int j=>obtain⟨t',rfl⟩:=ry;exact EqMixed.eq_str_int (QL I q (by simp))
  | str j=>obtain⟨t',rfl⟩:=ry;exact eq_str (QL I q GI)
  | _=>exact absurd (show false=true from hs) F4
 | byt i=>
  obtain⟨t,rfl⟩:=rx;cases y with
  | byt j=>obtain⟨t',rfl⟩:=ry;exact W.eq_bytes (QL I q GJ)
  | _=>exact absurd (show false=true from hs) F4
 | _=>cases y<;>exact absurd (show false=true from hs) F4
theorem op_ne:OpR X (compareOp .NotEq) rNe:=by
 intro pins s σ H x y v u Q I rx ry h;obtain⟨hs,q⟩:=h;cases x with
 | non=>
  cases rx;cases y with
  | non=>cases ry;exact EqNone.ne_none_none (QL I q (by simp))
  | bl j=>cases ry;exact EqNone.ne_none_bool (QL I q (by simp))
  | int j=>obtain⟨t',rfl⟩:=ry;exact EqNone.ne_none_int (QL I q (by simp))
  | str j=>obtain⟨t',rfl⟩:=ry;exact EqNone.ne_none_str (QL I q (by simp))
  | _=>exact absurd (show false=true from hs) F4
 | bl i=>
  cases rx;cases y with
  | non=>cases ry;exact EqNone.ne_bool_none (QL I q (by simp))
  | bl j=>cases ry;exact ne_bool (QL I q (congrArg not M0))
  | str j=>obtain⟨t',rfl⟩:=ry;exact EqMixed.ne_bool_str (QL I q (by simp))
  | _=>exact absurd (show false=true from hs) F4
 | int i=>
  obtain⟨t,rfl⟩:=rx;cases y with
  | non=>cases ry;exact EqNone.ne_int_none (QL I q (by simp))
  | int j=>obtain⟨t',rfl⟩:=ry;exact ne_int (QL I q (congrArg not Jg))
  | str j=>obtain⟨t',rfl⟩:=ry;exact EqMixed.ne_int_str (QL I q (by simp))
  | _=>exact absurd (show false=true from hs) F4
 | str i=>
  obtain⟨t,rfl⟩:=rx;cases y with
  | non=>cases ry;exact EqNone.ne_str_none (QL I q (by simp))
  | bl j=>cases ry;exact EqMixed.ne_str_bool (QL I q (by simp))
  | int j=>obtain⟨t',rfl⟩:=ry;exact EqMixed.ne_str_int (QL I q (by simp))
  | str j=>obtain⟨t',rfl⟩:=ry;exact ne_str (QL I q (congrArg not GI))
  | _=>exact absurd (show false=true from hs) F4
 | byt i=>
  obtain⟨t,rfl⟩:=rx;cases y with
  | byt j=>obtain⟨t',rfl⟩:=ry;exact W.ne_bytes (QL I q (congrArg not GJ))
  | _=>exact absurd (show false=true from hs) F4
 | _=>cases y<;>exact absurd (show false=true from hs) F4
theorem op_lt:OpR X (compareOp .Lt) (rI0 λi j=>.bl (decide (i<j))):=L9 λ_ _ _ _ _ _ _ q=>lt_int q
theorem op_le:OpR X (compareOp .LtE) (rI0 λi j=>.bl (decide (i<=j))):=L9 λ_ _ _ _ _ _ _ q=>le_int q
theorem op_gt:OpR X (compareOp .Gt) (rI0 λi j=>.bl (decide (j<i))):=L9 λ_ _ _ _ _ _ _ q=>gt_int q
theorem op_ge:OpR X (compareOp .GtE) (rI0 λi j=>.bl (decide (j<=i))):=L9 λ_ _ _ _ _ _ _ q=>ge_int q
theorem G6:OpR X (compareOp .In) (λx y H Q=>∃i j,x=.str i/\y=.str j/\Q (.bl (!(Builtin.Str.occurrences j i 0 j.length 1).isEmpty)) H):=by
 intro pins s σ H x y v u Q I rx ry h;obtain⟨i,j,rfl,rfl,q⟩:=h;obtain⟨t,rfl⟩:=rx;obtain⟨t',rfl⟩:=ry;exact in_str (QL I q rfl)
theorem Px:OpR X (compareOp .Is) (λx y H Q=>y=.non/\Q (.bl (decide (x=.non))) H):=by
 intro pins s σ H x y v u Q I rx ry h;obtain⟨rfl,q⟩:=h;cases ry;refine is_none_gen (QL I q ?_);cases x<;>first
  | (cases rx;rfl)
  | (obtain⟨t,rfl⟩:=rx;rfl)
theorem L5:OpR X (compareOp .IsNot) (λx y H Q=>y=.non/\Q (.bl (!decide (x=.non))) H):=by
 intro pins s σ H x y v u Q I rx ry h;obtain⟨rfl,q⟩:=h;cases ry;refine isnot_none_gen (QL I q ?_);cases x<;>first
  | (cases rx;rfl)
  | (obtain⟨t,rfl⟩:=rx;rfl)
theorem K3:OpR X (compareOp .NotIn) (λx y H Q=>∃i j,x=.str i/\y=.str j/\Q (.bl (!(!(Builtin.Str.occurrences j i 0 j.length 1).isEmpty))) H):=by
 intro pins s σ H x y v u Q I rx ry h;obtain⟨i,j,rfl,rfl,q⟩:=h;obtain⟨t,rfl⟩:=rx;obtain⟨t',rfl⟩:=ry;exact notIn_str (QL I q rfl)
theorem OpR.or {f:Value->Value->Sem Value}{r r':R2}(h:OpR X f r)(h':OpR X f r'):OpR X f (λx y H Q=>r x y H Q∨r' x y H Q):=by
 intro pins s σ H x y v u Q I rx ry q;rcases q with q|q
 ·exact h pins s σ H x y v u Q I rx ry q
 ·exact h' pins s σ H x y v u Q I rx ry q
theorem Qk (b:Expr){op:CmpOp}(h:op≠.In:=by decide)(h2:op≠.NotIn:=by decide):behindInMarks op b=false:=by
 have e1:(op==CmpOp.In)=false:=by cases op<;>first|rfl|exact absurd rfl h
 have e2:(op==CmpOp.NotIn)=false:=by cases op<;>first|rfl|exact absurd rfl h2
 cases b<;>simp[behindInMarks,e1,e2]
theorem Zj {r:R2}(ho:OpR X (compareOp op) r)(ha:PE X a ta)(hb:PE X b tb)(hm:behindInMarks op b=false):PE X (.Compare a [op] [b] pos) (tOp r ta tb):=by
 intro pins s σ H Q I h;exact wpAny_Compare1 (Ti ha hb I h λv u s2 x y H2 I2 rx ry q=>ho pins s2 σ H2 x y v u Q I2 rx ry q) hm
def HG (K:W.Frag)(x:V)(H:Hp)(k:Bool):Prop:=
 match x with
 | .non=>k=false
 | .bl b=>k=b
 | .int i=>k=(i != 0)
 | .str y=>y.length<=sizeLine/\k=((y.length:Int) != 0)
 | .byt y=>y.size<=sizeLine/\k=((y.size:Int) != 0)
 | .ref p=>(∃xs,SqL K H p xs/\k=!xs.isEmpty)∨(∃xs,SqT K H p xs/\k=!xs.isEmpty)∨∃kvs,H p=some (.dK kvs)/\k=!kvs.isEmpty
 | _=>False
theorem UZ {κ:Type}{kvs:List (κ×V)}{vs:List (κ×Value)}(r:KV kvs vs):(!vs.isEmpty)=!kvs.isEmpty:=by
 cases r<;>rfl
theorem JK {xs:List V}(r:Vals xs its):(!its.toArray.isEmpty)=!xs.isEmpty:=by
 cases r<;>simp
theorem JE:(sizeLine:Nat)<2 ^ 63:=by rw[FN];decide
theorem RO:Fx X (λx H Q=>∃k,HG X.K x H k/\Q k H):=by
 intro pins s σ H x v Q I rx h;obtain⟨k,e,q⟩:=h;have hl:=JE;have hs:sizeLine=16777216:=FN;cases x with
 | non=>
  cases rx;have e':k=false:=e;subst e';exact truthy_none ⟨H,I,q⟩
 | bl b=>
  cases rx;have e':k=b:=e;subst e';exact EO ⟨H,I,q⟩
 | int i=>
  obtain⟨t,rfl⟩:=rx;have e':k=(i != 0):=e;subst e';exact PySem.P.truthy_int ⟨H,I,q⟩
 | str y=>
  obtain⟨t,rfl⟩:=rx;obtain⟨hy,e'⟩:y.length<=sizeLine/\k=((y.length:Int) != 0):=e;subst e';exact PySem.P.truthy_str (by omega) ⟨H,I.tok _,q⟩
 | byt y=>
  obtain⟨t,rfl⟩:=rx;obtain⟨hy,e'⟩:y.size<=sizeLine/\k=((y.size:Int) != 0):=e;subst e';exact W.truthy_bytes (by omega) ⟨H,I.tok _,q⟩
 | ref p=>
  cases rx;have e':(∃xs,SqL X.K H p xs/\k=!xs.isEmpty)∨(∃xs,SqT X.K H p xs/\k=!xs.isEmpty)∨∃kvs,H p=some (.dK kvs)/\k=!kvs.isEmpty:=e;rcases e' with ⟨xs,hx,e'⟩|⟨xs,hx,e'⟩|⟨kvs,hx,e'⟩
  ·subst e';obtain⟨its,r,pl,hz⟩:=I.list hx;have hlen:=r.length;exact wpAny_truthy_list pl.isList (by simp only[FV];omega) ⟨H,I.tok _,by rw[JK r];exact q⟩
  ·subst e';obtain⟨its,r,pl,hz⟩:=I.tuple hx;have hlen:=r.length;exact truthy_tuple pl (by simp only[FV];omega) ⟨H,I.tok _,by rw[JK r];exact q⟩
  ·subst e';obtain⟨hz,hS,vs,r,m⟩:kvs.length<=sizeLine/\(p==sysModules)=false/\∃vs,KV kvs vs/\s.heap.DictOf (QY X.prog X.w) p vs:=I.hok p _ hx;have hlen:kvs.length=vs.length:=Paired.length r;exact wpAny_truthy_dict hS m (by omega) ⟨H,I.tok _,by rw[UZ r];exact q⟩
 | _=>exact(show False from e).elim
theorem Ju (ha:PE X a ta)(he:∀whole,isTrue a X.env whole=(do let v <-whole;standAt a.pos;holding [v] (truthy v))) :
  PT X a (λσ H Q=>ta σ H λx H'=>∃k,HG X.K x H' k/\Q k H'):=by
 intro pins s σ H Q I h;exact isTrue_plain (thn (ha pins s σ H _ I h) λv s1 ⟨x,H1,I1,r1,q1⟩=>RO pins s1 σ H1 x v Q I1 r1 q1) (he _)
theorem op_add_str:OpR X (binaryOp .Add) (λx y H Q=>∃i j,x=.str i/\y=.str j/\i.length+j.length<=sizeLine/\Q (.str (i++j)) H):=by
 intro pins s σ H x y v u Q I rx ry h;obtain⟨i,j,rfl,rfl,hz,q⟩:=h;obtain⟨t,rfl⟩:=rx;obtain⟨t',rfl⟩:=ry;exact add_str (λt' tk=>⟨.str (i++j),H,I.tok _,⟨_,rfl⟩,q⟩) hz
theorem Xj {x:V}(r:Vals [x] us):∃u,us=[u]/\RelV x u:=by
 cases r with
 | cons r1 r2=>cases r2;exact⟨_,rfl,r1⟩
theorem Vy {x y:V}(r:Vals [x,y] us):∃u w',us=[u,w']/\RelV x u/\RelV y w':=by
 cases r with
 | cons r1 r2=>
  cases r2 with
  | cons r3 r4=>cases r4;exact⟨_,_,rfl,r1,r3⟩
theorem Ui:CallR X (.builtin "abs") (λxs H Q=>∃i,xs=[.int i]/\Q (.int (if i<0 then -i else i)) H):=by
 intro pins s σ H xs us Q I r h;obtain⟨i,rfl,q⟩:=h;obtain⟨u,rfl,t,rfl⟩:=Xj r;exact call_abs_int λu tk=>⟨.int (if i<0 then -i else i),H,I.tok _,⟨_,rfl⟩,q⟩
theorem NJ (hc:X.calm=true):CallR X (.builtin "max") (λxs H Q=>∃i j,xs=[.int i,.int j]/\Q (.int (if j > i then j else i)) H):=by
 intro pins s σ H xs us Q I r h;obtain⟨i,j,rfl,q⟩:=h;obtain⟨u,w',rfl,⟨t,rfl⟩,⟨t',rfl⟩⟩:=Vy r;refine max_two_ints (I.ok.hd hc) λh' tk k=>⟨_,H,I.kept k,?_,q⟩
 by_cases hj:j > i
 ·rw[FD hj,FD hj];exact⟨_,rfl⟩
 ·rw[FC hj,FC hj];exact⟨_,rfl⟩
theorem call_str_int:CallR X (.type "str") (λxs H Q=>∃i,xs=[.int i]/\i.natAbs.log2<1920/\Q (.str (toString i)) H):=by
 intro pins s σ H xs us Q I r h;obtain⟨i,rfl,hz,q⟩:=h;obtain⟨u,rfl,t,rfl⟩:=Xj r;exact PySem.P.str_of_int hz ⟨.str _,H,I.tok _,⟨_,rfl⟩,q⟩
def HH (K:W.Frag)(x:V)(H:Hp)(n:Nat):Prop:=
 match x with
 | .str y=>y.length<=sizeLine/\n=y.length
 | .byt y=>y.size<=sizeLine/\n=y.size
 | .ref p=>(∃xs,SqL K H p xs/\n=xs.length)∨∃xs,SqT K H p xs/\n=xs.length
 | _=>False
theorem M8:CallR X (.builtin "len") (λxs H Q=>∃x n,xs=[x]/\HH X.K x H n/\Q (.int n) H):=by
 intro pins s σ H xs us Q I r h;obtain⟨x,n,rfl,e,q⟩:=h;obtain⟨u,rfl,rx⟩:=Xj r;have hl:=JE;have hs:sizeLine=16777216:=FN;cases x with
 | str y=>
  obtain⟨t,rfl⟩:=rx;obtain⟨hy,e'⟩:y.length<=sizeLine/\n=y.length:=e;subst e';exact len_str (by omega) ⟨.int _,H,I.tok _,⟨_,rfl⟩,q⟩
 | byt y=>
  obtain⟨t,rfl⟩:=rx;obtain⟨hy,e'⟩:y.size<=sizeLine/\n=y.size:=e;subst e';exact W.len_bytes (by omega) ⟨.int _,H,I.tok _,⟨_,rfl⟩,q⟩
 | ref p=>
  cases rx;have e':(∃xs,SqL X.K H p xs/\n=xs.length)∨∃xs,SqT X.K H p xs/\n=xs.length:=e;rcases e' with ⟨xs,hx,e'⟩|⟨xs,hx,e'⟩
  ·subst e';obtain⟨its,r',pl,hz⟩:=I.list hx;have hlen:=r'.length;exact Calls.call_len_list pl.isList (by simp only[FV];omega) ⟨.int xs.length,H,I.tok _,⟨_,by simp only[FV];rw[hlen]⟩,q⟩
  ·subst e';obtain⟨its,r',pl,hz⟩:=I.tuple hx;have hlen:=r'.length;exact len_tuple pl (by simp only[FV];omega) ⟨.int xs.length,H,I.tok _,⟨_,by simp only[FV];rw[hlen]⟩,q⟩
 | _=>exact(show False from e).elim
end
structure ObjM (h:Heap)(x dx C:Addr)(mA:Str->Option Value):Prop where
 obj:h.get? x=some (W.instObj C dx)
 ns:h.Ns1 dx mA
 ne:dx≠x
theorem Nk {h:Heap}{mA:Str->Option Value}(n:h.Ns1 dx mA):∃od,h.get? dx=some od/\∀name,W.lookIn name od=some (mA name):=by
 obtain ⟨o,es,ep,ho,hd,hk,_,hm⟩:=n;refine ⟨o,ho,fun name=>?_⟩;have e:=hm name;unfold nsFind findBy at e;rw [<-Array.find?_toList] at e;unfold W.lookIn;rw [hd];dsimp only;split
 ·rename_i y q;rw[q] at e;exact congrArg some e
 ·rename_i q;rw[q] at e;have a:es.toList.any (·.refKey)=false:=by
   rw[List.any_eq_false];intro y hy;obtain⟨z,t,hkey⟩:=hk y (Array.mem_toList_iff.mp hy);simp[DictEntry.refKey,hkey]
  have a':¬es.toList.any (·.refKey)=true:=by rw[a];exact F4
  rw[FC a'];exact congrArg some e
theorem ObjM.look {h:Heap}{x:Addr}{mA:Str->Option Value}(I:ObjM h x dx C mA):∃od,W.InstAt h x (W.instObj C dx) C (some od)/\∀name,W.lookIn name od=some (mA name):=
 let ⟨od,ho,hl⟩:=Nk I.ns
 ⟨od,⟨I.obj,rfl,rfl,ho⟩,hl⟩
section
variable {prog:Program} {w:World} {A:Around} {E:Value->Shared->Prop} {s:Shared} {K:W.Frag} {x dx C f:Addr} {mA:Str->Option Value} {name:Str} {v:Value}
theorem Br {expr:Bool}{Q:Value->Shared->Prop}(X:K.In s.heap)(I:ObjM s.heap x dx C mA)(hg:W.plainGet K C name=true)(hh:W.hasDictIn K C=true)
  (ha:W.findIn K (.ref C) name=some none) (hv:mA name=some v) (hv':W.handedIn v=true) (h:Q v { s with toks:=s.toks+1 }) :
  wpAny (model prog w) A (getAttr (.ref x) name expr) Q E s:=by
 obtain⟨od,J,hl⟩:=I.look;exact W.get_value X J (W.plainGet_of hg).1 (W.findObj_own hh ha rfl (by rw[hl,hv])) hv' h
theorem MO {Q:Value×List Value->Shared->Prop}(X:K.In s.heap)(I:ObjM s.heap x dx C mA)(hg:W.plainGet K C name=true)
  (hf:W.findIn K (.ref C) name=some (some (.ref f))) (ht:W.isFn K (.ref f)=true) (hv:mA name=none) (h:Q (.ref f,[.ref x]) s) :
  wpAny (model prog w) A (getMethod (.ref x) name pl) Q E s:=by
 obtain⟨od,J,hl⟩:=I.look;exact W.method_fn X J (W.plainGet_of hg).1 (W.plainGet_of hg).2 hf (beq_iff_eq.mp ht) (by show(W.lookIn name od).map (·.isSome)=some false;rw[hl,hv];rfl) h
theorem Lw {Q:Unit->Shared->Prop}(X:K.In s.heap)(I:ObjM s.heap x dx C mA)
  (hs:W.findIn K (.ref C) "__setattr__"=some (some (.builtin "object.__setattr__"))) (hp:W.plainOver K C=true) (ht:W.takerIn K C name=some none) (hh:W.hasDictIn K C=true)
  (hw:PySem.Within mA ns) (hsz:ns.length<=sizeLine)
  (h:∀h',ObjM h' x dx C (λy=>if y=name then some v else mA y)->Heap.SameBut dx s.heap h'->Q () { s with heap:=h',toks:=s.toks+2 }) :
  wpAny (model prog w) A (setAttr (.ref x) name v) Q E s:=by
 obtain⟨od,J,hl⟩:=I.look;refine W.set_plain X J hs (W.osa_open (s:={ s with toks:=s.toks+1 }) (r:=none) X J hp ht λb=>?_);obtain⟨cd,hc,hd'⟩:=W.any_some hh;have hx:s.heap.get? x=some ⟨.ref C,some dx,.plain,#[]⟩:=I.obj;refine FG (FM (FG (FG (wpAny_loadPart hx (FG (W.Looks.here (s:={ s with toks:=s.toks+1 }) (W.looks_clsIn X hc) ?_))))));rw[hd'];refine FM (a:=some dx) (FG (FM (FG ?_)));refine wpAny_nsSet1 (s:={ s with toks:=s.toks+1 }) I.ns λh' hn2 hs2=>?_
 obtain⟨oD,esD,epD,hoD,hdD,hcD⟩:=hn2.count (Within.cons name v hw);refine FG (wpAny_lookBehind hoD (by rw[hdD];exact pastItsLine_dict (F2 hcD (by rw[Ea];omega))) ?_);exact FM (h _ ⟨(hs2.2 _ (Ey I.ne)).trans I.obj,hn2,I.ne⟩ hs2)
theorem MC {R:Result->Shared->Prop}{vs:List Value}(X:K.In s.heap)(hm:W.makesIn K C=true)
  (hi:W.findIn K (.ref C) "__init__"=some (some (.ref f))) (hf:W.typeIn K (.ref f)=some (.type "function"))
  (h:codeAny (model prog w) (A.under (.builtin "type.__call__" ⟨.ref C::vs,kw⟩)) (.call (.ref f) ⟨.ref (s.heap.objs.size+1)::vs,kw⟩) (W.InitBack (s.heap.objs.size+1) R)
   { s with heap:=(s.heap.push W.emptyDict).push (W.instObj C s.heap.objs.size) }) :
  codeAny (model prog w) A (.call (.ref C) ⟨vs,kw⟩) R s:=by
 obtain⟨hh,g,d,t,os⟩:=s;exact W.make_core (W.makes_of X hm) (W.looks_findIn X hi) (λself=>W.bind_fn X self hf) (.inl rfl) h
end
def QO (f:Str)(v:V):List (Str×V)->List (Str×V)
 | []=>[(f,v)]
 | (g,x)::r=>if g=f then(g,v)::r else(g,x)::QO f v r
theorem WZ (f g:Str)(v:V):∀fs:List (Str×V),(QO f v fs).lookup g=if g=f then some v else fs.lookup g
 | []=>by
  show List.lookup g [(f,v)]=_;by_cases h:g=f
  ·have hb:(g==f)=true:=beq_iff_eq.mpr h;simp only[List.lookup,hb,FD h]
  ·have hb:(g==f)=false:=beq_eq_false_iff_ne.mpr h;simp only[List.lookup,hb,FC h]
 | (k,x)::r=>by
  have ih:=WZ f g v r;rw[show QO f v ((k,x)::r)=(if k=f then(k,v)::r else(k,x)::QO f v r) from rfl];by_cases hk:k=f
  ·rw[FD hk];by_cases h:g=k
   ·have hb:(g==k)=true:=beq_iff_eq.mpr h;simp only[List.lookup,hb,FD (h.trans hk)]
   ·have hb:(g==k)=false:=beq_eq_false_iff_ne.mpr h;simp only[List.lookup,hb,FC (λe:g=f=>h (e.trans hk.symm))]
  ·rw[FC hk];by_cases h:g=k
   ·have hb:(g==k)=true:=beq_iff_eq.mpr h;simp only[List.lookup,hb,FC (λe:g=f=>hk (h.symm.trans e))]
   ·have hb:(g==k)=false:=beq_eq_false_iff_ne.mpr h;simp only[List.lookup,hb];exact ih
theorem WQ (f:Str)(v:V):∀fs:List (Str×V),f∈(QO f v fs).map (·.1)/\∀g,g∈fs.map (·.1)->g∈(QO f v fs).map (·.1)
 | []=>⟨by simp[QO],λg h=>by simp at h⟩
 | (k,x)::r=>by
  obtain⟨i1,i2⟩:=WQ f v r;rw[show QO f v ((k,x)::r)=(if k=f then(k,v)::r else(k,x)::QO f v r) from rfl];by_cases hk:k=f
  ·rw[FD hk];subst hk;exact⟨by simp,λg h=>by simpa using h⟩
  ·rw[FC hk];refine⟨?_,λg h=>?_⟩
   ·rw[El];exact F5 _ i1
   ·rw[El] at h ⊢;rcases FP.mp h with e|e
    ·exact FP.mpr (.inl e)
    ·exact F5 _ (i2 g e)
theorem W0 (f:Str)(v:V):∀fs:List (Str×V),(QO f v fs).length<=fs.length+1
 | []=>by simp[QO]
 | (k,x)::r=>by
  have ih:=W0 f v r;rw[show QO f v ((k,x)::r)=(if k=f then(k,v)::r else(k,x)::QO f v r) from rfl];by_cases hk:k=f
  ·rw[FD hk,Ea,Ea];omega
  ·rw[FC hk,Ea,Ea];omega
theorem RelO.some_of {v:V}{o:Option Value}(r:RelO (some v) o):∃u,o=some u/\RelV v u:=by
 cases o with
 | none=>exact(show False from r).elim
 | some u=>exact⟨u,rfl,r⟩
theorem RelO.none_of {o:Option Value}(r:RelO none o):o=none:=by
 cases o with
 | none=>rfl
 | some u=>exact(show False from r).elim
theorem Nu {v:V}(r:RelV v u):W.handedIn u=true:=by
 cases v with
 | non=>cases(show u=Value.none from r);rfl
 | bl b=>cases(show u=Value.bool b from r);rfl
 | int i=>obtain⟨t,e⟩:=(show ∃t,u=Value.int i t from r);cases e;rfl
 | str x=>obtain⟨t,e⟩:=(show ∃t,u=Value.str x t from r);cases e;rfl
 | byt b=>obtain⟨t,e⟩:=(show ∃t,u=Value.bytes b t from r);cases e;rfl
 | flt b=>obtain⟨t,e⟩:=(show ∃t,u=Value.float b t from r);cases e;rfl
 | ref a=>cases(show u=Value.ref a from r);rfl
 | ty n=>cases(show u=Value.type n from r);rfl
section
variable {P:Program} {w:World} {H H':Hp} {h h':Heap} {a C dx:Addr} {fs fs':List (Str×V)}
theorem Jc (hok:HOk P w H h)(e:H a=some (.ins C dx fs)):∃mA,ObjM h a dx C mA/\(∀f,RelO (fs.lookup f) (mA f))/\PySem.Within mA (fs.map (·.1))/\fs.length<=1000/\H dx=some (.own a):=by
 obtain⟨d,z,ne,ob,mA,n,r,q⟩:=(show ObjOk P w H h a (.ins C dx fs) from hok a _ e)
 exact⟨mA,⟨ob,n,ne⟩,r,q,z,d⟩
end
structure Cls (K:W.Frag)(C:Addr):Prop where
 pg:W.plainGet K C Str.empty=true
 hd:W.hasDictIn K C=true
 po:W.plainOver K C=true
 sa:W.findIn K (.ref C) "__setattr__"=some (some (.builtin "object.__setattr__"))
theorem Cls.get (c:Cls K C)(f:Str):W.plainGet K C f=true:=c.pg
def NoAttr (K:W.Frag)(C:Addr)(f:Str):Prop:=W.findIn K (.ref C) f=some none
theorem NoAttr.taker {f:Str}(n:NoAttr K C f):W.takerIn K C f=some none:=by
 unfold W.takerIn;rw[show W.findIn K (.ref C) f=some none from n];rfl
structure Lg (K:W.Frag)(C:Addr)(m:Str)(f:Addr):Prop where
 at_:W.findIn K (.ref C) m=some (some (.ref f))
 fn:W.isFn K (.ref f)=true
 kp:W.keepIn K (.ref f)=true
section
variable {X:Cx} {pins:List (Addr×Obj)} {σ:St} {H:Hp} {s:Shared} {a C dx:Addr} {fs:List (Str×V)} {f:Str} {v:V} {A:Around} {E:Value->Shared->Prop}
theorem U1 {b:Bool}{Q:Value->Shared->Prop}(I:Inv X pins σ H s)(e:H a=some (.ins C dx fs))(c:Cls X.K C)(n:NoAttr X.K C f)(l:fs.lookup f=some v)
  (h:∀u s',Inv X pins σ H s'->RelV v u->Q u s'):wpAny (model X.prog X.w) A (getAttr (.ref a) f b) Q E s:=by
 obtain ⟨mA,O,r,_,_,_⟩:=Jc I.hok e;obtain ⟨u,hu,ru⟩:=RelO.some_of (v:=v) (o:=mA f) (by rw [<-l];exact r f);exact Br I.kIn O (c.get f) c.hd n hu (Nu ru) (h u _ (I.tok _) ru)
theorem Y3 {m:Str}{g:Addr}{Q:Value×List Value->Shared->Prop}(I:Inv X pins σ H s)(e:H a=some (.ins C dx fs))(c:Cls X.K C)(k:Lg X.K C m g)(l:fs.lookup m=none)
  (h:Q (.ref g,[.ref a]) s):wpAny (model X.prog X.w) A (getMethod (.ref a) m pl) Q E s:=by
 obtain ⟨mA,O,r,_,_,_⟩:=Jc I.hok e;have hn:mA m=none:=RelO.none_of (by rw [<-l];exact r m);exact MO I.kIn O (c.get m) k.at_ k.fn hn h
theorem Uz {y:V}{Q:Unit->Shared->Prop}(I:Inv X pins σ H s)(e:H a=some (.ins C dx fs))(c:Cls X.K C)(n:NoAttr X.K C f)(hl:fs.length<1000)(ry:RelV y u)
  (h:∀s',Inv X pins σ (upd H a (.ins C dx (QO f y fs))) s'->Q () s'):wpAny (model X.prog X.w) A (setAttr (.ref a) f u) Q E s:=by
 obtain⟨mA,O,r,wi,_,ho⟩:=Jc I.hok e;have hz:(fs.map (·.1)).length<=sizeLine:=by rw[FH,FN];omega
 refine Lw I.kIn O c.sa c.po n.taker c.hd wi hz λh' O' sb=>h _ ?_
 have hd:∃o,h'.get? dx=some o:=let ⟨o,_,_,e',_⟩:=O'.ns;⟨o,e'⟩;refine I.write (x:=a) (e:=dx) (by rw[e];exact True.intro) (.inr ho) (λb q hb z=>(sb.2 b hb).trans z) hd ?_;refine⟨by rw[Qq O.ne];exact ho,?_,O.ne,O'.obj,_,O'.ns,λg=>?_,λg hg=>?_⟩
 ·have:=W0 f y fs;omega
 ·show RelO ((QO f y fs).lookup g) (if g=f then some u else mA g);rw[WZ];by_cases q:g=f
  ·rw[FD q,FD q];exact ry
  ·rw[FC q,FC q];exact r g
 ·by_cases q:g=f
  ·rw[q];exact(WQ f y fs).1
  ·refine(WQ f y fs).2 g (wi g λz=>hg ?_);show(if g=f then some u else mA g)=none;rw[FC q];exact z
theorem Inv.made (I:Inv X pins σ H s):Inv X pins σ (upd (upd H s.heap.objs.size (.own (s.heap.objs.size+1))) (s.heap.objs.size+1) (.ins C s.heap.objs.size []))
  { s with heap:=(s.heap.push W.emptyDict).push (W.instObj C s.heap.objs.size) }:=by
 have e1:(s.heap.push W.emptyDict).get? s.heap.objs.size=some W.emptyDict:=Ee s.heap rfl;have e2:((s.heap.push W.emptyDict).push (W.instObj C s.heap.objs.size)).get? (s.heap.objs.size+1)=some (W.instObj C s.heap.objs.size):=by
  have:=Ee (s.heap.push W.emptyDict) (o:=W.instObj C s.heap.objs.size) rfl;rwa [Heap.size_push] at this
 have e3:(s.heap.push W.emptyDict).Ns s.heap.objs.size (λ_=>none):=⟨W.emptyDict,#[],_,e1,rfl,(λe he=>absurd he (by simp)),λ_=>rfl⟩
 have I1:=I.laid (a:=s.heap.objs.size) (o:=.own (s.heap.objs.size+1)) (h':=s.heap.push W.emptyDict) (t':=s.toks) (λb u q=>FT _ q) (FE _) ⟨_,e1⟩;refine I1.laid (a:=s.heap.objs.size+1) (o:=.ins C s.heap.objs.size []) (t':=s.toks) (λb u q=>FT _ q) (Nat.le_of_eq (Heap.size_push _ _)) ?_;have ne:s.heap.objs.size≠s.heap.objs.size+1:=FU (EG _);refine⟨by rw[Qq ne,Qe],F7 _,ne,e2,λ_=>none,(Heap.Ns1.of_empty e3).at λo q=>FT _ q,λ_=>True.intro,λy hy=>absurd rfl hy⟩
theorem BG {e:Expr}{f:Str}{Q:Value->Shared->Prop}(hb:attributeBase e f env (eval e env)=eval e env)
  (h:wpAny (model prog w) A (eval e env) (λo s₁=>wpAny (model prog w) A (getAttr o f true) Q E s₁) E s):wpAny (model prog w) A (eval (.Attribute e f pos) env) Q E s:=
 Attribute_any_ h (by rw[arm_eval_Attribute,hb])
end
def Lq (K:W.Frag)(ta:TE)(f:Str):TE:=λσ H Q=>ta σ H λx H1=>∃a C dx fs v,x=.ref a/\H1 a=some (.ins C dx fs)/\Cls K C/\NoAttr K C f/\fs.lookup f=some v/\Q v H1
def Ly (K:W.Frag)(ta tv:TE)(f:Str):TS:=λD σ H=>tv σ H λy H1=>ta σ H1 λx H2=>∃a C dx fs,x=.ref a/\H2 a=some (.ins C dx fs)/\Cls K C/\NoAttr K C f/\fs.length<1000 /\
 D.nx σ (upd H2 a (.ins C dx (QO f y fs)))
section
variable {X:Cx} {o e value:Expr} {f:Str} {pos pos' tpos:Pos} {ta tv:TE}
theorem Po (he:PE X e ta)(hb:attributeBase e f X.env (eval e X.env)=eval e X.env):PE X (.Attribute e f pos) (Lq X.K ta f):=by
 intro pins s σ H Q I h;refine BG hb (thn (he pins s σ H _ I h) λu s1 ⟨x,H1,I1,rx,a,C,dx,fs,v,ex,ea,c,n,l,q⟩=>?_);subst ex;obtain rfl:u=Value.ref a:=rx;exact U1 I1 ea c n l λu' s2 I2 ru=>⟨v,H1,I2,ru,q⟩
theorem Pj (ha:PE X o ta)(hv:PE X value tv)(hs:swapsWith value (some (.Attribute o f pos')) pos.line X.env=pure false):PS X (.Assign [.Attribute o f pos'] value pos) (Ly X.K ta tv f):=by
 intro pins s σ H D I h;refine plainObj_wpAny_Assign_Attribute (thn (hv pins s σ H _ I h) λu s1 ⟨y,H1,I1,ry,q⟩=>thn (ha pins s1 σ H1 _ I1 q) λov s2 ⟨x,H2,I2,rx,a,C,dx,fs,ex,ea,c,n,l,q2⟩=>?_) hs;subst ex;obtain rfl:ov=Value.ref a:=rx;exact Uz I2 ea c n l ry λs3 I3=>⟨σ,_,I3,q2⟩
theorem B5 {m:Str}{apos:Pos}{args:List Expr}{σ:St}{H:Hp}{Q:Value->Shared->Prop}{te:TE}(he:PE X e te)(I:Inv X pins σ H s)
  (h:te σ H λx H1=>∃a C dx fs g,x=.ref a/\H1 a=some (.ins C dx fs)/\Cls X.K C/\Lg X.K C m g/\fs.lookup m=none /\
   ∀s1,Inv X pins σ H1 s1->wpAny (model X.prog X.w) X.A (callWith pos (.ref g) [.ref a] (backTo pos (starEach args X.env)) (backToKw pos (keywordEach [] X.env))) Q X.xe s1)
  (ht:eval (.Call (.Attribute e m apos) args [] pos) X.env=(do
   let ov <-eval e X.env
   standAt apos.atName
   let (f,first) <-holding [ov] (getMethod ov m pl)
   callWith pos f first (backTo pos (starEach args X.env)) (backToKw pos (keywordEach [] X.env)))) :
  wpAny (model X.prog X.w) X.A (eval (.Call (.Attribute e m apos) args [] pos) X.env) Q X.xe s:=by
 refine W.methodCall_KW (pl:=pl) (thn (he pins s σ H _ I h) λu s1 ⟨x,H1,I1,rx,a,C,dx,fs,g,ex,ea,c,k,l,q⟩=>?_) ht;subst ex;obtain rfl:u=Value.ref a:=rx;exact Y3 I1 ea c k l (q s1 I1)
end
section
variable {X:Cx} {pins:List (Addr×Obj)} {σ:St} {H:Hp} {s:Shared} {A:Around} {E:Value->Shared->Prop} {Q:Value->Shared->Prop} {c:Value} {b:Bool}
inductive TyOf (K:W.Frag)(H:Hp):V->Value->Prop where
 | non:TyOf K H .non (.type "NoneType")
 | bl (x:Bool):TyOf K H (.bl x) (.type "bool")
 | int (i:Int):TyOf K H (.int i) (.type "int")
 | str (x:Str):TyOf K H (.str x) (.type "str")
 | flt (x:UInt64):TyOf K H (.flt x) (.type "float")
 | lst {a:Addr} {xs:List V} (e:H a=some (.lst xs)):TyOf K H (.ref a) (.type "list")
 | frz {a:Addr} {o:Obj} {xs:List V} (e:H a=some (.frz o (.lst xs))):TyOf K H (.ref a) (.type "list")
 | tup {a:Addr} {xs:List V} (e:H a=some (.tup xs)):TyOf K H (.ref a) (.type "tuple")
 | dK {a:Addr} {kvs:List (Key×V)} (e:H a=some (.dK kvs)):TyOf K H (.ref a) (.type "dict")
 | dT {a:Addr} {kvs:List (List Key×V)} (e:H a=some (.dT kvs)):TyOf K H (.ref a) (.type "dict")
 | ins {a C dx:Addr} {fs:List (Str×V)} (e:H a=some (.ins C dx fs)) (cl:Cls K C) (ha:W.findIn K (.ref C) "__class__"=some (some (.builtin "object.__class__")))
   (hn:W.specialIn K (.builtin "object.__class__") "__get__"=some (some (.builtin "getset_descriptor.__get__"))) (htk:W.takesIn K (.builtin "object.__class__")=some true)
   (hm:W.mroIn K C (.type "object")=some true):TyOf K H (.ref a) (.ref C)
theorem Nq {x:V}{t:Value}(I:Inv X pins σ H s)(rx:RelV x u)(ty:TyOf X.K H x t)(e:W.kitOne X.K t c=some b)(h:∀tk,Q (.bool b) { s with toks:=tk }) :
  wpAny (model X.prog X.w) A (call (.builtin "isinstance") [u,c]) Q E s:=by
 cases ty with
 | non=>cases(show u=Value.none from rx);exact W.kia_one W.kitx_none I.kIn True.intro e (λz=>nomatch z) h
 | bl y=>cases(show u=Value.bool y from rx);exact W.kia_one W.kitx_bool I.kIn True.intro e (λz=>nomatch z) h
 | int i=>obtain⟨t,q⟩:=(show ∃t,u=Value.int i t from rx);cases q;exact W.kia_one W.kitx_int I.kIn True.intro e (λz=>nomatch z) h
 | str y=>obtain⟨t,q⟩:=(show ∃t,u=Value.str y t from rx);cases q;exact W.kia_one W.kitx_str I.kIn True.intro e (λz=>nomatch z) h
 | flt y=>obtain⟨t,q⟩:=(show ∃t,u=Value.float y t from rx);cases q;exact W.kia_one W.kitx_float I.kIn True.intro e (λz=>nomatch z) h
 | @lst a xs ea=>
  cases(show u=Value.ref a from rx);obtain⟨_,_,n,_,h1⟩:=(show ObjOk X.prog X.w H s.heap a (.lst xs) from I.hok a _ ea)
  exact W.kia_one W.kitx_list I.kIn ⟨_,h1,rfl⟩ e (λz=>nomatch z) h
 | @frz a ob xs ea=>
  cases(show u=Value.ref a from rx);obtain⟨_,_,_,n,_,h1⟩:=(show ObjOk X.prog X.w H s.heap a (.frz ob (.lst xs)) from I.hok a _ ea)
  exact W.kia_one W.kitx_list I.kIn ⟨_,h1,rfl⟩ e (λz=>nomatch z) h
 | @tup a xs ea=>
  cases(show u=Value.ref a from rx);obtain⟨_,_,_,p⟩:=(show ObjOk X.prog X.w H s.heap a (.tup xs) from I.hok a _ ea)
  obtain⟨o,h1,h2,_⟩:=p;exact W.kia_one W.kitx_tuple I.kIn ⟨o,h1,h2⟩ e (λz=>nomatch z) h
 | @dK a kvs ea=>
  cases(show u=Value.ref a from rx);obtain⟨_,_,vs,_,p⟩:=(show ObjOk X.prog X.w H s.heap a (.dK kvs) from I.hok a _ ea)
  obtain⟨o,es,ep,h1,h2,_⟩:=p;exact W.kia_one W.kitx_dict I.kIn ⟨o,h1,h2.1⟩ e (λz=>nomatch z) h
 | @dT a kvs ea=>
  cases(show u=Value.ref a from rx);obtain⟨_,_,xs,_,o,es,ep,h1,h2,_⟩:=(show ObjOk X.prog X.w H s.heap a (.dT kvs) from I.hok a _ ea)
  exact W.kia_one W.kitx_dict I.kIn ⟨o,h1,h2.1⟩ e (λz=>nomatch z) h
 | @ins a C dx fs ea cl ha hn htk hm=>
  cases(show u=Value.ref a from rx);obtain⟨mA,O,_⟩:=Jc I.hok ea;obtain⟨od,J,_⟩:=O.look;exact W.kia_one (W.kitx_own (cl.get _) cl.hd ha hn htk hm) I.kIn J e (λz=>nomatch z) h
end
structure Room (k:Nat)(A:Around):Prop where
 hd:A.handled=none
 dp:A.depth+3*k+5<recursionLimit
 un:A.units+16*k+200<cLine
theorem Room.mono {j k:Nat}(r:Room k A)(h:j<=k):Room j A:=⟨r.hd,by have:=r.dp;omega,by have:=r.un;omega⟩
theorem hrm {k j:Nat}(h:Room k A)(e:j<=k:=by decide):Room j A:=h.mono e
theorem Room.deeper {k:Nat}(r:Room (k+1) A)(env:Env):Room k (A.deeper env):=
 ⟨r.hd,by have:=r.dp;show A.depth+1+3*k+5<_;omega,by have:=r.un;show A.units+3+16*k+200<_;omega⟩
theorem UT:(A.under (.builtin "type.__call__" ⟨.ref C::us,kw⟩)).depth=A.depth+1:=by
 first|rfl|simp[Around.under,Code.weight,Code.isCreation,Code.isGuard,Code.isCaller,Code.frames,Code.isFrame,guardIds]
theorem US:(A.under (.builtin "type.__call__" ⟨.ref C::us,kw⟩)).units=A.units+1:=by
 first|rfl|simp[Around.under,Code.cUnits,Code.frames,Code.isFrame]
theorem Room.make {k:Nat}(r:Room (k+1) A)(C:Addr)(us:List Value)(kw:List (Str×Value)):Room k (A.under (.builtin "type.__call__" ⟨.ref C::us,kw⟩)):=
 ⟨r.hd,by have:=r.dp;rw[UT];omega,by have:=r.un;rw[US];omega⟩
theorem Room.depth {k:Nat}(r:Room k A):A.depth<recursionLimit:=by have:=r.dp;omega
theorem Room.units {k:Nat}(r:Room k A):A.units+64<cLine:=by have:=r.un;omega
def Uu:TA:=λ_ H Q=>Q [] H
def BU (ta:TE)(tr:TA):TA:=λσ H Q=>ta σ H λx H1=>tr σ H1 λxs H2=>Q (x::xs) H2
section
variable {X:Cx} {e:Expr} {es:List Expr} {te:TE} {t:TA} {pos:Pos}
theorem Qb:PA X [] Uu:=λ_ _ _ _ H Q I h=>Calls.spliced_nil ⟨[],H,I,.nil,h⟩
theorem Qa (ha:PE X e te)(hr:PA X es t)(hs:starEach (e::es) X.env=(false,eval e X.env)::starEach es X.env:=by rfl):PA X (e::es) (BU te t):=by
 intro pos pins s σ H Q I h;rw[hs];show wpAny _ _ (spliced ((false,eval e X.env)::backTo pos (starEach es X.env))) _ _ s;refine Calls.spliced_cons (thn (ha pins s σ H _ I h) λu s1 ⟨x,H1,I1,r1,q1⟩=>?_);exact thn (hr pos pins s1 σ H1 _ I1 q1) λus s2 ⟨xs,H2,I2,r2,q2⟩=>⟨x::xs,H2,I2,.cons r1 r2,q2⟩
def SE (t:TA):TE:=λσ H Q=>t σ H λxs H1=>xs.length<=sizeLine/\∀p,H1 p=none->Q (.ref p) (upd H1 p (.tup xs))
def RS (t:TA):TE:=λσ H Q=>t σ H λxs H1=>xs.length<=sizeLine/\∀p,H1 p=none->Q (.ref p) (upd H1 p (.lst xs))
theorem QU {x1}(h:PA X es t):PE X (.Tuple es x1 pos) (SE t):=by
 intro pins s σ H Q I hq;refine wpAny_Tuple_spliced (thn (h pos pins s σ H _ I hq) fun us s1 ⟨xs,H1,I1,r,z,q⟩=>⟨by rw [<-r.length];exact z,?_⟩);have hf:H1 s1.heap.objs.size=none:=I1.hok.fresh (FE _);refine ⟨.ref s1.heap.objs.size,upd H1 s1.heap.objs.size (.tup xs),I1.laid (t':=s1.toks) (fun b u e=>FT _ e) (FE _) ?_,rfl,q _ hf⟩;exact ⟨z,us,r,⟨_,Ee _ rfl,rfl,_,rfl⟩⟩
theorem QF (h:PA X es t):PE X (.List es pos) (RS t):=by
 intro pins s σ H Q I hq;refine wpAny_List_spliced (thn (h pos pins s σ H _ I hq) fun us s1 ⟨xs,H1,I1,r,z,q⟩=>⟨by rw [<-r.length];exact z,?_⟩);have hf:H1 s1.heap.objs.size=none:=I1.hok.fresh (FE _);refine ⟨.ref s1.heap.objs.size,upd H1 s1.heap.objs.size (.lst xs),I1.laid (t':=s1.toks) (fun b u e=>FT _ e) (FE _) ?_,rfl,q _ hf⟩;exact ⟨z,us,0,r,Ee _ rfl⟩
end
abbrev Sp:=List V->Hp->VK->XK->Prop
abbrev CXT:=List Env->Hp->Shared->XK->Value->Shared->Prop
structure Env0 (P:Program)(w:World)(K:W.Frag)(mg:Str->Option Value)(base:Heap)(A:Around)(outer:List Env)(s:Shared)(H:Hp):Prop where
 frames:A.frames=some outer
 mod:Mod K mg base
 bs:∀b o,base.get? b=some o->s.heap.get? b=some o/\H b=none
 bsz:base.objs.size<=s.heap.objs.size
 funs:s.heap.FunFrames base outer
 frf:∀b∈frs outer,H b=none
 hok:HOk P w H s.heap
 bare:AllBare s.gens
def CE (outer:List Env)(P:Program)(w:World)(H:Hp)(s:Shared)(Q:VK)(u:Value)(s':Shared):Prop:=
 ∃v H',s'.os=s.os/\AllBare s'.gens/\Un (frs outer) [] H H' s.heap s'.heap/\HOk P w H' s'.heap/\RelV v u/\Q v H'
def CR (CX:CXT)(outer:List Env)(P:Program)(w:World)(H:Hp)(s:Shared)(Q:VK)(E:XK)(r:Result)(s':Shared):Prop:=
 match r with
 | .ok (.ret u)=>CE outer P w H s Q u s'
 | .ok _=>False
 | .error e=>CX outer H s E e s'
structure FnOk (P:Program)(w:World)(K:W.Frag)(mg:Str->Option Value)(base:Heap)(CX:CXT)(k:Nat)(f:Addr)(fd:FuncData)(ps:List Str)(sp:Sp):Prop where
 len:∀vs H Q E,sp vs H Q E->vs.length=ps.length
 run:∀(A:Around) (outer:List Env) (s:Shared) (H:Hp) (args:Args) (us:List Value) (vs:List V) (Q:VK) (E:XK),Room k A->Env0 P w K mg base A outer s H->BindsTo s fd args (ps.zip us)->Vals vs us->sp vs H Q E ->
  codeAny (model P w) A (.call (.ref f) args) (CR CX outer P w H s Q E) s
theorem FnOk.imp {CX:CXT}{k:Nat}{sp sp':Sp}(F:FnOk P w K mg base CX k f fd ps sp)
  (h:∀vs H Q E,sp' vs H Q E->sp vs H Q E):FnOk P w K mg base CX k f fd ps sp':=
 ⟨λvs H Q E q=>F.len vs H Q E (h _ _ _ _ q),λA outer s H args us vs Q E hr he hb hv hs=>F.run A outer s H args us vs Q E hr he hb hv (h _ _ _ _ hs)⟩
theorem Env0.make {H:Hp}(e:Env0 P w K mg base A outer s H)(C:Addr)(us:List Value)(kw:List (Str×Value)) :
  Env0 P w K mg base (A.under (.builtin "type.__call__" ⟨.ref C::us,kw⟩)) outer s H:=⟨by first|exact e.frames|(simpa[Around.under,Code.envs,Code.isFrame,pushEnvs] using e.frames),e.mod,e.bs,e.bsz,e.funs,e.frf,e.hok,e.bare⟩
section
variable {X:Cx} {pins:List (Addr×Obj)} {σ:St} {H:Hp} {s s':Shared}
theorem Inv.env0 (I:Inv X pins σ H s):Env0 X.prog X.w X.K X.mg X.base X.A X.stack s H:=
 ⟨I.ok.frames,I.ok.mod,I.bs,F2 I.ok.bsz I.sz,I.stack,I.stkFree,I.hok,I.bare⟩
theorem Inv.after {Q:VK}(I:Inv X pins σ H s)(h:CE X.stack X.prog X.w H s Q u s'):EP X pins σ Q u s':=by
 obtain⟨v,H',os,bare,un,hok,r,q⟩:=h;obtain⟨hh,g,d,t,os'⟩:=s';obtain rfl:os'=s.os:=os;exact⟨v,H',I.call (h':=hh) (g':=g) (d':=d) (t':=t) (ch:=[]) un hok bare (λb z=>absurd z (by simp)),r,q⟩
end
def Gf (sp:Sp)(dvs:List V)(E:XK)(t:TA):TE:=λσ H Q=>t σ H λvs H1=>sp (vs++dvs) H1 Q E
def VA (C:Addr)(m:Str)(sp:Sp)(dvs:List V)(E:XK)(ta:TE)(t:TA):TE:=λσ H Q=>ta σ H λx H1=>∃a dx fs,x=.ref a/\H1 a=some (.ins C dx fs)/\fs.lookup m=none /\
 t σ H1 λvs H2=>sp (x::(vs++dvs)) H2 Q E
def YM (C:Addr)(sp:Sp)(dvs:List V)(E:XK)(t:TA):TE:=λσ H Q=>t σ H λvs H1=>∀x dx,H1 x=none->H1 dx=none->dx≠x ->
 sp (.ref x::(vs++dvs)) (upd (upd H1 dx (.own x)) x (.ins C dx [])) (λv H2=>v=.non/\Q (.ref x) H2) E
def Binds (K:W.Frag)(fd:FuncData)(ps:List Str)(ds:List Value):Prop:=
 ∀(s:Shared) (us:List Value),K.In s.heap->(us++ds).length=ps.length->BindsTo s fd ⟨us,[]⟩ (ps.zip (us++ds))
theorem Binds.all (h:∀us:List Value,us.length=ps.length->bindArgs fd ⟨us,[]⟩=pure (ps.zip us)):Binds K fd ps []:=λs us _ hl=>by
 rw[EH] at hl ⊢;exact .of_eq (h us hl)
def Xu (CX:CXT)(X:Cx)(E:XK):Prop:=∀(pins:List (Addr×Obj)) (σ:St) (H:Hp) (s:Shared) (e:Value) (s':Shared),Inv X pins σ H s->CX X.stack H s E e s'->X.xe e s'
section
variable {X:Cx} {CX:CXT} {k:Nat} {f C:Addr} {fd:FuncData} {ps:List Str} {sp:Sp} {dvs:List V} {ds:List Value} {E:XK} {x m:Str} {p pos apos:Pos} {e o:Expr} {es:List Expr} {ta:TE} {t:TA}
theorem UE {σ:St}{H:Hp}{Q:VK}{vs:List V}(F:FnOk X.prog X.w X.K X.mg X.base CX k f fd ps sp)(hr:Room k X.A)(hb:Binds X.K fd ps ds)(hd:Vals dvs ds)(hx:Xu CX X E)
  (I:Inv X pins σ H s) (r:Vals vs us) (h:sp (vs++dvs) H Q E):wpAny (model X.prog X.w) X.A (call (.ref f) us) (EP X pins σ Q) X.xe s:=by
 have r2:Vals (vs++dvs) (us++ds):=r.append hd;have hl:(us++ds).length=ps.length:=by rw [<-r2.length];exact F.len _ _ _ _ h
 refine wpAny_call (EK (F.run X.A X.stack s H ⟨us,[]⟩ (us++ds) (vs++dvs) Q E hr I.env0 (hb s us I.kIn hl) r2 h) λr s' hq=>?_);cases r with
 | error e=>exact hx pins σ H s e s' I hq
 | ok fl=>
  cases fl with
  | ret u=>exact I.after hq
  | next=>exact False.elim hq
  | brk=>exact False.elim hq
  | cont=>exact False.elim hq
theorem Gs (F:FnOk X.prog X.w X.K X.mg X.base CX k f fd ps sp)(hr:Room k X.A)(hg:Gl X x)(hm:X.mg x=some (.ref f))(hk:W.keepIn X.K (.ref f)=true)(hb:Binds X.K fd ps ds)(hd:Vals dvs ds)(hx:Xu CX X E)
  (ha:PA X (e::es) t) (hdb:(x==("__debug__":Str))=false:=by decide) (he:starEach (e::es) X.env=(false,eval e X.env)::starEach es X.env:=by rfl) (hpl:(backTo pos (starEach es X.env)).any (·.1)=false:=by rfl) :
  PE X (.Call (.Name x p) (e::es) [] pos) (Gf sp dvs E t):=by
 intro pins s σ H Q I h;refine ES (X4 I hg hm ?_ hdb);refine W.callWith_K (h₀:=X.base) I.ok.mod.kin hk (thn (ha pos pins s σ H _ I h) λus s1 ⟨vs,H1,I1,r,q⟩=>⟨I1.kIn,?_⟩) he hpl;exact UE F hr hb hd hx I1 r q
theorem LV (he:PE X o ta)(c:Cls X.K C)(hm:Lg X.K C m f)(F:FnOk X.prog X.w X.K X.mg X.base CX k f fd ps sp)(hr:Room k X.A)(hb:Binds X.K fd ps ds)(hd:Vals dvs ds)(hx:Xu CX X E)(ha:PA X (e::es) t)
  (hst:starEach (e::es) X.env=(false,eval e X.env)::starEach es X.env:=by rfl) (hpl:(backTo pos (starEach es X.env)).any (·.1)=false:=by rfl)
  (ht:eval (.Call (.Attribute o m apos) (e::es) [] pos) X.env=(do
   let ov <-eval o X.env
   standAt apos.atName
   let (f,first) <-holding [ov] (getMethod ov m pl)
   callWith pos f first (backTo pos (starEach (e::es) X.env)) (backToKw pos (keywordEach [] X.env))):=by rfl) :
  PE X (.Call (.Attribute o m apos) (e::es) [] pos) (VA C m sp dvs E ta t):=by
 intro pins s σ H Q I h;refine W.methodCall_KW (pl:=pl) (thn (he pins s σ H _ I h) λu s1 ⟨x,H1,I1,rx,a,dx,fs,ex,ea,l,q⟩=>?_) ht;subst ex;obtain rfl:u=Value.ref a:=rx;refine Y3 I1 ea c hm l ?_;refine W.callWith_K (first:=[.ref a]) (h₀:=X.base) I.ok.mod.kin hm.kp (thn (ha pos pins s1 σ H1 _ I1 q) λus s2 ⟨vs,H2,I2,r,q2⟩=>⟨I2.kIn,?_⟩) hst hpl;exact UE (us:=.ref a::us) (vs:=.ref a::vs) F hr hb hd hx I2 (.cons rfl r) q2
theorem Ml (he:PE X o ta)(c:Cls X.K C)(hm:Lg X.K C m f)(F:FnOk X.prog X.w X.K X.mg X.base CX k f fd ps sp)(hr:Room k X.A)(hb:Binds X.K fd ps ds)(hd:Vals dvs ds)(hx:Xu CX X E)
  (ht:eval (.Call (.Attribute o m apos) [] [] pos) X.env=(do
   let ov <-eval o X.env
   standAt apos.atName
   let (f,first) <-holding [ov] (getMethod ov m pl)
   callWith pos f first (backTo pos (starEach [] X.env)) (backToKw pos (keywordEach [] X.env))):=by rfl) :
  PE X (.Call (.Attribute o m apos) [] [] pos) (VA C m sp dvs E ta Uu):=by
 intro pins s σ H Q I h;refine W.methodCall_KW (pl:=pl) (thn (he pins s σ H _ I h) λu s1 ⟨x,H1,I1,rx,a,dx,fs,ex,ea,l,q⟩=>?_) ht;subst ex;obtain rfl:u=Value.ref a:=rx;refine Y3 I1 ea c hm l ?_;exact W.callWith_K0 (first:=[.ref a]) I1.kIn hm.kp (UE (us:=[.ref a]) (vs:=[.ref a]) F hr hb hd hx I1 (.cons rfl .nil) q)
structure Mk (K:W.Frag)(C f:Addr):Prop where
 makes:W.makesIn K C=true
 init:W.findIn K (.ref C) "__init__"=some (some (.ref f))
 fn:W.isFn K (.ref f)=true
 kp:W.keepIn K (.ref C)=true
theorem VH {σ:St}{H:Hp}{Q:VK}{vs:List V}(M:Mk X.K C f)(F:FnOk X.prog X.w X.K X.mg X.base CX k f fd ps sp)(hr:Room (k+1) X.A)(hb:Binds X.K fd ps ds)(hd:Vals dvs ds)
  (hx:Xu CX X E) (I:Inv X pins σ H s) (r:Vals vs us)
  (h:∀x dx,H x=none->H dx=none->dx≠x->sp (.ref x::(vs++dvs)) (upd (upd H dx (.own x)) x (.ins C dx [])) (λv H2=>v=.non/\Q (.ref x) H2) E) :
  wpAny (model X.prog X.w) X.A (call (.ref C) us) (EP X pins σ Q) X.xe s:=by
 have hq:=h (s.heap.objs.size+1) s.heap.objs.size (I.hok.fresh (ET _)) (I.hok.fresh (FE _)) (FU (EG _));have I2:=Inv.made (C:=C) I;have r2:Vals (V.ref (s.heap.objs.size+1)::(vs++dvs)) (Value.ref (s.heap.objs.size+1)::(us++ds)):=.cons rfl (r.append hd);have hl:(Value.ref (s.heap.objs.size+1)::us++ds).length=ps.length:=by
  have e:=r2.length;rw[F.len _ _ _ _ hq] at e;exact e.symm
 refine wpAny_call (MC (f:=f) I.kIn M.makes M.init (beq_iff_eq.mp M.fn) (EK (F.run _ X.stack _ _ ⟨Value.ref (s.heap.objs.size+1)::us,[]⟩ (Value.ref (s.heap.objs.size+1)::(us++ds)) _ _ E (hr.make C us [])
  (I2.env0.make C us []) (hb _ (Value.ref (s.heap.objs.size+1)::us) I2.kIn hl) r2 hq) λr s' hq'=>?_))
 cases r with
 | error e=>exact hx pins σ _ _ e s' I2 hq'
 | ok fl=>
  cases fl with
  | ret u=>
   obtain⟨v,H',I3,rv,ev,q3⟩:=I2.after hq';subst ev;exact⟨rv,⟨V.ref (s.heap.objs.size+1),H',I3,rfl,q3⟩⟩
  | next=>exact False.elim hq'
  | brk=>exact False.elim hq'
  | cont=>exact False.elim hq'
theorem Gr (M:Mk X.K C f)(F:FnOk X.prog X.w X.K X.mg X.base CX k f fd ps sp)(hr:Room (k+1) X.A)(hg:Gl X x)(hm:X.mg x=some (.ref C))(hb:Binds X.K fd ps ds)(hd:Vals dvs ds)(hx:Xu CX X E)
  (ha:PA X (e::es) t) (hdb:(x==("__debug__":Str))=false:=by decide) (he:starEach (e::es) X.env=(false,eval e X.env)::starEach es X.env:=by rfl) (hpl:(backTo pos (starEach es X.env)).any (·.1)=false:=by rfl) :
  PE X (.Call (.Name x p) (e::es) [] pos) (YM C sp dvs E t):=by
 intro pins s σ H Q I h;refine ES (X4 I hg hm ?_ hdb);refine W.callWith_K (h₀:=X.base) I.ok.mod.kin M.kp (thn (ha pos pins s σ H _ I h) λus s1 ⟨vs,H1,I1,r,q⟩=>⟨I1.kIn,?_⟩) he hpl;exact VH M F hr hb hd hx I1 r q
theorem Mm (M:Mk X.K C f)(F:FnOk X.prog X.w X.K X.mg X.base CX k f fd ps sp)(hr:Room (k+1) X.A)(hg:Gl X x)(hm:X.mg x=some (.ref C))(hb:Binds X.K fd ps ds)(hd:Vals dvs ds)(hx:Xu CX X E)
  (hdb:(x==("__debug__":Str))=false:=by decide):PE X (.Call (.Name x p) [] [] pos) (YM C sp dvs E Uu):=by
 intro pins s σ H Q I h;refine ES (X4 I hg hm ?_ hdb);exact W.callWith_K0 I.kIn M.kp (VH (us:=[]) M F hr hb hd hx I .nil h)
end
structure Qu (N P:List Str)(sc:Scope):Prop where
 kind:sc.kind=.function
 co:sc.isCoroutine=false
 gen:sc.isGenerator=false
 nd:N.Nodup
 pre:N.take P.length=P
 par:∀x∈P,sc.names.lookup x=some .local∨sc.names.lookup x=some .cell
 nofree:∀y∈sc.names,y.2≠.free
theorem Kw {kindOf:Str->Option NameKind}{x:Str}:∀{binds:List (Str×Value)}{m:Str->Option Value},(∀v,(x,v)∉binds)->bindL kindOf binds m x=m x
 | [],_,_=>rfl
 | (n,v)::r,m,h=>by
  unfold bindL;rw[Kw λw hw=>h w (F5 _ hw)];split
  ·have:x≠n:=by rintro rfl;exact h v Eb
   simp[this]
  ·rfl
theorem Ky {kindOf:Str->Option NameKind}{x:Str}:∀{binds:List (Str×Value)}{m:Str->Option Value},(∀v,(x,v)∉binds)->bindC kindOf binds m x=m x
 | [],_,_=>rfl
 | (n,v)::r,m,h=>by
  unfold bindC;rw[Ky λw hw=>h w (F5 _ hw)];split
  ·rfl
  ·have:x≠n:=by rintro rfl;exact h v Eb
   simp[this]
theorem Kx {kindOf:Str->Option NameKind}{x:Str}{v:Value}:∀{P:List Str}{vs:List Value}{i:Nat}{m:Str->Option Value},P.Nodup->P[i]?=some x->vs[i]?=some v->kindOf x=some .local ->
  bindL kindOf (P.zip vs) m x=some v
 | [],_,_,_,_,h,_,_=>by simp at h
 | _::_,[],_,_,_,_,h,_=>by simp at h
 | p::P,w::vs,0,m,nd,h1,h2,hk=>by
  simp at h1 h2;subst h1;subst h2;show bindL kindOf ((p,w)::P.zip vs) m p=_;unfold bindL;rw[Kw λv hv=>(EU.mp nd).1 (List.of_mem_zip hv).1,FD hk];simp
 | p::P,w::vs,i+1,m,nd,h1,h2,hk=>by
  show bindL kindOf ((p,w)::P.zip vs) m x=_;unfold bindL;exact Kx (i:=i) (EU.mp nd).2 (by simpa using h1) (by simpa using h2) hk
theorem Kz {kindOf:Str->Option NameKind}{x:Str}{v:Value}:∀{P:List Str}{vs:List Value}{i:Nat}{m:Str->Option Value},P.Nodup->P[i]?=some x->vs[i]?=some v->kindOf x≠some .local ->
  bindC kindOf (P.zip vs) m x=some v
 | [],_,_,_,_,h,_,_=>by simp at h
 | _::_,[],_,_,_,_,h,_=>by simp at h
 | p::P,w::vs,0,m,nd,h1,h2,hk=>by
  simp at h1 h2;subst h1;subst h2;show bindC kindOf ((p,w)::P.zip vs) m p=_;unfold bindC;rw[Ky λv hv=>(EU.mp nd).1 (List.of_mem_zip hv).1,FC hk];simp
 | p::P,w::vs,i+1,m,nd,h1,h2,hk=>by
  show bindC kindOf ((p,w)::P.zip vs) m x=_;unfold bindC;exact Kz (i:=i) (EU.mp nd).2 (by simpa using h1) (by simpa using h2) hk
def start (N:List Str)(vs:List V):St:=vs.map some++List.replicate (N.length-vs.length) none
def Wm (CX:CXT)(P:Program)(w:World)(K:W.Frag)(mg:Str->Option Value)(base:Heap)(N:List Str)(qual:Str)(scope:Scope)(f:Addr)(cd:Value)(A:Around)(outer:List Env)(s:Shared)(H:Hp)(E:XK):Cx where
 prog:=P
 w:=w
 K:=K
 mg:=mg
 base:=base
 A:=A.deeper (envOfC qual scope s.heap.objs.size f cd)
 N:=N
 s₀:=s
 H₀:=H
 env:=envOfC qual scope s.heap.objs.size f cd
 outer:=outer
 stack:=envOfC qual scope s.heap.objs.size f cd::outer
 ex:=[]
 calm:=true
 fn:=λ_=>true
 pn:=[]
 xe:=λe s'=>wpAny (model P w) (A.deeper (envOfC qual scope s.heap.objs.size f cd)) (leaving (envOfC qual scope s.heap.objs.size f cd) e) (λ_ s''=>CX outer H s E e s'') (λe' s''=>CX outer H s E e' s'') s'
theorem Uh {sc:Scope}(h:sc.names.lookup x=some .cell):∃c,(cellsFrom n sc.names []).lookup x=some c:=by
 have q:=W.cellsFrom_some sc.names n [] (.inl h);exact Option.isSome_iff_exists.mp q
theorem Nr {CX:CXT}{N:List Str}{cd:Value}{s1:Shared}{H:Hp}{E:XK}{vs:List V} 
  (S:Qu N ps scope) (hd:A.handled=none) (e0:Env0 P w K mg base A outer s H) (hl:vs.length=ps.length) (r:Vals vs us)
  (x:InCallC s s.heap.objs.size (bindL (envOfC qual scope s.heap.objs.size f cd).kindOf (ps.zip us) λ_=>none) (cellsFrom (s.heap.objs.size+1) scope.names []) (bindC (envOfC qual scope s.heap.objs.size f cd).kindOf (ps.zip us) λ_=>none) s1) :
  Inv (Wm CX P w K mg base N qual scope f cd A outer s H E) [] (start N vs) H s1:=by
 have hpl:ps.length<=N.length:=by have:=congrArg List.length S.pre;rw[Ep] at this;omega
 obtain⟨h1,tk,rfl,hk⟩:=x.done;have noA:∀b:Addr,b∉(Wm CX P w K mg base N qual scope f cd A outer s H E).ex:=λb z=>absurd (show b∈([]:List Addr) from z) (by simp)
 refine⟨⟨e0.mod,S.kind,rfl,rfl,FE _,λy z c h1 h2=>?_,λy hy=>?_,λy c _ h=>?_,λ_=>hd,Around.frames_deeper e0.frames,.inr ⟨rfl,rfl⟩,λb z=>absurd z (noA b),e0.bs,e0.bsz,λb _ _=>noA b,λb z=>absurd z (noA b),e0.funs,e0.frf⟩,
  rfl,e0.bare,Un.kept hk,⟨_,x.toInCall.ns,λi y v h1 h2 h3=>?_⟩,λy c h=>⟨_,x.cell y c h⟩,e0.hok.fresh (FE _),λy c h=>?_,λp hp=>absurd (show p∈([]:List (Addr×Obj)) from hp) (by simp),e0.hok.kept hk,?_⟩
 ·exact name_of_addr x.apart (EY h1) (EY h2)
 ·have hy:scope.names.lookup y=some .cell∨scope.names.lookup y=some .free:=hy;rcases hy with hy|hy
  ·exact Uh hy
  ·exact absurd rfl (S.nofree _ (EY hy))
 ·exact E7 (x.above y c (EY h))
 ·have hi:i<vs.length:=by
   unfold start at h2;by_cases hi:i<vs.length
   ·exact hi
   ·rw[Em (by simpa using hi)] at h2;rw[List.getElem?_replicate] at h2;split at h2<;>cases h2
  have ha:vs[i]?=some v:=by
   unfold start at h2;rw[En (by simpa using hi),F0] at h2;cases e:vs[i]? with
   | none=>rw[e] at h2;cases h2
   | some a=>rw[e] at h2;cases h2;rfl
  obtain⟨u,hu,rv⟩:=r.get ha;have hp:ps[i]?=some y:=by
   rw [<-S.pre,List.getElem?_take_of_lt (by omega)];exact h1
  have ndP:ps.Nodup:=by rw [<-S.pre];exact S.nd.sublist (List.take_sublist _ _)
  refine⟨u,rv,?_⟩;rcases S.par y (EE hp) with k|k
  ·exact .inl ⟨k,Kx ndP hp hu k⟩
  ·obtain⟨c,e⟩:=Uh (n:=s.heap.objs.size+1) k;refine .inr ⟨.inl k,c,e,?_⟩;have q:=x.cell y c e;rw[Kz ndP hp hu (by show scope.names.lookup y≠_;rw[k];decide)] at q;exact q
 ·exact e0.hok.fresh (E7 (x.above y c (EY h)))
 ·unfold start;show _=N.length;rw[FF,FH,List.length_replicate];omega
theorem MP {CX:CXT}{k:Nat}{name:Str}{params:Arguments}{dV kV:Value} 
  {osl:Array (Option Value)} {N ps:List Str} {sp:Sp} (lk:K.lookup f=some ⟨oc,od,.func (W.fnOf name qual params body scope dV kV doc pm an cdv ct),osl⟩) (hcd:W.codeIn K cdv qual=true) (S:Qu N ps scope)
  (len:∀vs H Q E,sp vs H Q E->vs.length=ps.length)
  (hbody:∀(A:Around) (outer:List Env) (s:Shared) (H:Hp) (vs:List V) (Q:VK) (E:XK),Room k (A.deeper (envOfC qual scope s.heap.objs.size f cdv))->sp vs H Q E ->
   ∃t,PSs (Wm CX P w K mg base N qual scope f cdv A outer s H E) body t/\t { nx:=λ_ H'=>Q .non H',rt:=Q } (start N vs) H) :
  FnOk P w K mg base CX (k+1) f (W.fnOf name qual params body scope dV kV doc pm an cdv ct) ps sp:=by
 refine⟨len,λA outer s H args us vs Q E hr e0 hb r hsp=>?_⟩;have hl:=len _ _ _ _ hsp;have KX:K.In s.heap:=e0.mod.kin.keeps λb o e=>(e0.bs b o e).1
 have lim:s.heap.NoLimit:=e0.mod.nolimit.keeps λb o e=>(e0.bs b o e).1
 have hkind:∀y∈ps.zip us,scope.names.lookup y.1=some .local∨(scope.names.lookup y.1=some .cell/\((cellsFrom (s.heap.objs.size+1) scope.names []).lookup y.1).isSome=true):=λ⟨n,v⟩ hy=>by
  rcases S.par n (List.of_mem_zip hy).1 with q|q
  ·exact .inl q
  ·exact .inr ⟨q,W.cellsFrom_some _ _ _ (.inl q)⟩
 refine codeAny_call_function hr.depth (KX _ _ lk) rfl S.co S.gen rfl (W.codeRec_of KX hcd) (hb _ _ _ _ ?_);refine wpAny_newFunctionEnv_cells S.kind hkind λenv he s1 x=>?_
 subst he;refine⟨lim.keeps x.toInCall.keep,codeAny_func ?_⟩;obtain⟨t,ht,hq⟩:=hbody A outer s H vs Q E (hr.deeper _) hsp;have I:Inv (Wm CX P w K mg base N qual scope f cdv A outer s H E) [] (start N vs) H s1:=Nr S hr.hd e0 hl r x;refine Ed (ht [] s1 (start N vs) H _ I hq) (λfl s' hs=>?_) λe s' hs=>hs
 have fin:∀{σ':St} {H':Hp} {v:V} {u:Value},Inv (Wm CX P w K mg base N qual scope f cdv A outer s H E) [] σ' H' s'->RelV v u->Q v H'->CE outer P w H s Q u s':=
  λ{σ' H' v u} J rv q=>⟨v,H',J.os,J.bare,J.base,J.hok,rv,q⟩
 cases fl with
 | ret u=>
  obtain⟨v,σ',H',J,rv,q⟩:=hs;exact fin J rv q
 | next=>
  obtain⟨σ',H',J,q⟩:=hs;exact fin (v:=V.non) (u:=Value.none) J rfl q
 | brk=>
  obtain⟨_,_,_,q⟩:=hs;exact False.elim q
 | cont=>
  obtain⟨_,_,_,q⟩:=hs;exact False.elim q
section
variable {X:Cx} {x:Str} {p pos:Pos} {e:Expr} {es:List Expr} {t:TA} {id T:String} {r:List V->Hp->VK->Prop}
def tCB (r:List V->Hp->VK->Prop)(t:TA):TE:=λσ H Q=>t σ H λvs H1=>r vs H1 Q
theorem Qs (hc:CallR X (.builtin id) r)(hg:Gl X x)(hm:X.mg x=none)(hv:bootBuiltins x=some (.builtin id))(ha:PA X (e::es) t)(hn:x≠"__name__":=by decide)(hdb:(x==("__debug__":Str))=false:=by decide)
  (he:starEach (e::es) X.env=(false,eval e X.env)::starEach es X.env:=by rfl) (hpl:(backTo pos (starEach es X.env)).any (·.1)=false:=by rfl):PE X (.Call (.Name x p) (e::es) [] pos) (tCB r t):=by
 intro pins s σ H Q I h;refine ES (WO I hg hm hv ?_ hn hdb);exact PyProof.Rows.callWith_builtin1 (thn (ha pos pins s σ H _ I h) λus s1 ⟨vs,H1,I1,r1,q1⟩=>hc pins s1 σ H1 vs us Q I1 r1 q1) he hpl
theorem QE (hc:CallR X (.type T) r)(hg:Gl X x)(hm:X.mg x=none)(hv:bootBuiltins x=some (.type T))(ha:PA X (e::es) t)(hn:x≠"__name__":=by decide)(hdb:(x==("__debug__":Str))=false:=by decide)
  (he:starEach (e::es) X.env=(false,eval e X.env)::starEach es X.env:=by rfl) (hpl:(backTo pos (starEach es X.env)).any (·.1)=false:=by rfl):PE X (.Call (.Name x p) (e::es) [] pos) (tCB r t):=by
 intro pins s σ H Q I h;refine ES (WO I hg hm hv ?_ hn hdb);exact E8 (thn (ha pos pins s σ H _ I h) λus s1 ⟨vs,H1,I1,r1,q1⟩=>hc pins s1 σ H1 vs us Q I1 r1 q1) he hpl
end
end L2
variable {a c b h e v y d:L2.V}{g:L2.TG}{xs vs cvs:List L2.V}{H H' H1 H2:L2.Hp}{o:L2.HO}{Q:L2.VK}{X:L2.Cx}{ta te tl:L2.TE}{tb:L2.TS}{σ σ0:L2.St}{R:L2.It->L2.Hp->Prop}{wi:L2.TI}{CX:L2.CXT}{tt:L2.TT}{kvs:List (L2.Key×L2.V)}
namespace HT
open PySem PyProof.Rows
section
variable {prog:Program} {w:World} {A:Around} {E:Value->Shared->Prop} {s:Shared}
theorem cat_tup {t b:Addr}{vs ws:List Value}{Q:Value->Shared->Prop}(ht:IsTup s.heap t vs.toArray)(hb:IsTup s.heap b ws.toArray)(hv:vs≠[])
  (h1:ws=[]->Q (.ref t) s) (h2:ws≠[]->Q (.ref s.heap.objs.size) { s with heap:=s.heap.push { cls:=.type "tuple",data:=.seq (vs++ws).toArray } })
  (hsz:vs.length+ws.length<=sizeLine):wpAny (model prog w) A (binaryOp .Add (.ref t) (.ref b)) Q E s:=by
 obtain⟨⟨cls,dd,data,sl⟩,ho,hc,n,hd⟩:=id ht;obtain⟨⟨cls2,dd2,data2,sl2⟩,ho2,hc2,n2,hd2⟩:=id hb;simp only at hc hd hc2 hd2;subst hc hd hc2 hd2;have e:vs.toArray++ws.toArray=(vs++ws).toArray:=by simp
 by_cases hw:ws=[]
 ·exact concat_meets ⟨_,ho,rfl⟩ ⟨_,ho2,rfl⟩ noFill_tuple_add seq_tuple_add PySem.F.slot_tuple_add PySem.F.entry_tuple_add (PySem.F.args_tuple_add_2 _ _)
   (tuple_addW1 t b vs.toArray ws.toArray n n2 dd dd2 sl sl2 (by simpa using hv) (by simp[hw])) ⟨ho,ho2,h1 hw⟩
 ·refine concat_meets ⟨_,ho,rfl⟩ ⟨_,ho2,rfl⟩ noFill_tuple_add seq_tuple_add PySem.F.slot_tuple_add PySem.F.entry_tuple_add (PySem.F.args_tuple_add_2 _ _)
   (tuple_addW2 t b vs.toArray ws.toArray n n2 dd dd2 sl sl2 (by simpa using hv) (by simpa using hw) (by rw[FV,FV];exact hsz)) ⟨ho,ho2,?_⟩
  rw[e];exact h2 hw
def sIx (n d:Nat):Option Int->Nat
 | none=>d
 | some v=>if v<0 then(v+(n:Int)).toNat else min v.toNat n
theorem sIx_none (n d:Nat):sIx n d none=d:=rfl
theorem sIx_nat (n d k:Nat):sIx n d (some (k:Int))=min k n:=by
 show(if(k:Int)<0 then((k:Int)+(n:Int)).toNat else min (k:Int).toNat n)=min k n;rw[FC (by omega),Int.toNat_natCast]
theorem RW (n d:Nat)(hd:d<=n)(o:Option Int):sIx n d o<=n:=by
 cases o with
 | none=>exact hd
 | some v=>
  show(if v<0 then(v+(n:Int)).toNat else min v.toNat n)<=n;by_cases hv:v<0
  ·rw[FD hv];omega
  ·rw[FC hv];exact Nat.min_le_right _ _
theorem GL (v:Int)(n d:Nat):(if v<0 then max (v+(n:Int)) 0 else min v (n:Int))=((sIx n d (some v):Nat):Int):=by
 show(if v<0 then max (v+(n:Int)) 0 else min v (n:Int))=(((if v<0 then(v+(n:Int)).toNat else min v.toNat n):Nat):Int);by_cases hv:v<0
 ·simp only[FD hv];omega
 ·simp only[FC hv];omega
theorem U7 (lo hi:Option Int)(n:Nat):Builtin.Slice.sliceAdjust lo hi 1 (n:Int)=(((sIx n 0 lo:Nat):Int),((sIx n n hi:Nat):Int)):=by
 have h1:¬((1:Int)<0):=by omega
 unfold Builtin.Slice.sliceAdjust;simp only[h1,if_false];refine Prod.ext ?_ ?_
 ·cases lo with
  | none=>rfl
  | some v=>exact GL v n 0
 ·cases hi with
  | none=>rfl
  | some v=>exact GL v n n
theorem UG (i j:Nat):Builtin.Slice.slicePlaces (i:Int) (j:Int) 1=j-i:=by
 unfold Builtin.Slice.slicePlaces;have h1:(1:Int) > 0:=by omega
 simp only[h1,if_true,Int.ediv_one];split<;>omega
theorem Jn {v:Value}{o:Option Int}{Q:Option Int->Shared->Prop}(p:IsPart v o)(h:Q o s):wpAny (model prog w) A (Builtin.Slice.slicePartIndex v) Q E s:=by
 cases p with
 | none=>exact slicePart_none h
 | int i t=>exact slicePart_int h
theorem Wy {sl:Addr}{vl vu:Value}{lo:Option Int}{Q:Int×Int×Nat->Shared->Prop}(hs:s.heap.IsSliceOf sl vl vu .none)(pl:IsPart vl lo)(pu:IsPart vu hi)
  (h:Q (((sIx n 0 lo:Nat):Int),1,sIx n n hi-sIx n 0 lo) s):wpAny (model prog w) A (Builtin.Slice.sliceApplied (.ref sl) (pure (n:Int))) Q E s:=by
 obtain⟨os,hos,hcs,hds⟩:=id hs;unfold Builtin.Slice.sliceApplied Builtin.Slice.sliceFields;refine FG (FG (wpAny_field hos hds (x:=vl) rfl (FG (wpAny_field hos hds (x:=vu) rfl (FG (wpAny_field hos hds (x:=.none) rfl (FM ?_)))))));refine FG (slicePart_none ?_);show wpAny _ _ (if((1:Int)==0)=true then _ else _) _ _ s;rw[FC (by decide)];refine FG (Jn pl (FG (Jn pu (FG (FM ?_)))));show wpAny _ _ (match Builtin.Slice.sliceAdjust lo hi 1 (n:Int) with|(lo,hi)=>pure (lo,(1:Int),Builtin.Slice.slicePlaces lo hi 1)) _ _ s;rw[U7 lo hi n];show wpAny _ _ (pure (((sIx n 0 lo:Nat):Int),(1:Int),Builtin.Slice.slicePlaces ((sIx n 0 lo:Nat):Int) ((sIx n n hi:Nat):Int) 1)) _ _ s;rw[UG];exact FM h
theorem Mg (xs:Array Value)(i k:Nat):((List.range k).filterMap λ(m:Nat)=>xs[((i:Int)+(m:Int)*1).toNat]?).toArray=((xs.toList.drop i).take k).toArray:=by
 have e:(λ(m:Nat)=>xs[((i:Int)+(m:Int)*1).toNat]?)=λm=>xs[i+m]?:=by
  funext m
  have:((i:Int)+(m:Int)*1).toNat=i+m:=by omega
  rw[this]
 rw[e];have:=pick_run xs i k;rw[List.filterMap_map] at this;have e2:((λx=>xs[x]?) ∘ λx=>i+x)=λm=>xs[i+m]?:=rfl
 rw[e2] at this;rw[this]
theorem getItem_tuple_cut {t sl:Addr}{items:Array Value}{vl vu:Value}{lo:Option Int}{Q:Value->Shared->Prop}(ht:IsTup s.heap t items)(hs:s.heap.IsSliceOf sl vl vu .none)(pl:IsPart vl lo)(pu:IsPart vu hi)
  (hw:¬(sIx items.size 0 lo=0/\sIx items.size items.size hi=items.size))
  (h:Q (.ref s.heap.objs.size) { s with heap:=s.heap.push { cls:=.type "tuple",data:=.seq ((items.toList.drop (sIx items.size 0 lo)).take (sIx items.size items.size hi-sIx items.size 0 lo)).toArray } })
  (hsz:items.size<=sizeLine):wpAny (model prog w) A (getItem (.ref t) (.ref sl)) Q E s:=by
 have htake:sizeOk (.seq ((items.toList.drop (sIx items.size 0 lo)).take (sIx items.size items.size hi-sIx items.size 0 lo)).toArray):=by
  show((items.toList.drop (sIx items.size 0 lo)).take (sIx items.size items.size hi-sIx items.size 0 lo)).toArray.size<=sizeLine;rw[FV,Ep,EL,Array.length_toList];omega
 have hj:sIx items.size items.size hi<=items.size:=RW _ _ (FE _) hi;obtain⟨os,hos,hcs,hds⟩:=id hs;have hTs:s.TypeIs (.ref sl) "slice":=⟨os,hos,hcs⟩
 unfold getItem;try with_reducible refine wpAny_holding ?_
 first|refine FG (FM ?_)|skip
 refine FG (wpAny_sequenceKey ht.typeIs (by decide) ?_);refine FG (wpAny_callSpecial?_slot (name:=Str.ofString "__getitem__") ht.typeIs PyProof.Rows.slot_tuple_getitem
  (wpAny_call_entry PyProof.Rows.slot_tuple_getitem ht.typeIs entry_tuple_getitem ?_ (args_tuple_getitem _ _)))
 show wpAny _ _ (Builtin.Tuple.tupleItemsOf (.ref t) >>= _) _ _ s;refine FG (tupleItemsOf_ ht ?_);refine FG (wpAny_typeOf hTs ?_);rw[FD (by decide)];refine FG (Wy hs pl pu ?_);have hno:¬((((sIx items.size 0 lo:Nat):Int)==0&&(1:Int)==1&&(sIx items.size items.size hi-sIx items.size 0 lo)==items.size)=true):=by
  intro q;rw[Ew,Ew] at q;have q1:((sIx items.size 0 lo:Nat):Int)=0:=eq_of_beq q.1.1;have q2:sIx items.size items.size hi-sIx items.size 0 lo=items.size:=eq_of_beq q.2;exact hw ⟨by omega,by omega⟩
 show wpAny _ _ (if(((sIx items.size 0 lo:Nat):Int)==0&&(1:Int)==1&&(sIx items.size items.size hi-sIx items.size 0 lo)==items.size)=true then _ else _) _ _ s;rw[FC hno,Mg]
 first
  | exact FG (m:=Builtin.Tuple.tupleExact _) (wpAny_newObj_type (FM ⟨_,rfl,FM h⟩) htake)
  | exact FG (m:=Builtin.Tuple.tupleExact _) (wpAny_newObj_type (FG (FM (FM ⟨_,rfl,FM h⟩))) htake)
  | exact FG (FG (m:=Builtin.Tuple.tupleExact _) (wpAny_newObj_type (FM (FM ⟨_,rfl,FM h⟩)) htake))
  | exact FG (FG (m:=Builtin.Tuple.tupleExact _) (wpAny_newObj_type (FM ⟨_,rfl,FM h⟩) htake))
end
end HT
namespace L2
open PySem PySem.Spec PyProof.Rows
abbrev TO:=St->Hp->(Option Int->Hp->Prop)->Prop
def PO (X:Cx)(e:Option Expr)(t:TO):Prop:=
 ∀(pins:List (Addr×Obj)) (s:Shared) (σ:St) (H:Hp) (Q:Option Int->Hp->Prop),Inv X pins σ H s->t σ H Q ->
  wpAny (model X.prog X.w) X.A (evalPart e X.env) (λu s'=>∃o H',Inv X pins σ H' s'/\IsPart u o/\Q o H') X.xe s
def Gc:TO:=λ_ H Q=>Q none H
def BQ (t:TE):TO:=λσ H Q=>t σ H λx H1=>∃i,x=.int i/\Q (some i) H1
section
variable {X:Cx} {e:Expr} {te:TE} {lo hi:Option Expr} {tl th:TO} {pos p2:Pos}
theorem ZN:PO X none Gc:=by
 intro pins s σ H Q I h;rw[evalPart_none];exact FM ⟨none,H,I,.none,h⟩
theorem Zv (h:PE X e te):PO X (some e) (BQ te):=by
 intro pins s σ H Q I hw;rw[evalPart_some];refine thn (h pins s σ H _ I hw) λu s1 ⟨x,H1,I1,r1,q1⟩=>?_
 obtain⟨i,rfl,q⟩:=q1;obtain⟨t,rfl⟩:=r1;exact⟨some i,H1,I1,.int i t,q⟩
def SlR (X:Cx)(r:V->Option Int->Option Int->Hp->VK->Prop):Prop:=
 ∀(pins:List (Addr×Obj)) (s:Shared) (σ:St) (H:Hp) (x:V) (v vl vu:Value) (lo hi:Option Int) (sl:Addr) (Q:VK),Inv X pins σ H s->RelV x v->s.heap.IsSliceOf sl vl vu .none->IsPart vl lo->IsPart vu hi->r x lo hi H Q ->
  ∃T id,typeLookup (.type T) "__getitem__"=pure (some (.builtin id))/\s.TypeIs v T/\wpAny (model X.prog X.w) X.A (getItem v (.ref sl)) (EP X pins σ Q) X.xe s
def tSl (r:V->Option Int->Option Int->Hp->VK->Prop)(te:TE)(tl th:TO):TE:=λσ H Q=>te σ H λx H1=>tl σ H1 λl H2=>th σ H2 λu H3=>r x l u H3 Q
theorem Zp {r:V->Option Int->Option Int->Hp->VK->Prop}(hr:SlR X r)(he:PE X e te)(hl:PO X lo tl)(hu:PO X hi th):PE X (.Subscript e (.Slice lo hi none p2) pos) (tSl r te tl th):=by
 intro pins s σ H Q I h;refine Subscript_ (thn (he pins s σ H _ I h) λv s1 ⟨x,H1,I1,r1,q1⟩=>?_);refine wpAny_Slice (thn (hl pins s1 σ H1 _ I1 q1) λvl s2 ⟨l,H2,I2,pl,q2⟩=>thn (hu pins s2 σ H2 _ I2 q2) λvu s3 ⟨u,H3,I3,pu,q3⟩=>?_);rw[evalPart_none];refine FM ?_;have I4:Inv X pins σ H3 { s3 with heap:=s3.heap.push { cls:=.type "slice",data:=.fields #[vl,vu,.none] } }:=I3.kept (t':=s3.toks) λb ob q=>FT _ q
 obtain⟨T,id,hT,ht,hg⟩:=hr pins { s3 with heap:=s3.heap.push { cls:=.type "slice",data:=.fields #[vl,vu,.none] } } σ H3 x v vl vu l u s3.heap.objs.size Q I4 r1 (Heap.IsSliceOf.new ..) pl pu q3;show wpAny (model X.prog X.w) X.A (subscriptTail e (.Slice lo hi none p2) v (.ref s3.heap.objs.size)) (EP X pins σ Q) X.xe { s3 with heap:=s3.heap.push { cls:=.type "slice",data:=.fields #[vl,vu,.none] } };exact tail_any (ops:=[.ref s3.heap.objs.size,v]) ht hT hg (by with_unfolding_all rfl)
def X5 (xs:List V)(lo hi:Option Int):List V:=(xs.drop (HT.sIx xs.length 0 lo)).take (HT.sIx xs.length xs.length hi-HT.sIx xs.length 0 lo)
theorem W1 (xs:List V)(lo hi:Option Int):(X5 xs lo hi).length<=xs.length:=by
 unfold X5;rw[Ep,EL];omega
def Pb (K:W.Frag):V->Option Int->Option Int->Hp->VK->Prop:=λx lo hi H Q=>∃a xs,x=.ref a/\SqT K H a xs /\
 ¬(HT.sIx xs.length 0 lo=0/\HT.sIx xs.length xs.length hi=xs.length)/\∀p,H p=none->Q (.ref p) (upd H p (.tup (X5 xs lo hi)))
theorem RU:SlR X (Pb X.K):=by
 intro pins s σ H x v vl vu lo hi sl Q I rx hs pl pu h;obtain⟨a,xs,rfl,hx,hw,q⟩:=h;cases rx;obtain⟨its,r,ht,hz⟩:=I.tuple hx;have hlen:its.toArray.size=xs.length:=by rw[FV];exact r.length.symm
 refine⟨"tuple",_,PyProof.Rows.slot_tuple_getitem.lookup,ht.typeIs,?_⟩;refine HT.getItem_tuple_cut ht hs pl pu (by rw[hlen];exact hw) ?_ (by rw[hlen];exact hz);rw[hlen];refine⟨.ref s.heap.objs.size,_,I.laid (t':=s.toks) (o:=.tup (X5 xs lo hi)) (λb ob q=>FT _ q) (FE _) ?_,rfl,q _ (I.hok.fresh (FE _))⟩;exact⟨F2 (W1 xs lo hi) hz,_,(r.drop (HT.sIx xs.length 0 lo)).take (HT.sIx xs.length xs.length hi-HT.sIx xs.length 0 lo),IsTup.new _ _⟩
def Mb (K:W.Frag):R2:=λx y H Q=>∃a b xs ys,x=.ref a/\y=.ref b/\SqT K H a xs/\SqT K H b ys/\xs≠[]/\xs.length+ys.length<=sizeLine /\
 (ys=[]->Q (.ref a) H)/\(ys≠[]->∀p,H p=none->Q (.ref p) (upd H p (.tup (xs++ys))))
theorem Vals.nil_iff (r:Vals xs us):us=[]↔xs=[]:=by
 cases r with
 | nil=>simp
 | cons _ _=>simp
theorem L8:OpR X (binaryOp .Add) (Mb X.K):=by
 intro pins s σ H x y v u Q I rx ry h;obtain ⟨a,b,xs,ys,rfl,rfl,ha,hb,hx,hz,q1,q2⟩:=h;cases rx;cases ry;obtain ⟨its,r1,p1,_⟩:=I.tuple ha;obtain ⟨its2,r2,p2,_⟩:=I.tuple hb;refine HT.cat_tup p1 p2 (fun z=>hx (r1.nil_iff.mp z)) (fun z=>⟨.ref a,H,I,rfl,q1 (r2.nil_iff.mp z)⟩) (fun z=>?_) (by rw [<-r1.length,<-r2.length];exact hz);refine ⟨.ref s.heap.objs.size,_,I.laid (t':=s.toks) (o:=.tup (xs++ys)) (fun b ob q=>FT _ q) (FE _) ?_,rfl,q2 (fun w=>z (r2.nil_iff.mpr w)) _ (I.hok.fresh (FE _))⟩;exact ⟨by rw [FF];exact hz,_,r1.append r2,IsTup.new _ _⟩
end
def ixN (n:Nat)(i:Int):Option Nat:=if 0<=i then(if i<n then some i.toNat else none) else if -(n:Int)<=i then some (i+n).toNat else none
def atI (xs:List α)(i:Int):Option α:=(ixN xs.length i).bind λj=>xs[j]?
theorem Bk {i:Int}{j:Nat}(h:ixN n i=some j):seqIndex? i n=some j/\j<n/\-(n:Int)<=i/\i<n:=by
 unfold ixN at h;by_cases h0:0<=i
 ·rw[FD h0] at h;by_cases h1:i<n
  ·rw[FD h1] at h;have e:i.toNat=j:=FX h;exact⟨by rw[seqIndex_of h0 h1,e],by omega,by omega,h1⟩
  ·rw[FC h1] at h;cases h
 ·rw[FC h0] at h;by_cases h1:-(n:Int)<=i
  ·rw[FD h1] at h;have e:(i+n).toNat=j:=FX h;exact⟨by rw[seqIndex_neg (by omega) h1,e],by omega,h1,by omega⟩
  ·rw[FC h1] at h;cases h
theorem Vt {xs:List α}{i:Int}{v:α}(h:atI xs i=some v):∃j,seqIndex? i xs.length=some j/\xs[j]?=some v/\j<xs.length/\-(xs.length:Int)<=i/\i<xs.length:=by
 unfold atI at h;cases e:ixN xs.length i with
 | none=>rw[e] at h;cases h
 | some j=>
  rw[e] at h;obtain⟨h1,h2,h3,h4⟩:=Bk e;exact⟨j,h1,h,h2,h3,h4⟩
theorem QW {xs:List α}{j:Nat}{v:α}(h:xs[j]?=some v):atI xs (j:Int)=some v:=by
 have hj:j<xs.length:=(FZ.mp h).1;have e:ixN xs.length (j:Int)=some j:=by
  unfold ixN;rw[FD (by omega),FD (by omega)];simp
 unfold atI;rw[e];exact h
theorem Zf (xs:List α)(v:α):atI (xs++[v]) (-1)=some v:=by
 have hl:(xs++[v]).length=xs.length+1:=by simp
 have e:ixN (xs++[v]).length (-1)=some xs.length:=by
  unfold ixN;rw[hl,FC (by decide),FD (by omega)]
  congr 1
  omega
 unfold atI;rw[e];show(xs++[v])[xs.length]?=some v;simp
def BK (b:Expr):Prop:=∀o i,subscripted b false o i=operate [o,i] (getItem o i)
def IxR (X:Cx)(r:R2):Prop:=
 ∀(value slice:Expr) (pins:List (Addr×Obj)) (s:Shared) (σ:St) (H:Hp) (x y:V) (v u:Value) (Q:VK),Inv X pins σ H s->RelV x v->RelV y u->r x y H Q ->
  subscripted slice false v u=operate [v,u] (getItem v u)->wpAny (model X.prog X.w) X.A (subscriptTail value slice v u) (EP X pins σ Q) X.xe s
def MtR (X:Cx)(id:String)(r:V->List V->Hp->VK->Prop):Prop:=
 ∀(pins:List (Addr×Obj)) (s:Shared) (σ:St) (H:Hp) (x:V) (xs:List V) (v:Value) (us:List Value) (Q:VK),Inv X pins σ H s->RelV x v->Vals xs us->r x xs H Q ->
  wpAny (model X.prog X.w) X.A (call (.builtin id) (v::us)) (EP X pins σ Q) X.xe s
section
variable {X:Cx} {a b:Expr} {ta tb:TE} {pos:Pos}
theorem IxR.or {r r':R2}(h:IxR X r)(h':IxR X r'):IxR X (λx y H Q=>r x y H Q∨r' x y H Q):=by
 intro value slice pins s σ H x y v u Q I rx ry q hs;rcases q with q|q
 ·exact h value slice pins s σ H x y v u Q I rx ry q hs
 ·exact h' value slice pins s σ H x y v u Q I rx ry q hs
theorem Qp {r:R2}(hr:IxR X r)(ha:PE X a ta)(hb:PE X b tb)(hs:BK b):PE X (.Subscript a b pos) (tOp r ta tb):=by
 intro pins s σ H Q I h;exact Subscript_ (Ti ha hb I h λv u s2 x y H2 I2 rx ry q=>hr a b pins s2 σ H2 x y v u Q I2 rx ry q (hs _ _))
def SW (K:W.Frag):R2:=λx y H Q=>∃p xs i v,x=.ref p/\y=.int i/\SqL K H p xs/\atI xs i=some v/\Q v H
def SU (K:W.Frag):R2:=λx y H Q=>∃p xs i v,x=.ref p/\y=.int i/\SqT K H p xs/\atI xs i=some v/\Q v H
def SV:R2:=λx y H Q=>∃z i c,x=.str z/\y=.int i/\z.length<=sizeLine/\atI z.cps.toList i=some c/\Q (.str ⟨#[c]⟩) H
theorem ix_list:IxR X (SW X.K):=by
 intro value slice pins s σ H x y v u Q I rx ry h hs;obtain⟨p,xs,i,z,rfl,rfl,hq,he,q⟩:=h;cases rx;obtain⟨t,rfl⟩:=ry;obtain⟨its,r,pl,hz⟩:=I.list hq;obtain⟨j,h1,h2,h3,h4,h5⟩:=Vt he;obtain⟨w,ew,rw'⟩:=r.get h2;have hl:=r.length;have hn:=JE;have fin:EP X pins σ Q w s:=⟨z,H,I,rw',q⟩
 by_cases h0:0<=i
 ·have hj:i.toNat=j:=by
   rw[seqIndex_of h0 h5] at h1;exact FX h1
  exact item_listR pl.isList h0 (by omega) (by rw[hj];simpa using ew) fin hs
 ·have hj:(i+(its.toArray.size:Int)).toNat=j:=by
   rw[seqIndex_neg (by omega) h4] at h1;rw[FV,<-hl];exact FX h1
  exact subscriptTail_builtinR (x:=w) pl.isList.typeIs slot_list_getitem.lookup
   (wpAny_getItem_list_neg (Q:=λr s'=>r=w/\EP X pins σ Q r s') pl.isList (by omega) (by rw[FV]<;>omega) (by omega) (by rw[hj];simpa using ew) ⟨rfl,fin⟩) hs
theorem ix_tup:IxR X (SU X.K):=by
 intro value slice pins s σ H x y v u Q I rx ry h hs;obtain⟨p,xs,i,z,rfl,rfl,hq,he,q⟩:=h;cases rx;obtain⟨t,rfl⟩:=ry;obtain⟨its,r,pl,hz⟩:=I.tuple hq;obtain⟨j,h1,h2,h3,h4,h5⟩:=Vt he;obtain⟨w,ew,rw'⟩:=r.get h2;have hl:=r.length;have hn:=JE;have fin:EP X pins σ Q w s:=⟨z,H,I,rw',q⟩
 exact subscriptTail_builtinR (x:=w) pl.typeIs slot_tuple_getitem.lookup
  (getItem_tuple (j:=j) (Q:=λr s'=>r=w/\EP X pins σ Q r s') pl (by omega) (by omega) (by rw[FV,<-hl];exact h1) (by simpa using ew) ⟨rfl,fin⟩) hs
theorem PY:IxR X SV:=by
 intro value slice pins s σ H x y v u Q I rx ry h hs;obtain⟨z,i,c,rfl,rfl,hz,he,q⟩:=h;obtain⟨t,rfl⟩:=rx;obtain⟨t',rfl⟩:=ry;obtain⟨j,h1,h2,h3,h4,h5⟩:=Vt he;have hl:z.cps.toList.length=z.length:=by simp[Str.length]
 rw[hl] at h1 h4 h5;have hn:=JE;exact tail_any (typeIs_str s z t) slot_str_getitem.lookup (getItem_str (c:=c) (by
  have e1:decide (i < -(2 ^ 63:Int))=false:=F1 (by omega);have e2:decide (i≥2 ^ 63)=false:=F1 (by omega);rw[e1,e2,Bool.or_false]) (by rw[h1];simpa using h2) ⟨.str ⟨#[c]⟩,H,I.tok _,⟨_,rfl⟩,q⟩) hs
def rIx (K:W.Frag):R2:=λx y H Q=>SW K x y H Q∨SU K x y H Q∨SV x y H Q
theorem PZ:IxR X (rIx X.K):=ix_list.or (ix_tup.or PY)
theorem KN (lo hi:Option Int)(n:Nat):(sliceBounds lo hi none n).1=((HT.sIx n 0 lo:Nat):Int)/\(sliceBounds lo hi none n).2.1=((HT.sIx n n hi:Nat):Int)/\(sliceBounds lo hi none n).2.2=1:=by
 refine⟨?_,?_,rfl⟩
 ·cases lo with
  | none=>simp[sliceBounds,HT.sIx]
  | some i=>
   simp only[sliceBounds,HT.sIx,Option.getD_none,show(1:Int) > 0 by decide,if_true];by_cases h:i<0
   ·simp only[h,if_true]<;>omega
   ·simp only[h,if_false]<;>omega
 ·cases hi with
  | none=>simp[sliceBounds,HT.sIx]
  | some i=>
   simp only[sliceBounds,HT.sIx,Option.getD_none,show(1:Int) > 0 by decide,if_true];by_cases h:i<0
   ·simp only[h,if_true]<;>omega
   ·simp only[h,if_false]<;>omega
theorem JZ (its:List Value)(lo hi:Option Int):slicePick its.toArray lo hi none=((its.drop (HT.sIx its.length 0 lo)).take (HT.sIx its.length its.length hi-HT.sIx its.length 0 lo)).toArray:=by
 obtain⟨h1,h2,h3⟩:=KN lo hi its.toArray.size;unfold slicePick;rw[h1,h2,h3];simp only[sliceRange_one,pick_run,FV]<;>rfl
def Pc (K:W.Frag):V->Option Int->Option Int->Hp->VK->Prop:=λx lo hi H Q=>∃a xs,x=.ref a/\SqL K H a xs/\∀p,H p=none->Q (.ref p) (upd H p (.lst (X5 xs lo hi)))
theorem Lv:SlR X (Pc X.K):=by
 intro pins s σ H x v vl vu lo hi sl Q I rx hs pl pu h;obtain⟨a,xs,rfl,hx,q⟩:=h;cases rx;obtain⟨its,r,ht,hz⟩:=I.list hx;have hlen:=r.length;refine⟨"list",_,slot_list_getitem.lookup,ht.isList.typeIs,?_⟩;refine wpAny_getItem_list_slice ht.isList hs pl pu .none (by simp) ?_ (by rw[FV]<;>omega);rw[JZ,<-hlen];refine⟨.ref s.heap.objs.size,_,I.laid (t':=s.toks) (o:=.lst (X5 xs lo hi)) (λb ob q=>FT _ q) (FE _) ?_,rfl,q _ (I.hok.fresh (FE _))⟩;exact⟨F2 (W1 xs lo hi) hz,_,0,(r.drop (HT.sIx xs.length 0 lo)).take (HT.sIx xs.length xs.length hi-HT.sIx xs.length 0 lo),Ee _ rfl⟩
def Wl:V->Bool
 | .non=>true
 | .bl _=>true
 | .int _=>true
 | .str _=>true
 | _=>false
def eqV:V->V->Bool
 | .non,.non=>true
 | .bl a,.bl b=>a==b
 | .bl a,.int b=>(if a then 1 else 0)==b
 | .int a,.bl b=>a==(if b then 1 else 0)
 | .int a,.int b=>a==b
 | .str a,.str b=>a==b
 | _,_=>false
theorem Tc {x:V}{v:Value}(ry:RelV y u)(rx:RelV x v)(fy:Wl y=true)(fx:Wl x=true):SeqAt.EqAt A s u v (eqV y x):=by
 cases y with
 | non=>
  cases ry;cases x with
  | non=>cases rx;exact SeqAt.EqAt.same _
  | bl b=>cases rx;exact SeqAt.EqAt.none_bool b
  | int b=>obtain⟨t,rfl⟩:=rx;exact SeqAt.EqAt.none_int b t
  | str b=>obtain⟨t,rfl⟩:=rx;exact SeqAt.EqAt.none_str b t
  | _=>exact absurd (show false=true from fx) F4
 | bl a=>
  cases ry;cases x with
  | non=>cases rx;exact SeqAt.EqAt.bool_none a
  | bl b=>cases rx;exact SeqAt.EqAt.bool_bool a b
  | int b=>obtain⟨t,rfl⟩:=rx;exact SeqAt.EqAt.bool_int a b t
  | str b=>obtain⟨t,rfl⟩:=rx;exact SeqAt.EqAt.bool_str a b t
  | _=>exact absurd (show false=true from fx) F4
 | int a=>
  obtain⟨t',rfl⟩:=ry;cases x with
  | non=>cases rx;exact SeqAt.EqAt.int_none a t'
  | bl b=>cases rx;exact SeqAt.EqAt.int_bool a t' b
  | int b=>obtain⟨t,rfl⟩:=rx;exact SeqAt.EqAt.int_int a t' b t
  | str b=>obtain⟨t,rfl⟩:=rx;exact SeqAt.EqAt.int_str a t' b t
  | _=>exact absurd (show false=true from fx) F4
 | str a=>
  obtain⟨t',rfl⟩:=ry;cases x with
  | non=>cases rx;exact SeqAt.EqAt.str_none a t'
  | bl b=>cases rx;exact SeqAt.EqAt.str_bool a t' b
  | int b=>obtain⟨t,rfl⟩:=rx;exact SeqAt.EqAt.str_int a t' b t
  | str b=>obtain⟨t,rfl⟩:=rx;exact SeqAt.EqAt.str_str a t' b t
  | _=>exact absurd (show false=true from fx) F4
 | _=>exact absurd (show false=true from fy) F4
def eqU (x:V)(u:Value):Bool:=match u with
 | .none=>eqV .non x
 | .bool b=>eqV (.bl b) x
 | .int i _=>eqV (.int i) x
 | .str z _=>eqV (.str z) x
 | _=>false
theorem MU {x:V}(r:RelV y u)(f:Wl y=true):eqU x u=eqV y x:=by
 cases y with
 | non=>cases r;rfl
 | bl b=>cases r;rfl
 | int i=>obtain⟨t,rfl⟩:=r;rfl
 | str z=>obtain⟨t,rfl⟩:=r;rfl
 | _=>exact absurd (show false=true from f) F4
theorem Ws {x:V}:∀{xs:List V}{us:List Value},Vals xs us->xs.all Wl=true->us.any (eqU x)=xs.any λy=>eqV y x
 | _,_,.nil,_=>rfl
 | y::xs,u::us,.cons r t,f=>by
  rw[List.all_cons,Ew] at f;rw[List.any_cons,List.any_cons,MU r f.1,Ws t f.2]
theorem Yu {A:Around}{s:Shared}{x:V}{v:Value}(rx:RelV x v)(fx:Wl x=true):∀{xs:List V}{us:List Value},Vals xs us->xs.all Wl=true->∀u∈us,SeqAt.EqAt A s u v (eqU x u)
 | _,_,.nil,_=>λu hu=>by cases hu
 | y::xs,u::us,.cons r t,f=>λu' hu=>by
  rw[List.all_cons,Ew] at f;rcases FP.mp hu with rfl|hu
  ·rw[MU r f.1];exact Tc r rx f.1 fx
  ·exact Yu rx fx t f.2 u' hu
def inV (x:V)(xs:List V):Bool:=xs.any λy=>eqV y x
def rIn (K:W.Frag)(neg:Bool):R2:=λx y H Q=>∃p xs,y=.ref p/\(SqL K H p xs∨SqT K H p xs)/\Wl x=true/\xs.all Wl=true/\Q (.bl (if neg then !inV x xs else inV x xs)) H
theorem op_in_seq:OpR X (compareOp .In) (rIn X.K false):=by
 intro pins s σ H x y v u Q I rx ry h;obtain⟨p,xs,rfl,hq,fx,fs,q⟩:=h;cases ry;rcases hq with hq|hq
 ·obtain⟨its,r,pl,hz⟩:=I.list hq;refine SeqAt.in_listAt (eqU x) pl.isList (λw hw=>Yu rx fx r fs w (by simpa using hw)) ⟨.bl _,H,I,rfl,?_⟩;rw[show its.toArray.any (eqU x)=its.any (eqU x) by simp,Ws r fs];exact q
 ·obtain⟨its,r,pl,hz⟩:=I.tuple hq;refine SeqAt.in_tupleAt (eqU x) pl (λw hw=>Yu rx fx r fs w (by simpa using hw)) ⟨.bl _,H,I,rfl,?_⟩;rw[show its.toArray.any (eqU x)=its.any (eqU x) by simp,Ws r fs];exact q
theorem op_notIn_seq:OpR X (compareOp .NotIn) (rIn X.K true):=by
 intro pins s σ H x y v u Q I rx ry h;obtain⟨p,xs,rfl,hq,fx,fs,q⟩:=h;cases ry;rcases hq with hq|hq
 ·obtain⟨its,r,pl,hz⟩:=I.list hq;refine SeqAt.notIn_listAt (eqU x) pl.isList (λw hw=>Yu rx fx r fs w (by simpa using hw)) ⟨.bl _,H,I,rfl,?_⟩;rw[show its.toArray.any (eqU x)=its.any (eqU x) by simp,Ws r fs];exact q
 ·obtain⟨its,r,pl,hz⟩:=I.tuple hq;refine SeqAt.notIn_tupleAt (eqU x) pl (λw hw=>Yu rx fx r fs w (by simpa using hw)) ⟨.bl _,H,I,rfl,?_⟩;rw[show its.toArray.any (eqU x)=its.any (eqU x) by simp,Ws r fs];exact q
theorem CallR.or {f:Value}{r r':List V->Hp->VK->Prop}(h:CallR X f r)(h':CallR X f r'):CallR X f (λxs H Q=>r xs H Q∨r' xs H Q):=by
 intro pins s σ H xs us Q I rs q;rcases q with q|q
 ·exact h pins s σ H xs us Q I rs q
 ·exact h' pins s σ H xs us Q I rs q
theorem Vs:CallR X (.type "list") (λxs H Q=>∃p ys,xs=[.ref p]/\(SqL X.K H p ys∨SqT X.K H p ys)/\∀l,H l=none->Q (.ref l) (upd H l (.lst ys))):=by
 intro pins s σ H xs us Q I r h;obtain⟨p,ys,rfl,hq,q⟩:=h;obtain⟨u,rfl,rx⟩:=Xj r;cases rx;have fin:∀(its:List Value),Vals ys its->ys.length<=sizeLine->∀(h':Heap) (c':Nat),(∀b o',s.heap.get? b=some o'->h'.get? b=some o') ->
   h'.get? s.heap.objs.size=some { cls:=.type "list",dict:=none,data:=.seq its.toArray c',slots:=#[] }->EP X pins σ Q (.ref s.heap.objs.size) { s with heap:=h' }:=λits r' hz h' c' kp e=>
  ⟨.ref s.heap.objs.size,_,I.laid (t':=s.toks) kp (FE _) (show ObjOk X.prog X.w _ h' _ (.lst ys) from⟨hz,its,c',r',e⟩),rfl,q _ (I.hok.fresh (FE _))⟩
 rcases hq with hq|hq
 ·obtain⟨its,r',pl,hz⟩:=I.list hq;have hlen:=r'.length;obtain⟨o,ho,hc,n,hd⟩:=pl.isList;exact call_list_seq p (.inl rfl) ho hc hd (λh' c' kp e=>fin its r' hz h' c' kp e) (by simp only[FV]<;>omega)
 ·obtain⟨its,r',pl,hz⟩:=I.tuple hq;have hlen:=r'.length;obtain⟨o,ho,hc,n,hd⟩:=pl;exact call_list_seq p (.inr rfl) ho hc hd (λh' c' kp e=>fin its r' hz h' c' kp e) (by simp only[FV]<;>omega)
theorem Ke:CallR X (.type "tuple") (λxs H Q=>∃p ys,xs=[.ref p]/\((SqL X.K H p ys/\∀l,H l=none->Q (.ref l) (upd H l (.tup ys)))∨(SqT X.K H p ys/\Q (.ref p) H))):=by
 intro pins s σ H xs us Q I r h;obtain⟨p,ys,rfl,h⟩:=h;obtain⟨u,rfl,rx⟩:=Xj r;cases rx;rcases h with ⟨hq,q⟩|⟨hq,q⟩
 ·obtain⟨its,r',pl,hz⟩:=I.list hq;have hlen:=r'.length;refine call_tuple_list pl.isList (λh' kp=>?_) (by simp only[FV]<;>omega);have I1:Inv X pins σ H { s with heap:=h' }:=I.kept (t':=s.toks) kp;have I2:Inv X pins σ (upd H h'.objs.size (.tup ys)) { s with heap:=h'.push { cls:=.type "tuple",data:=.seq its.toArray } }:=
   I1.laid (t':=s.toks) (λb o e=>FT _ e) (FE _) (show ObjOk X.prog X.w _ _ _ (.tup ys) from⟨hz,its,r',IsTup.new _ _⟩)
  exact⟨.ref h'.objs.size,_,I2,rfl,q _ (I1.hok.fresh (FE _))⟩
 ·obtain⟨its,r',pl,hz⟩:=I.tuple hq;exact call_tuple_same pl ⟨.ref p,H,I,rfl,q⟩
def tyV (K:W.Frag)(T:String)(x:V)(H:Hp):Prop:=match x with
 | .str _=>T="str"
 | .int _=>T="int"
 | .ref p=>(T="list"/\∃xs,SqL K H p xs)∨(T="tuple"/\∃o,K.lookup p=some o/\o.cls=.type "tuple"/\o.dict=none) ∨
   (T="dict"/\((∃kvs,H p=some (.dK kvs))∨∃kvs,H p=some (.dT kvs)))∨(T="set"/\∃S n,H p=some (.set S n))
 | _=>False
theorem NV {x:V}{v:Value}(I:Inv X pins σ H s)(r:RelV x v)(ty:tyV X.K T x H) :
  s.TypeIs v T/\∀a,v=.ref a->∃ob,s.heap.get? a=some ob/\ob.dict=none:=by
 cases x with
 | str z=>
  obtain⟨t,rfl⟩:=r;cases(show T="str" from ty);exact⟨typeIs_str s z t,λ_ e=>nomatch e⟩
 | int i=>
  obtain⟨t,rfl⟩:=r;cases(show T="int" from ty);exact⟨typeIs_int s i t,λ_ e=>nomatch e⟩
 | ref p=>
  cases r;rcases ty with ⟨rfl,xs,hq⟩|⟨rfl,o,hk,hc,hd⟩|⟨rfl,hk⟩|⟨rfl,S,n,hk⟩
  ·obtain⟨its,_,pl,_⟩:=I.list hq;refine⟨pl.isList.typeIs,λa e=>?_⟩;cases e;obtain⟨o,n,e,c,hd,_⟩:=pl;exact⟨o,e,hd⟩
  ·refine⟨⟨o,I.kIn p o hk,hc⟩,λa e=>?_⟩;cases e;exact⟨o,I.kIn _ o hk,hd⟩
  ·have z:∃o,s.heap.get? p=some o/\o.ExactDict:=by
    rcases hk with ⟨kvs,hk⟩|⟨kvs,hk⟩
    ·obtain⟨_,_,_,_,o,_,_,e,ex,_⟩:=I.hok p _ hk;exact⟨o,e,ex⟩
    ·obtain⟨_,_,_,_,o,_,_,e,ex,_⟩:=I.hok p _ hk;exact⟨o,e,ex⟩
   obtain⟨o,e,ex⟩:=z;refine⟨⟨o,e,ex.1⟩,λa e2=>?_⟩;cases e2;exact⟨o,e,ex.2.1⟩
  ·obtain⟨o,_,_,_,e,ex,_⟩:=I.hok p _ hk;refine⟨⟨o,e,ex.1⟩,λa e2=>?_⟩;cases e2;exact⟨o,e,ex.2.1⟩
 | _=>exact False.elim ty
def RT (K:W.Frag)(T:String)(r:V->List V->Hp->VK->Prop)(to:TE):TE:=λσ H Q=>to σ H λx H1=>tyV K T x H1/\r x [] H1 Q
def tBM (K:W.Frag)(T:String)(r:V->List V->Hp->VK->Prop)(to:TE)(t:TA):TE:=λσ H Q=>to σ H λx H1=>tyV K T x H1/\t σ H1 λxs H2=>r x xs H2 Q
variable {o e:Expr} {es:List Expr} {to:TE} {t:TA} {name:Str} {apos cpos:Pos} {T id:String} {r:V->List V->Hp->VK->Prop}
theorem Pp (pa:PlainAttrs T)(slot:Slot T name id)(hty:typeOf (.builtin id)=pure (.type "method_descriptor"))(hm:MtR X id r)(ho:PE X o to)
  (hbase:attributeBase o name X.env (eval o X.env)=eval o X.env:=by rfl) (hline:(apos.endLine==cpos.line)=true:=by rfl):PE X (.Call (.Attribute o name apos) [] [] cpos) (RT X.K T r to):=by
 intro pins s σ H Q I h;refine wpAny_Call_method0_late hbase hline (thn (ho pins s σ H _ I h) λv s1 ⟨x,H1,I1,r1,ty,q1⟩=>?_);obtain⟨h1,h2⟩:=NV I1 r1 ty;exact⟨T,id,pa,slot,hty,h1,h2,Calls.callWith_builtin rfl (PySem.evalArgs_none (hm pins s1 σ H1 x [] v [] Q I1 r1 .nil q1))⟩
theorem Hg (pa:PlainAttrs T)(slot:Slot T name id)(hty:typeOf (.builtin id)=pure (.type "method_descriptor"))(hm:MtR X id r)(ho:PE X o to)(ha:PA X (e::es) t)
  (hbase:attributeBase o name X.env (eval o X.env)=eval o X.env:=by rfl)
  (hfew:((backTo cpos (starEach (e::es) X.env)).all (λx=>!x.1)&&(backToKw cpos (keywordEach [] X.env)).all (λx=>x.1.isSome)
   && decide ((e::es).length+([]:List Keyword).length+(if([]:List Keyword).isEmpty then 0 else 1)<30))=true:=by rfl)
  (hline:(apos.endLine==cpos.line)=true:=by rfl) (hs:starEach (e::es) X.env=(false,eval e X.env)::starEach es X.env:=by rfl) (hplain:(backTo cpos (starEach es X.env)).any (·.1)=false:=by rfl) :
  PE X (.Call (.Attribute o name apos) (e::es) [] cpos) (tBM X.K T r to t):=by
 intro pins s σ H Q I h;refine wpAny_Call_method_late hbase hfew hline rfl (thn (ho pins s σ H _ I h) λv s1 ⟨x,H1,I1,r1,ty,q1⟩=>?_);obtain⟨h1,h2⟩:=NV I1 r1 ty;refine⟨T,id,pa,slot,hty,h1,h2,?_⟩;have hA:=ha cpos pins s1 σ H1 _ I1 q1;rw[hs] at hA ⊢;refine Calls.callWith_builtin (by show(false||(backTo cpos (starEach es X.env)).any (·.1))=false;rw[hplain]<;>rfl) (Calls.evalArgs_plain ?_);exact thn hA λus s2 ⟨vs,H2,I2,r2,q2⟩=>hm pins s2 σ H2 x vs v us Q I2 r1 r2 q2
end
def MtM (X:Cx)(id:String)(r:V->List V->Hp->VK->Prop):Prop:=
 ∀(pins:List (Addr×Obj)) (s:Shared) (σ:St) (H:Hp) (x:V) (xs:List V) (v:Value) (us:List Value) (Q:VK),Inv X pins σ H s->RelV x v->Vals xs us->r x xs H Q ->
  wpAny (model X.prog X.w) X.A (call (.builtin id) (v::us)) (EP X pins σ Q) X.xe s
theorem Vals.one:∀{x:V}{us:List Value},Vals [x] us->∃u,us=[u]/\RelV x u
 | _,_,.cons r .nil=>⟨_,rfl,r⟩
theorem Vals.zero:∀{us:List Value},Vals [] us->us=[]
 | _,.nil=>rfl
theorem Vals.dropLast (h:Vals xs us):Vals xs.dropLast us.dropLast:=by
 induction h with
 | nil=>exact .nil
 | cons r t ih=>
  cases t with
  | nil=>exact .nil
  | cons q t'=>exact .cons r ih
theorem U4 (l:List α):l.eraseIdx (l.length-1)=l.dropLast:=by
 induction l with
 | nil=>rfl
 | cons a r ih=>
  cases r with
  | nil=>rfl
  | cons b r=>
   have e:(a::b::r).length-1=((b::r).length-1)+1:=by
    have h1:(a::b::r).length=r.length+2:=rfl;have h2:(b::r).length=r.length+1:=rfl;omega
   rw[e,List.eraseIdx_cons_succ,ih];all_goals rfl
section
variable {X:Cx} {pins:List (Addr×Obj)} {σ:St} {H:Hp} {s:Shared} {l b:Addr} {xs ys zs:List V}
theorem Inv.lset {its':List Value}{f:Array Value->Array Value}(I:Inv X pins σ H s)(hH:H l=some (.lst xs))
  (e:s.heap.get? l=some { cls:=.type "list",data:=.seq its.toArray n }) (hf:f its.toArray=its'.toArray) (hv:Vals ys its') (hz:ys.length<=sizeLine) :
  Inv X pins σ (upd H l (.lst ys)) { s with heap:=s.heap.update l (Obj.mapSeq f),toks:=t' }:=by
 have q:=PySem.IsL.update e f;rw[hf] at q;refine I.write (x:=l) (e:=l) (by rw[hH];exact trivial) (.inl rfl) (λb' u hb hu=>(Heap.get?_update_other s.heap (Obj.mapSeq f) (Ey hb)).trans hu) ⟨_,q⟩ ?_;exact⟨hz,its',_,hv,q⟩
theorem Inv.lnew (I:Inv X pins σ H s)(hv:Vals ys its)(hz:ys.length<=sizeLine) :
  Inv X pins σ (upd H s.heap.objs.size (.lst ys)) { s with heap:=s.heap.push { cls:=.type "list",data:=.seq its.toArray },toks:=t' }:=
 I.laid (λ_ _ q=>FT _ q) (FE _) ⟨hz,its,0,hv,Ee _ rfl⟩
theorem Inv.fresh (I:Inv X pins σ H s):H s.heap.objs.size=none:=I.hok.fresh (FE _)
theorem Inv.lstM (I:Inv X pins σ H s)(hH:H l=some (.lst xs)):xs.length<=sizeLine/\∃(its:List Value) (n:Nat),Vals xs its/\xs.length=its.length/\s.heap.get? l=some { cls:=.type "list",data:=.seq its.toArray n }:=by
 obtain⟨z,its,n,r,e⟩:=I.hok l _ hH;exact⟨z,its,n,r,r.length,e⟩
theorem Mv (h:n<=sizeLine):Builtin.List.listTooLong n=false:=by
 unfold Builtin.List.listTooLong;exact F1 (by omega)
end
section
variable {X:Cx}
def LH:V->List V->Hp->VK->Prop:=λx vs H Q=>∃l xs y,x=.ref l/\vs=[y]/\H l=some (.lst xs)/\xs.length<sizeLine/\Q .non (upd H l (.lst (xs++[y])))
theorem QK:MtM X "list.append" LH:=by
 intro pins s σ H x vs v us Q I rx rv h;obtain⟨l,xs,y,rfl,rfl,hH,hz,q⟩:=h;cases rx;obtain⟨u,rfl,ru⟩:=rv.one;obtain⟨z,its,n,r,hl,e⟩:=I.lstM hH;refine call_meets F.slot_list_append ⟨_,e,rfl⟩ F.entry_list_append (F.args_list_append_2 _ _) (PySem.list_append l its.toArray n u (by rw[FV];omega)) ⟨e,?_⟩;refine⟨.non,_,I.lset (its':=its++[u]) hH e (by simp) (r.append (.cons ru .nil)) ?_,rfl,q⟩;rw[FF,FK];omega
def LF:V->List V->Hp->VK->Prop:=λx vs H Q=>∃l b xs zs,x=.ref l/\vs=[.ref b]/\H l=some (.lst xs)/\H b=some (.lst zs)/\xs.length+zs.length<=sizeLine/\Q .non (upd H l (.lst (xs++zs)))
theorem Ko:MtM X "list.extend" LF:=by
 intro pins s σ H x vs v us Q I rx rv h;obtain⟨l,b,xs,zs,rfl,rfl,hH,hB,hz,q⟩:=h;cases rx;obtain⟨u,rfl,ru⟩:=rv.one;cases ru;obtain⟨z,its,n,r,hl,e⟩:=I.lstM hH;obtain⟨z2,its2,n2,r2,hl2,e2⟩:=I.lstM hB;have hsz:its.toArray.size+its2.toArray.size<=sizeLine:=by rw[FV,FV];omega
 have hlong:¬(!its.toArray.isEmpty&&Builtin.List.listTooLong (its.toArray.size+its2.toArray.size))=true:=by
  rw[Mv hsz,EM];exact F4
 refine call_meets F.slot_list_extend ⟨_,e,rfl⟩ F.entry_list_extend (F.args_list_extend_2 _ _)
  (AutoSeq1.list_extend_list_list_0 l its.toArray n b its2.toArray n2 hlong (by rw[FV];omega) (by omega)) ⟨e,e2,?_⟩
 refine⟨.non,_,I.lset (its':=its++its2) hH e (by simp) (r.append r2) ?_,rfl,q⟩;rw[FF];omega
def HX:V->List V->Hp->VK->Prop:=λx vs H Q=>∃l xs y,x=.ref l/\vs=[]/\H l=some (.lst xs)/\xs[xs.length-1]?=some y/\Q y (upd H l (.lst xs.dropLast))
theorem Fd:MtM X "list.pop" HX:=by
 intro pins s σ H x vs v us Q I rx rv h;obtain⟨l,xs,y,rfl,rfl,hH,hy,q⟩:=h;cases rx;have hus:=rv.zero;subst hus;obtain⟨z,its,n,r,hl,e⟩:=I.lstM hH;obtain⟨u,hu,ru⟩:=r.get hy;have hy':its.toArray[its.toArray.size-1]?=some u:=by
  show its.toArray[its.length-1]?=some u;rw [<-Array.getElem?_toList,<-hl];exact hu
 refine call_meets F.slot_list_pop ⟨_,e,rfl⟩ F.entry_list_pop (F.args_list_pop_1 _) (MeetsSeq.list_pop_last l its.toArray n u hy' (by rw[FV];omega)) ⟨e,?_⟩;refine⟨y,_,I.lset (its':=its.dropLast) hH e ?_ r.dropLast ?_,ru,q⟩
 ·show its.toArray.eraseIdxIfInBounds (its.toArray.size-1)=its.dropLast.toArray;rw[FV,List.eraseIdxIfInBounds_toArray,U4]
 ·rw[List.length_dropLast];omega
def Pf:V->List V->Hp->VK->Prop:=λx vs H Q=>∃l xs,x=.ref l/\vs=[]/\H l=some (.lst xs)/\Q .non (upd H l (.lst []))
theorem MA:MtM X "list.clear" Pf:=by
 intro pins s σ H x vs v us Q I rx rv h;obtain⟨l,xs,rfl,rfl,hH,q⟩:=h;cases rx;have hus:=rv.zero;subst hus;obtain⟨z,its,n,r,hl,e⟩:=I.lstM hH;refine call_meets F.slot_list_clear ⟨_,e,rfl⟩ F.entry_list_clear (F.args_list_clear_1 _) (AutoSeq1.list_clear_list_0 l its.toArray n (by rw[FV];omega)) ⟨e,?_⟩;exact⟨.non,_,I.lset (its':=[]) (ys:=[]) hH e rfl .nil (F7 _),rfl,q⟩
def Pg:R2:=λx y H Q=>∃l b xs zs,x=.ref l/\y=.ref b/\H l=some (.lst xs)/\H b=some (.lst zs)/\xs.length+zs.length<=sizeLine/\∀p,H p=none->Q (.ref p) (upd H p (.lst (xs++zs)))
theorem PD:OpR X (binaryOp .Add) Pg:=by
 intro pins s σ H x y v u Q I rx ry h;obtain⟨l,b,xs,zs,rfl,rfl,hH,hB,hz,q⟩:=h;cases rx;cases ry;obtain⟨z,its,n,r,hl,e⟩:=I.lstM hH;obtain⟨z2,its2,n2,r2,hl2,e2⟩:=I.lstM hB;refine PySem.P.add_list e e2 ?_ (by rw[FV,FV];omega);have ea:its.toArray++its2.toArray=(its++its2).toArray:=by simp
 rw[ea];exact⟨.ref _,_,I.lnew (t':=s.toks) (r.append r2) (by rw[FF];omega),rfl,q _ I.fresh⟩
end
end L2
namespace Att
open PySem PySem.W PySem.Calls PyProof.Rows
theorem W7 {P:Params}{h:Heap}:∀(ns:List Int) (vs:List Value),WellAll P h vs (ns.map WData.int)->IntsAre vs ns:=by
 intro ns
 induction ns with
 | nil=>
  intro vs w;rw[List.map_nil] at w;cases w;exact .nil
 | cons n ns ih=>
  intro vs w;rw[El] at w;cases w with
  | cons a b=>
   cases a;exact .cons _ _ (ih _ b)
theorem GX {l:OpenLaw}(hn:l.most=some n){P:Params}{h:Heap}{args:List WData}{vals:List Value}
  (hpre:l.row.toRowW.claim.pre args=true) (hwl:WellAll P h vals args) :
  ∃a vs ns,vals=[Value.ref a]/\args=[WData.list (ns.map WData.int)]/\h.get? a=some { cls:=.type "list",data:=.seq vs.toArray }/\IntsAre vs ns/\ns.length<=n:=by
 have hsh:WShape.hasAll [] args [.list .int]=true:=(pre_splitW hpre).1;have hc:l.pre.holds [] { args:=args }=true:=(pre_splitW hpre).2;obtain⟨d,r,rfl,h1,h2⟩:=hasAllW_cons hsh;obtain rfl:=hasAllW_nil h2;obtain⟨xs,rfl,h3⟩:=hasW_list h1;obtain⟨ns,rfl⟩:=items_int h3;have hlen:ns.length<=n:=by
  unfold OpenLaw.pre at hc;have h4:(WTm.not (.lt (.lit (.int (n:Int))) (.len (.arg 0)))).holds [] { args:=[.list (ns.map .int)] }=true:=by
   have h4:=(holds_andW hc).1;rw[hn] at h4;exact h4
  have h5:=condW_of h4 (w_not (w_lt w_lit (w_len_list (w_arg rfl))));rw[FH] at h5;refine Nat.le_of_not_lt λq=>?_
  have q':(n:Int)<((ns.length:Nat):Int):=by omega
  first
   | (rw[Ef q'] at h5;exact absurd h5 (by decide))
   | (simp at h5;omega)
 cases hwl with
 | cons w1 w2=>
  cases w2;cases w1 with
  | list ho hall=>exact⟨_,_,ns,rfl,rfl,ho,W7 ns _ hall,hlen⟩
theorem G3 (l:OpenLaw)(args:List WData):l.row.toRowW.claim.post args (.bool true) args=true:=
 postW_of (r:=l.row.toRowW) (X:=(true==true))
  (show WShape.has [] (.bool true) .bool=true by first|rfl|decide|simp[WShape.has,WShape.arms,WShape.armsAll])
  (show(WTm.eq .res (.lit (.bool true))).value [] { args:=args,res:=some (.bool true),after:=args }=some (.bool (true==true)) from w_eq_bool (w_res rfl) w_lit) rfl
theorem attach_call {l:OpenLaw}{q:Program}{d:DefRec} 
  (hn:l.most=some n) (hdf:d.params.defaults=[])
  (call:∀(w:World) (s₀ s₁:Shared) (mg mb:Str->Option Value) (fa:Addr) (o:Obj) (pm cd doc:Value) (a:Addr) (vs:List Value) (ns:List Int),
   Ground q loose [] XP w s₀ mg mb s₁.heap->YP w s₁.heap ->
   s₁.heap.get? fa=some o->o.data=.func (docDef d.name d.params d.body d.scope pm cd doc)->s₁.heap.CodeRec cd d.name->mg d.name=some (.ref fa) ->
   s₁.heap.get? a=some { cls:=.type "list",data:=.seq vs.toArray }->IntsAre vs ns->ns.length<=n->s₁.gens=#[] ->
   codeAny (model l.prog w) callerA (.call (.ref fa) ⟨[.ref a],[]⟩) (λr s'=>r=.ok (.ret (.bool true))/\OldK s₁.heap s'.heap/\s'.os=s₁.os/\AllBare s'.gens) s₁) :
  WalkO q loose XP YP l.row.toRowW d [] (λf vs=>PySem.call f vs):=by
 intro w s₀ s₁ mg mb G Y fa o pm cd doc dV kV ho hd hcd hD hmg hg args vals as hpre hlay hrd hwl hlo;obtain rfl:dV=.none:=Dflts.none hD hdf;obtain rfl:kV=.none:=Dflts.noKw hD;obtain⟨a,vs,ns,rfl,rfl,hobj,hints,hlen⟩:=GX hn hpre hwl;refine enter_call (EK (call w s₀ s₁ mg mb fa o pm cd doc a vs ns G Y ho (fd_plain hd) hcd hmg hobj hints hlen hg) λr s' hq=>?_);obtain⟨rfl,h2,h3,h4⟩:=hq;exact⟨.inl ⟨.bool true,.bool true,[],rfl,λ_=>rfl,.bool true,G3 l _,λ_=>⟨List.Pairwise.nil,λ_ hm=>(nomatch hm)⟩⟩,h2,h3,h4⟩
end Att
namespace L2
open PySem PySem.Spec PyProof.Rows
theorem Kf:∀{vs:List Value}{ns:List Int},IntsAre vs ns->Vals (ns.map V.int) vs
 | _,_,.nil=>.nil
 | _,_,.cons n t h=>.cons ⟨t,rfl⟩ (Kf h)
def BL (H:Hp):Prop:=∀b,H b=none∨∃o xs,H b=some (.frz o (.lst xs))
theorem MF {mb:Str->Option Value}{k:Nat}{fa a:Addr}{sp:Sp}{s₁:Shared}{vs:List Value}{ns:List Int} 
  (KX:K.In s₁.heap) (hns:s₁.heap.Ns mainGlobals mg) (hb:s₁.heap.Ns builtinsNs mb) (hbb:∀x:Str,x≠"__name__"->mb x=bootBuiltins x) (hlim:s₁.heap.NoLimit) (hg:s₁.gens=#[])
  (ha:s₁.heap.get? a=some { cls:=.type "list",data:=.seq vs.toArray }) (hi:IntsAre vs ns) (hl:ns.length<=sizeLine) (hr:Room k callerA)
  (F:∀base:Heap,K.In base->base.Ns mainGlobals mg->FnOk P w K mg base CX k fa fd [x] sp) (hbind:∀(s:Shared) (u:Value),BindsTo s fd ⟨[u],[]⟩ [(x,u)])
  (hsp:∀H:Hp,BL H->SqL K H a (ns.map V.int)->sp [.ref a] H (λv _=>v=.bl true) λ_ _ _=>False)
  (hCX:∀H e s',CX [] H s₁ (λ_ _ _=>False) e s'->False) :
  codeAny (model P w) callerA (.call (.ref fa) ⟨[.ref a],[]⟩) (λr s'=>r=.ok (.ret (.bool true))/\OldK s₁.heap s'.heap/\s'.os=s₁.os/\AllBare s'.gens) s₁:=by
 have rv:=Kf hi;have lenV:=hi.length;have core:∀H:Hp,BL H->SqL K H a (ns.map V.int)->HOk P w H s₁.heap->(∀b,H b≠none->b=a)->(H a≠none->K.lookup a=none) ->
   codeAny (model P w) callerA (.call (.ref fa) ⟨[.ref a],[]⟩) (λr s'=>r=.ok (.ret (.bool true))/\OldK s₁.heap s'.heap/\s'.os=s₁.os/\AllBare s'.gens) s₁:=by
  intro H hO hS hok hA hK;have base_of:∀{b:Addr} {o:Obj},s₁.heap.get? b=some o->H b=none->(Vk s₁.heap H).get? b=some o:=λe n=>MK e n
  have noA:∀{b:Addr} {o:Obj} {es:Array DictEntry} {ep:Nat},s₁.heap.get? b=some o->o.data=.dict es ep->H b=none:=λ{b o es ep} e d=>by
   cases q:H b with
   | none=>rfl
   | some u=>
    have e':b=a:=hA b (by rw[q];simp);subst e';rw[ha] at e;cases e;have d':Data.seq vs.toArray _=Data.dict es ep:=d;cases d'
  have nsK:∀{b:Addr} {m:Str->Option Value},s₁.heap.Ns b m->(Vk s₁.heap H).Ns b m:=λ{b m} ⟨o,es,ep,e,d,r⟩=>⟨o,es,ep,base_of e (noA e d),d,r⟩
  have hKb:K.In (Vk s₁.heap H):=λb o e=>base_of (KX b o e) (by
   cases q:H b with
   | none=>rfl
   | some u=>
    have e':b=a:=hA b (by rw[q];simp);subst e';rw[hK (by rw[q];simp)] at e;cases e)
  have hM:Mod K mg (Vk s₁.heap H):=⟨hKb,nsK hns,⟨mb,nsK hb,hbb⟩,let ⟨mc,h1,h2⟩:=hlim;⟨mc,nsK h1,h2⟩⟩
  have e0:Env0 P w K mg (Vk s₁.heap H) callerA [] s₁ H:=⟨rfl,hM,λb o e=>Bb e,Nat.le_of_eq (Nt _ _),trivial,λb hb=>absurd (show b∈([]:List Addr) from hb) (by simp),hok,.of_eq hg⟩
  refine EK ((F _ hKb (nsK hns)).run callerA [] s₁ H ⟨[.ref a],[]⟩ [.ref a] [.ref a] _ _ hr e0 (hbind s₁ (.ref a)) (.cons rfl .nil) (hsp H hO hS)) λr s' h=>?_
  cases r with
  | error e=>exact(hCX H e s' h).elim
  | ok fl=>
   cases fl with
   | next=>exact False.elim h
   | brk=>exact False.elim h
   | cont=>exact False.elim h
   | ret u=>
    obtain⟨v,H',os,bare,un,hok',r',q⟩:=h;have q':v=.bl true:=q;subst q';obtain rfl:u=Value.bool true:=r';refine⟨rfl,OldK.of_keep λb o e=>?_,os,bare⟩;cases q:H b with
    | none=>exact un.keep b o e q (by intro z;exact absurd (show b∈([]:List Addr) from z) (by simp)) (by simp)
    | some u=>
     rcases hO b with z|⟨ob,xs,z⟩
     ·rw[q] at z;cases z
     ·have z2:=un.frzs b ob _ z;obtain⟨e1,_⟩:=hok b _ z;obtain⟨e2,_⟩:=hok' b _ z2;rw[e] at e1;cases e1;exact e2
 cases hk:K.lookup a with
 | some o=>
  have e:=KX a o hk;rw[ha] at e;cases e;refine core (λ_=>none) (λ_=>.inl rfl) (.inr ⟨_,vs.toArray,_,hk,rfl,rfl,rfl,by rw[FV,lenV];exact hl,by simpa using rv⟩) (λb u z=>by have z':(none:Option HO)=some u:=z;cases z') (λb z=>absurd rfl z) λz=>absurd rfl z
 | none=>
  refine core (λb=>if b=a then some (.frz { cls:=.type "list",data:=.seq vs.toArray } (.lst (ns.map V.int))) else none) (λb=>?_) (.inl (.inr ⟨{ cls:=.type "list",data:=.seq vs.toArray },FD rfl⟩)) (λb u z=>?_) (λb z=>?_) λ_=>hk
  ·by_cases hb:b=a
   ·exact .inr ⟨_,_,FD hb⟩
   ·exact .inl (FC hb)
  ·by_cases hb:b=a
   ·have z':=(FD hb).symm.trans z;cases z';subst hb;exact⟨ha,by rw[FH];exact hl,vs,_,rv,ha⟩
   ·have z':=(FC hb).symm.trans z;cases z'
  ·by_cases hb:b=a
   ·exact hb
   ·exact absurd (FC hb) z
theorem walk_of {l:W.OpenLaw}{k:Nat}{q:Program}{d:DefRec}{K:Params->W.Frag}{CX:World->CXT}{sp:World->Sp} 
  (hn:l.most=some n) (hn2:n<=sizeLine) (hdf:d.params.defaults=[]) (hr:Room k callerA)
  (hY:∀(w:World) (h:Heap),YP w h->(K w.params).In h)
  (F:∀(w:World) (mg:Str->Option Value) (fa:Addr) (h:Heap),(K w.params).In h->h.Ns mainGlobals mg->mg d.name=some (.ref fa) ->
   ∃fd:FuncData,(∀(s:Shared) (u:Value),BindsTo s fd ⟨[u],[]⟩ [(x,u)]) /\
    ∀base:Heap,(K w.params).In base->base.Ns mainGlobals mg->FnOk l.prog w (K w.params) mg base (CX w) k fa fd [x] (sp w))
  (hsp:∀(w:World) (H:Hp) (a:Addr) (ns:List Int),ns.length<=n->BL H->SqL (K w.params) H a (ns.map V.int)->sp w [.ref a] H (λv _=>v=.bl true) λ_ _ _=>False)
  (hCX:∀(w:World) (H:Hp) (s:Shared) (e:Value) (s':Shared),CX w [] H s (λ_ _ _=>False) e s'->False) :
  W.WalkO q loose XP YP l.row.toRowW d [] (λf vs=>PySem.call f vs):=by
 refine Att.attach_call hn hdf λw s₀ s₁ mg mb fa o pm cd doc a vs ns G Y ho hd hcd hmg hobj hints hlen hg=>?_
 have KX:=hY w _ Y;obtain⟨fd,hb,hF⟩:=F w mg fa _ KX G.T.g hmg;exact MF KX G.T.g G.T.b G.T.builtins G.T.nolimit hg hobj hints (F2 hlen hn2) hr hF hb (λH hO hS=>hsp w H a ns hlen hO hS) λH e s'=>hCX w H s₁ e s'
abbrev CX0:CXT:=λ_ _ _ _ _ _=>False
abbrev E0:XK:=λ_ _ _=>False
theorem Kl:Xu CX0 X E0:=λ_ _ _ _ _ _ _ h=>h.elim
structure Fun (K:W.Frag)(x qual:Str)(st:Stmt)(f:Addr)(fd:FuncData):Prop where
 ex:∃(oc:Value) (od:Option Addr) (kV doc pm:Value) (an:Option Addr) (cdv ct:Value) (osl:Array (Option Value)),
  fd=W.fnOf x qual (QC st) (Qx st) (Qh st) .none kV doc pm an cdv ct/\K.lookup f=some ⟨oc,od,.func fd,osl⟩/\W.codeIn K cdv qual=true
 kp:W.keepIn K (.ref f)=true
section
variable {P:Program} {w:World} {K:W.Frag} {mg:Str->Option Value} {base:Heap}
theorem Fun.ok {N:List Str}{k:Nat}{sp:Sp}(F:Fun K x qual st f fd)(S:Qu N ps (Qh st))(len:∀vs H Q E,sp vs H Q E->vs.length=ps.length)
  (hbody:∀(cdv:Value) (A:Around) (outer:List Env) (s:Shared) (H:Hp) (vs:List V) (Q:VK) (E:XK),Room k (A.deeper (envOfC qual (Qh st) s.heap.objs.size f cdv))->sp vs H Q E ->
   ∃t,PSs (Wm CX0 P w K mg base N qual (Qh st) f cdv A outer s H E).nox (Qx st) t/\t { nx:=λ_ H'=>Q .non H',rt:=Q } (start N vs) H):FnOk P w K mg base CX0 (k+1) f fd ps sp:=by
 obtain⟨oc,od,kV,doc,pm,an,cdv,ct,osl,rfl,lk,hcd⟩:=F.ex;refine MP lk hcd S len λA outer s H vs Q E hr hsp=>?_
 obtain⟨t,h,q⟩:=hbody cdv A outer s H vs Q E hr hsp;exact⟨t,h.nox,q⟩
theorem Fun.binds (F:Fun K x qual st f fd)
  (h:∀(kV doc pm:Value) (an:Option Addr) (cdv ct:Value) (us:List Value),us.length=ps.length->bindArgs (W.fnOf x qual (QC st) (Qx st) (Qh st) .none kV doc pm an cdv ct) ⟨us,[]⟩=pure (ps.zip us)):Binds K fd ps []:=by
 obtain⟨oc,od,kV,doc,pm,an,cdv,ct,osl,rfl,lk,hcd⟩:=F.ex;exact .all (h kV doc pm an cdv ct)
theorem fun_mk {osl:Array (Option Value)}{kV:Value}(l:K.lookup f=some ⟨oc,od,.func (W.fnOf x qual (QC st) (Qx st) (Qh st) .none kV doc pm an cdv ct),osl⟩)
  (c:W.codeIn K cdv qual=true) (k:W.keepIn K (.ref f)=true):Fun K x qual st f (W.fnOf x qual (QC st) (Qx st) (Qh st) .none kV doc pm an cdv ct):=⟨⟨oc,od,kV,doc,pm,an,cdv,ct,osl,rfl,l,c⟩,k⟩
end
theorem Xc {k:Nat}(hr:Room k A):A.units+1<cLine:=EZ (Nat.add_le_add_left (by decide:1<=64) _) hr.units
theorem YD (h:n<=1000):n<sizeLine:=EZ h (by decide)
section
variable {X:Cx}
theorem pv (i:Nat){x:Str}{pos:Pos}(hN:X.N[i]?=some x:=by rfl)(hv:Vis X.env.scope x:=by first|exact Or.inl rfl|exact Or.inr (Or.inl rfl)|exact Or.inr (Or.inr rfl))(hd:(x==("__debug__":Str))=false:=by decide)
  (hcd:(x==("__classdict__":Str))=false:=by decide):PE X (.Name x pos) (SD i):=Pn hN hv hd hcd
end
def Same (H H':Hp):Prop:=∀b o,H b=some o->H' b=some o
theorem Same.refl (H:Hp):Same H H:=λ_ _ h=>h
theorem Same.trans (a:Same H H1)(b:Same H1 H2):Same H H2:=λc o h=>b c o (a c o h)
theorem Same.free (e:Same H H'){l:Addr}(h:H' l=Option.none):H l=Option.none:=by
 cases q:H l with
 | none=>rfl
 | some o=>
  rw[e l o q] at h;cases h
theorem Same.seq {a:Addr}(e:Same H H')(h:SqL K H a xs):SqL K H' a xs:=by
 rcases h with (h|⟨o,h⟩)|h
 ·exact .inl (.inl (e _ _ h))
 ·exact .inl (.inr ⟨o,e _ _ h⟩)
 ·exact .inr h
def Bd (n:Nat)(i:Int):Prop:=i.natAbs<2 ^ n
theorem Bd.mono {i:Int}(h:Bd m i)(hl:m<=n):Bd n i:=FW h (Nat.pow_le_pow_right (by decide) hl)
theorem Bd.mul {i:Int}(h:Bd m i)(h':Bd n j):Bd (m+n) (i*j):=by
 unfold Bd at *;rw[E3,Nat.pow_add];exact Nat.mul_lt_mul'' h h'
theorem Bd.le {i:Int}(h:Bd m j)(hl:i.natAbs<=j.natAbs):Bd m i:=EZ hl h
theorem Bd.bits {i:Int}(h:Bd m i):Builtin.Int.intBits i<=m:=by
 unfold Builtin.Int.intBits;split
 ·exact F7 _
 ·rename_i h0;have h0':i.natAbs≠0:=by
   intro e;apply h0;have:i=0:=Int.natAbs_eq_zero.mp e;rw[this];rfl
  have:i.natAbs.log2<m:=(Nat.log2_lt h0').mpr h;omega
theorem Bd.log2 {i:Int}(h:Bd m i)(hm:0<m):i.natAbs.log2<m:=by
 rcases Nat.eq_zero_or_pos i.natAbs with h0|hp
 ·rw[h0];simpa using hm
 ·exact(Nat.log2_lt (Df hp)).mpr h
def CMulB (i j:Int):Prop:=Bd 60000 i/\Bd 60000 j
def KB (j:Int):Prop:=j≠0/\Bd 9000 j
section
variable {X:Cx}
theorem CMulB.ok {i:Int}(h:CMulB i j):IntMulOk i j:=by
 refine IntMulOk.of_bits ?_ ?_
 ·exact F2 h.1.bits (by decide)
 ·exact F2 h.2.bits (by decide)
theorem op_mulB:OpR X (binaryOp .Mult) (rI CMulB λi j=>.int (i*j)):=opI λ_ _ _ _ _ _ _ hc q=>mul_int q hc.ok
theorem op_fdivB:OpR X (binaryOp .FloorDiv) (rI (λ_ j=>KB j) λi j=>.int (i.fdiv j)):=opI λ_ _ _ _ _ _ _ hc q=>floordiv_int hc.1 q (.inl (PyProof.noPylong_of_log2 (hc.2.log2 (by decide))))
end
def Pd (K:W.Frag):List V->Hp->VK->Prop:=λxs H Q=>∃x c t b u,xs=[x,c]/\RelV c u/\(∀u',RelV c u'->u'=u)/\TyOf K H x t/\W.kitOne K t u=some b/\Q (.bl b) H
section
variable {X:Cx}
theorem M9:CallR X (.builtin "isinstance") (Pd X.K):=by
 intro pins s σ H xs us Q I r h;obtain⟨x,c,t,b,u,rfl,rc,uq,ty,e,q⟩:=h;obtain⟨u1,u2,rfl,r1,r2⟩:=Vy r;obtain rfl:=uq _ r2;exact Nq I r1 ty e λtk=>⟨.bl b,H,I.tok tk,rfl,q⟩
end
structure Cal (P:Program)(w:World)(K:W.Frag)(mg:Str->Option Value)(base:Heap)(k:Nat)(name:Str)(ps:List Str)(sp:Sp):Prop where
 ex:∃(f:Addr) (fd:FuncData),FnOk P w K mg base CX0 k f fd ps sp/\Binds K fd ps []/\W.keepIn K (.ref f)=true/\mg name=some (.ref f)
section
variable {X:Cx} {k:Nat} {name:Str} {ps:List Str} {sp:Sp} {p pos:Pos} {e:Expr} {es:List Expr} {t:TA}
theorem Qt (C:Cal X.prog X.w X.K X.mg X.base k name ps sp)(hr:Room k X.A)(hg:Gl X name)(ha:PA X (e::es) t)(hdb:(name==("__debug__":Str))=false:=by decide)
  (he:starEach (e::es) X.env=(false,eval e X.env)::starEach es X.env:=by rfl) (hpl:(backTo pos (starEach es X.env)).any (·.1)=false:=by rfl) :
  PE X (.Call (.Name name p) (e::es) [] pos) (Gf sp [] E0 t):=by
 obtain⟨f,fd,F,b,kp,m⟩:=C.ex;exact Gs F hr hg m kp b .nil Kl ha hdb he hpl
end
theorem Qg (h:H p=none)(o:HO):Same H (upd H p o):=λb u q=>by rw[Qq (Qm q h)];exact q
theorem x_c:tC v σ H Q=Q v H:=rfl
theorem HS {r:R2}{tb:TE}:tOp r ta tb σ H Q=ta σ H λx H1=>tb σ H1 λy H2=>r x y H2 Q:=rfl
theorem HP {r:V->Hp->VK->Prop}:tUn r ta σ H Q=ta σ H λx H1=>r x H1 Q:=rfl
theorem Sv {i:Int}:rEq (.int i) (.int j) H Q=Q (.bl (decide (i=j))) H:=by
 have e:decide (V.int i=V.int j)=decide (i=j):=by
  rw[Jg,Bool.beq_eq_decide_eq]
 unfold rEq;rw[e];exact propext ⟨λh=>h.2,λh=>⟨rfl,h⟩⟩
theorem Sh {i:Int}:rNe (.int i) (.int j) H Q=Q (.bl (!decide (i=j))) H:=by
 have e:decide (V.int i=V.int j)=decide (i=j):=by
  rw[Jg,Bool.beq_eq_decide_eq]
 unfold rNe;rw[e];exact propext ⟨λh=>h.2,λh=>⟨rfl,h⟩⟩
theorem HW {b:Bool}{P:Bool->Prop}:(∃k,V.bl b=V.bl k/\P k)=P b:=by
 refine propext ⟨λ⟨k,e,q⟩=>?_,λq=>⟨b,rfl,q⟩⟩;cases e;exact q
theorem Sz {t u:TT}{Q:Bool->Hp->Prop}:KI t u σ H Q=t σ H λc H1=>if c=true then u σ H1 Q else Q false H1:=rfl
theorem HR {t u:TT}{Q:Bool->Hp->Prop}:tOr t u σ H Q=t σ H λc H1=>if c=true then Q true H1 else u σ H1 Q:=rfl
theorem Sd {t:TT}{Q:Bool->Hp->Prop}:SG t σ H Q=t σ H λc H1=>Q (!c) H1:=rfl
theorem Ss {t:TT}{tb:TE}:tIf t ta tb σ H Q=t σ H λc H1=>if c=true then ta σ H1 Q else tb σ H1 Q:=rfl
theorem Rq {D:Q6}:BR D σ H=D.nx σ H:=rfl
theorem T9 {t u:TS}{D:Q6}:Y9 t u D σ H=t { D with nx:=u D } σ H:=rfl
theorem BN {D:Q6}:RR te D σ H=te σ H D.rt:=rfl
theorem RG {D:Q6}:BS te D σ H=te σ H λ_ H1=>D.nx σ H1:=rfl
theorem Sr {c:TT}{t u:TS}{D:Q6}:W3 c t u D σ H=c σ H λb H1=>if b=true then t D σ H1 else u D σ H1:=rfl
theorem Ll {D:Q6}:N0 D σ H=False:=rfl
theorem Sy {D:Q6}:VB te g D σ H=te σ H λx H1=>g x σ H1 D.nx:=rfl
theorem Rv {Q:St->Hp->Prop}:Wk i v σ H Q=Q (σ.set i (some v)) H:=rfl
theorem Sb {j:Nat}{ta:TA}{D:Q6}:SF i j ta D σ H=ta σ H λvs H1=>∃v w,vs=[v,w]/\D.nx ((σ.set i (some v)).set j (some w)) H1:=rfl
theorem Sf {Q:List V->Hp->Prop}:Uu σ H Q=Q [] H:=rfl
theorem RH {tr:TA}{Q:List V->Hp->Prop}:BU ta tr σ H Q=ta σ H λx H1=>tr σ H1 λxs H2=>Q (x::xs) H2:=rfl
theorem RJ {sp:Sp}{dvs:List V}{E:XK}{t:TA}:Gf sp dvs E t σ H Q=t σ H λvs H1=>sp (vs++dvs) H1 Q E:=rfl
theorem HV {r:List V->Hp->VK->Prop}{t:TA}:tCB r t σ H Q=t σ H λvs H1=>r vs H1 Q:=rfl
theorem TY {t:TA}:SE t σ H Q=t σ H λxs H1=>xs.length<=sizeLine/\∀p,H1 p=none->Q (.ref p) (upd H1 p (.tup xs)):=rfl
theorem Sk {t:TA}:RS t σ H Q=t σ H λxs H1=>xs.length<=sizeLine/\∀p,H1 p=none->Q (.ref p) (upd H1 p (.lst xs)):=rfl
theorem Zw (h:n<=1000):n<=sizeLine:=E7 (YD h)
theorem Ro {a:α}{P:α->Prop}:(∃v,some (some a)=some (some v)/\P v)=P a:=by
 refine propext ⟨λ⟨k,e,q⟩=>?_,λq=>⟨a,rfl,q⟩⟩;cases e;exact q
theorem So {a:Int}{P:Int->Prop}:(∃v,[V.int a]=[V.int v]/\P v)=P a:=by
 refine propext ⟨λ⟨k,e,q⟩=>?_,λq=>⟨a,rfl,q⟩⟩;cases e;exact q
theorem TV {P:V->V->Prop}:(∃v w,[a,b]=[v,w]/\P v w)=P a b:=by
 refine propext ⟨λ⟨k,l,e,q⟩=>?_,λq=>⟨a,b,rfl,q⟩⟩;cases e;exact q
theorem RA {a b:Int}{P:Int->Int->Prop}:(∃v w,[V.int a,V.int b]=[V.int v,V.int w]/\P v w)=P a b:=by
 refine propext ⟨λ⟨k,l,e,q⟩=>?_,λq=>⟨a,b,rfl,q⟩⟩;cases e;exact q
theorem Same.sqT {a:Addr}(e:Same H H')(h:SqT K H a xs):SqT K H' a xs:=by
 rcases h with (h|⟨o,h⟩)|h
 ·exact .inl (.inl (e _ _ h))
 ·exact .inl (.inr ⟨o,e _ _ h⟩)
 ·exact .inr h
def B2:R2:=λx y H Q=>rI0 (λi j=>.int (i+j)) x y H Q∨(∃i j,x=.str i/\y=.str j/\i.length+j.length<=sizeLine/\Q (.str (i++j)) H)∨Pg x y H Q
section
variable {X:Cx}
theorem op_addA:OpR X (binaryOp .Add) B2:=op_add.or (op_add_str.or PD)
theorem B3 (hm:X.mg x=none)(hv:bootBuiltins x=some (.type T))(hg:Gl X x:=by rfl)(hn:x≠"__name__":=by decide)(hdb:(x==("__debug__":Str))=false:=by decide):PE X (.Name x pos) (tC (.ty T)):=
 L3 hg hm hv rfl hn hdb
end
theorem ZE {k:Int}(h:SqT K H p xs)(e:atI xs k=some v)(q:Q v H):rIx K (.ref p) (.int k) H Q:=.inr (.inl ⟨p,xs,k,v,rfl,rfl,h,e,q⟩)
theorem QX {k:Int}(h:SqL K H p xs)(e:atI xs k=some v)(q:Q v H):rIx K (.ref p) (.int k) H Q:=.inl ⟨p,xs,k,v,rfl,rfl,h,e,q⟩
def Sp1 (φ:V->Hp->VK->Prop):Sp:=λvs H Q _=>∃a,vs=[a]/\φ a H Q
def Sp2 (φ:V->V->Hp->VK->Prop):Sp:=λvs H Q _=>∃a b,vs=[a,b]/\φ a b H Q
def Sp3 (φ:V->V->V->Hp->VK->Prop):Sp:=λvs H Q _=>∃a b c,vs=[a,b,c]/\φ a b c H Q
def Sp4 (φ:V->V->V->V->Hp->VK->Prop):Sp:=λvs H Q _=>∃a b c d,vs=[a,b,c,d]/\φ a b c d H Q
theorem T8 {N:List Str}:start N [a]=some a::List.replicate (N.length-1) none:=rfl
theorem T7 {N:List Str}:start N [a,b]=some a::some b::List.replicate (N.length-2) none:=rfl
theorem T4 {N:List Str}:start N [a,b,c]=some a::some b::some c::List.replicate (N.length-3) none:=rfl
theorem T3 {N:List Str}:start N [a,b,c,d]=some a::some b::some c::some d::List.replicate (N.length-4) none:=rfl
theorem RB {t:TGs}{Q:St->Hp->Prop}(h:SqT K H p xs)(hl:xs.length=n)(q:t xs σ H Q):P7 K n t (.ref p) σ H Q:=⟨p,xs,rfl,h,hl,q⟩
def N9 (K:W.Frag):List V->Hp->VK->Prop:=λxs H Q=>∃x n,xs=[x]/\HH K x H n/\Q (.int n) H
theorem NL:CallR X (.builtin "len") (N9 X.K):=M8
theorem QT (h:SqL K H p xs)(q:Q (.int xs.length) H):N9 K [.ref p] H Q:=⟨.ref p,xs.length,rfl,.inl ⟨xs,h,rfl⟩,q⟩
theorem Rx (h:SqT K H p xs)(q:Q (.int xs.length) H):N9 K [.ref p] H Q:=⟨.ref p,xs.length,rfl,.inr ⟨xs,h,rfl⟩,q⟩
theorem Sx {N:List Str}{sc:Scope}{E:XK}:(Wm CX P w K mg base N qual sc f cdv A outer s H E).K=K:=rfl
theorem Sl {x:V}{t:Value}{b:Bool}(ty:TyOf K H x t)(e:W.kitOne K t (.type T)=some b)(q:Q (.bl b) H):Pd K [x,.ty T] H Q:=
 ⟨x,.ty T,t,b,.type T,rfl,rfl,λ_ h=>h,ty,e,q⟩
theorem Su {i j:Str}:rEq (.str i) (.str j) H Q=Q (.bl (decide (i=j))) H:=by
 have e:decide (V.str i=V.str j)=decide (i=j):=by
  by_cases h:i=j
  ·subst h;simp
  ·rw[F1 h];exact F1 λq=>h (V.str.inj q)
 unfold rEq;rw[e];exact propext ⟨λh=>h.2,λh=>⟨rfl,h⟩⟩
theorem Sg {i j:Str}:rNe (.str i) (.str j) H Q=Q (.bl (!decide (i=j))) H:=by
 have e:decide (V.str i=V.str j)=decide (i=j):=by
  by_cases h:i=j
  ·subst h;simp
  ·rw[F1 h];exact F1 λq=>h (V.str.inj q)
 unfold rNe;rw[e];exact propext ⟨λh=>h.2,λh=>⟨rfl,h⟩⟩
theorem Sw {i j:Bool}:rEq (.bl i) (.bl j) H Q=Q (.bl (decide (i=j))) H:=by
 have e:decide (V.bl i=V.bl j)=decide (i=j):=by cases i<;>cases j<;>rfl
 unfold rEq;rw[e];exact propext ⟨λh=>h.2,λh=>⟨rfl,h⟩⟩
theorem Sj {i j:Bool}:rNe (.bl i) (.bl j) H Q=Q (.bl (!decide (i=j))) H:=by
 have e:decide (V.bl i=V.bl j)=decide (i=j):=by cases i<;>cases j<;>rfl
 unfold rNe;rw[e];exact propext ⟨λh=>h.2,λh=>⟨rfl,h⟩⟩
theorem Y7 {lo:Option Int}(h:SqL K H p xs)(q:∀r,H r=none->Q (.ref r) (upd H r (.lst (X5 xs lo hi)))):Pc K (.ref p) lo hi H Q:=⟨p,xs,rfl,h,q⟩
theorem HQ {r:V->Option Int->Option Int->Hp->VK->Prop}{tl th:TO}:tSl r te tl th σ H Q=te σ H λx H1=>tl σ H1 λl H2=>th σ H2 λu H3=>r x l u H3 Q:=rfl
theorem Se {Q:Option Int->Hp->Prop}:Gc σ H Q=Q none H:=rfl
theorem Rp {t:TE}{Q:Option Int->Hp->Prop}:BQ t σ H Q=t σ H λx H1=>∃i,x=.int i/\Q (some i) H1:=rfl
theorem HU {a:Int}{P:Int->Prop}:(∃v,V.int a=V.int v/\P v)=P a:=by
 refine propext ⟨λ⟨k,e,q⟩=>?_,λq=>⟨a,rfl,q⟩⟩;cases e;exact q
theorem Lm {ta:TA}:B6 ta σ H R=ta σ H λvs H1=>∃j:Int,vs=[.int j]/\-(2 ^ 62)<=j/\j<2 ^ 62/\R (Itr 0 j.toNat) H1:=rfl
theorem Lj {c:Int}{P:Int->Int->Prop}:(∃j' c':Int,[V.int 0,V.int j,V.int c]=[V.int 0,V.int j',V.int c']/\P j' c')=P j c:=by
 refine propext ⟨λ⟨_,_,e,q⟩=>?_,λq=>⟨j,c,rfl,q⟩⟩;cases e;exact q
theorem TZ {r:V->List V->Hp->VK->Prop}{to:TE}{t:TA}:tBM K T r to t σ H Q=to σ H λx H1=>tyV K T x H1/\t σ H1 λxs H2=>r x xs H2 Q:=rfl
theorem Rm {r:V->List V->Hp->VK->Prop}{to:TE}:RT K T r to σ H Q=to σ H λx H1=>tyV K T x H1/\r x [] H1 Q:=rfl
theorem Ln:MJ K tl σ H R=tl σ H λx H1=>∃a,x=.ref a/\(∃xs,SqL K H1 a xs)/\R (Itl K a) H1:=rfl
theorem Qz {p:Prop}[Decidable p]{A B:Prop}(h:p->A)(h2:¬p->B):if p then A else B:=by
 by_cases c:p
 ·rw[FD c];exact h c
 ·rw[FC c];exact h2 c
def Uo (J:It)(g:TG)(tb:TS)(D:Q6)(σ:St)(H1:Hp):Prop:=∃W:Nat->Nat->St->Hp->Prop,(∃m,W 0 m σ H1)/\∀i m σ H,W i m σ H ->
 (J.stop i H/\D.nx σ H)∨(J.go i H/\∃N:St->Hp->Prop,(∀σ' H',N σ' H'->∃m',m'<m/\W (i+1) m' σ' H')/\∀x H',J.yld i H x H'->g x σ H' λσ2 H2=>tb { D with nx:=N,ct:=N,bk:=D.nx } σ2 H2)
theorem RC {D:Q6}:SH wi g tb D σ H=wi σ H λJ H1=>Uo J g tb D σ H1:=rfl
theorem U3 {D:Q6}(Pv:Nat->St->Hp->Prop)(h0:Pv 0 σ H)
  (hs:∀i σ H,i<n->Pv i σ H->g (.int (lo+i)) σ H λσ2 H2=>tb { D with nx:=Pv (i+1),ct:=Pv (i+1),bk:=D.nx } σ2 H2) (hd:∀σ H,Pv n σ H->D.nx σ H):Uo (Itr lo n) g tb D σ H:=Nv Pv h0 hs hd
inductive D where
 | non|int (i:Int)|str (x:Str)|tup (ds:List D)|lst (ds:List D)
inductive Rep (K:W.Frag)(H:Hp):D->V->Prop where
 | non:Rep K H .non .non
 | int (i:Int):Rep K H (.int i) (.int i)
 | bl (c:Bool):Rep K H (.int (if c then 1 else 0)) (.bl c)
 | str (x:Str):Rep K H (.str x) (.str x)
 | tup {p:Addr} {xs:List V} {ds:List D} (h:SqT K H p xs) (hl:ds.length=xs.length) (hr:∀(i:Nat) d x,ds[i]?=some d->xs[i]?=some x->Rep K H d x):Rep K H (.tup ds) (.ref p)
 | lst {p:Addr} {xs:List V} {ds:List D} (h:SqL K H p xs) (hl:ds.length=xs.length) (hr:∀(i:Nat) d x,ds[i]?=some d->xs[i]?=some x->Rep K H d x):Rep K H (.lst ds) (.ref p)
inductive DB:Nat->D->Prop where
 | non {n:Nat}:DB n .non
 | int {n:Nat} (i:Int):DB n (.int i)
 | str {n:Nat} (x:Str):DB n (.str x)
 | tup {n:Nat} {ds:List D} (h:∀d∈ds,DB n d):DB (n+1) (.tup ds)
 | lst {n:Nat} {ds:List D} (h:∀d∈ds,DB n d):DB (n+1) (.lst ds)
section
variable {X:Cx} {pins:List (Addr×Obj)} {σ:St} {H:Hp} {s:Shared}
theorem Inv.lt_ne (I:Inv X pins σ H s){p:Addr}{xs ys:List V}(h:SqL X.K H p xs)(h':SqT X.K H p ys):False:=by
 obtain⟨its,_,pl,_⟩:=I.list h;obtain⟨its',_,pt,_⟩:=I.tuple h';exact SeqAt.ne_of_list_tuple (s:=s) pl.isList pt rfl
theorem Rep.inj (I:Inv X pins σ H s){d:D}{v:V}(r:Rep X.K H d v):∀{e:D},Rep X.K H e v->d=e:=by
 induction r with
 | non=>intro e r';cases r';rfl
 | int i=>intro e r';cases r';rfl
 | bl c=>intro e r';cases r';rfl
 | str x=>intro e r';cases r';rfl
 | @tup p xs ds h hl hr ih=>
  intro e r';cases r' with
  | @tup _ ys es h' hl' hr'=>
   have e1:=I.tuple_inj h h';subst e1;refine congrArg D.tup (E6 λi=>?_);by_cases hi:i<ds.length
   ·have h2:i<xs.length:=by omega
    have h3:i<es.length:=by omega
    rw[FI hi,FI h3];exact congrArg some (ih i _ _ (FI hi) (FI h2) (hr' i _ _ (FI h3) (FI h2)))
   ·rw[ED (by omega),ED (by omega)]
  | lst h' hl' hr'=>exact(I.lt_ne h' h).elim
 | @lst p xs ds h hl hr ih=>
  intro e r';cases r' with
  | tup h' hl' hr'=>exact(I.lt_ne h h').elim
  | @lst _ ys es h' hl' hr'=>
   have e1:=I.list_inj h h';subst e1;refine congrArg D.lst (E6 λi=>?_);by_cases hi:i<ds.length
   ·have h2:i<xs.length:=by omega
    have h3:i<es.length:=by omega
    rw[FI hi,FI h3];exact congrArg some (ih i _ _ (FI hi) (FI h2) (hr' i _ _ (FI h3) (FI h2)))
   ·rw[ED (by omega),ED (by omega)]
open Classical in
def eqIt (ds es:List D)(j:Nat):Bool:=decide (ds[j]?=es[j]?)
open Classical in
theorem eqIt_iff {ds es:List D}{j:Nat}:eqIt ds es j=true↔ds[j]?=es[j]?:=by
 unfold eqIt;exact decide_eq_true_iff
theorem XY {ds es:List D}(hl:ds.length=es.length):(List.range ds.length).all (eqIt ds es)=true↔ds=es:=by
 rw[Ex];constructor
 ·intro h;refine E6 λi=>?_
  by_cases hi:i<ds.length
  ·exact eqIt_iff.mp (h i (List.mem_range.mpr hi))
  ·rw[ED (by omega),ED (by omega)]
 ·intro h i _;subst h;exact eqIt_iff.mpr rfl
theorem RelV.ref_of (r:RelV (.ref p) u):u=.ref p:=r
theorem RZ (I:Inv X pins σ H s){d:D}{x:V}(r:Rep X.K H d x):∀{n:Nat}{A:Around}{e:D}{y:V}{u v:Value}{b:Bool},DB n d->A.units+n<cLine->Rep X.K H e y->RelV x u->RelV y v->(b=true↔d=e)->SeqAt.EqAt A s u v b:=by
 induction r with
 | non=>
  intro n A e y u v b _ hn r' ru rv hb;obtain rfl:u=Value.none:=ru;cases r' with
  | non=>obtain rfl:v=Value.none:=rv;have:b=true:=hb.mpr rfl;subst this;exact SeqAt.EqAt.same _
  | int j=>obtain⟨t,rfl⟩:=rv;have:b=false:=FL.mpr λz=>nomatch (hb.mp z);subst this;exact SeqAt.EqAt.none_int _ _
  | bl c=>obtain rfl:v=Value.bool c:=rv;have:b=false:=FL.mpr λz=>nomatch (hb.mp z);subst this;exact SeqAt.EqAt.none_bool _
  | str j=>obtain⟨t,rfl⟩:=rv;have:b=false:=FL.mpr λz=>nomatch (hb.mp z);subst this;exact SeqAt.EqAt.none_str _ _
  | tup h' hl' hr'=>
   obtain rfl:=rv.ref_of;have:b=false:=FL.mpr λz=>nomatch (hb.mp z)
   subst this;obtain⟨its,_,pt,_⟩:=I.tuple h';exact SeqAt.EqAt.none_tuple pt (by omega)
  | lst h' hl' hr'=>
   obtain rfl:=rv.ref_of;have:b=false:=FL.mpr λz=>nomatch (hb.mp z)
   subst this;obtain⟨its,_,pt,_⟩:=I.list h';exact SeqAt.EqAt.none_list pt.isList (by omega)
 | int i=>
  intro n A e y u v b _ hn r' ru rv hb;obtain⟨tu,rfl⟩:=ru;cases r' with
  | non=>obtain rfl:v=Value.none:=rv;have:b=false:=FL.mpr λz=>nomatch (hb.mp z);subst this;exact SeqAt.EqAt.int_none _ _
  | int j=>
   obtain⟨t,rfl⟩:=rv;have:b=(i==j):=by
    by_cases q:i=j
    ·subst q;rw[hb.mpr rfl];simp
    ·have:b=false:=FL.mpr λz=>q (by have:=hb.mp z;injection this)
     rw[this];simp[q]
   subst this;exact SeqAt.EqAt.int_int _ _ _ _
  | bl c=>
   obtain rfl:v=Value.bool c:=rv;have:b=(i==if c=true then 1 else 0):=by
    generalize (if c=true then(1:Int) else 0)=j at *;by_cases q:i=j
    ·subst q;rw[hb.mpr rfl];simp
    ·have:b=false:=FL.mpr λz=>q (by have:=hb.mp z;injection this)
     rw[this];simp[q]
   subst this;exact SeqAt.EqAt.int_bool _ _ _
  | str j=>obtain⟨t,rfl⟩:=rv;have:b=false:=FL.mpr λz=>nomatch (hb.mp z);subst this;exact SeqAt.EqAt.int_str _ _ _ _
  | tup h' hl' hr'=>
   obtain rfl:=rv.ref_of;have:b=false:=FL.mpr λz=>nomatch (hb.mp z)
   subst this;obtain⟨its,_,pt,_⟩:=I.tuple h';exact SeqAt.EqAt.int_tuple _ _ pt (by omega)
  | lst h' hl' hr'=>
   obtain rfl:=rv.ref_of;have:b=false:=FL.mpr λz=>nomatch (hb.mp z)
   subst this;obtain⟨its,_,pt,_⟩:=I.list h';exact SeqAt.EqAt.int_list _ _ pt.isList (by omega)
 | bl k=>
  intro n A e y u v b _ hn r' ru rv hb;obtain rfl:u=Value.bool k:=ru;cases r' with
  | non=>obtain rfl:v=Value.none:=rv;have:b=false:=FL.mpr λz=>nomatch (hb.mp z);subst this;exact SeqAt.EqAt.bool_none _
  | int j=>
   obtain⟨t,rfl⟩:=rv;have:b=((if k=true then 1 else 0)==j):=by
    generalize (if k=true then(1:Int) else 0)=i at *;by_cases q:i=j
    ·subst q;rw[hb.mpr rfl];simp
    ·have:b=false:=FL.mpr λz=>q (by have:=hb.mp z;injection this)
     rw[this];simp[q]
   subst this;exact SeqAt.EqAt.bool_int _ _ _
  | bl c=>
   obtain rfl:v=Value.bool c:=rv;have:b=(k==c):=by
    rw[EA,hb,beq_iff_eq];cases k<;>cases c<;>simp
   subst this;exact SeqAt.EqAt.bool_bool _ _
  | str j=>obtain⟨t,rfl⟩:=rv;have:b=false:=FL.mpr λz=>nomatch (hb.mp z);subst this;exact SeqAt.EqAt.bool_str _ _ _
  | tup h' hl' hr'=>
   obtain rfl:=rv.ref_of;have:b=false:=FL.mpr λz=>nomatch (hb.mp z);subst this
   obtain⟨its,_,pt,_⟩:=I.tuple h';exact SeqAt.EqAt.bool_tuple _ pt (by omega)
  | lst h' hl' hr'=>
   obtain rfl:=rv.ref_of;have:b=false:=FL.mpr λz=>nomatch (hb.mp z);subst this
   obtain⟨its,_,pt,_⟩:=I.list h';exact SeqAt.EqAt.bool_list _ pt.isList (by omega)
 | str i=>
  intro n A e y u v b _ hn r' ru rv hb;obtain⟨tu,rfl⟩:=ru;cases r' with
  | non=>obtain rfl:v=Value.none:=rv;have:b=false:=FL.mpr λz=>nomatch (hb.mp z);subst this;exact SeqAt.EqAt.str_none _ _
  | int j=>obtain⟨t,rfl⟩:=rv;have:b=false:=FL.mpr λz=>nomatch (hb.mp z);subst this;exact SeqAt.EqAt.str_int _ _ _ _
  | bl c=>obtain rfl:v=Value.bool c:=rv;have:b=false:=FL.mpr λz=>nomatch (hb.mp z);subst this;exact SeqAt.EqAt.str_bool _ _ _
  | str j=>
   obtain⟨t,rfl⟩:=rv;have:b=(i==j):=by
    by_cases q:i=j
    ·subst q;rw[hb.mpr rfl];simp
    ·have:b=false:=FL.mpr λz=>q (by have:=hb.mp z;injection this)
     rw[this];simp[q]
   subst this;exact SeqAt.EqAt.str_str _ _ _ _
  | tup h' hl' hr'=>
   obtain rfl:=rv.ref_of;have:b=false:=FL.mpr λz=>nomatch (hb.mp z)
   subst this;obtain⟨its,_,pt,_⟩:=I.tuple h';exact SeqAt.EqAt.str_tuple _ _ pt (by omega)
  | lst h' hl' hr'=>
   obtain rfl:=rv.ref_of;have:b=false:=FL.mpr λz=>nomatch (hb.mp z)
   subst this;obtain⟨its,_,pt,_⟩:=I.list h';exact SeqAt.EqAt.str_list _ _ pt.isList (by omega)
 | @tup p xs ds h hl hr ih=>
  intro n A e y u v b hdb hn r' ru rv hb;obtain rfl:=ru.ref_of;obtain⟨its,rI,pt,_⟩:=I.tuple h;cases hdb with
  | @tup n' _ hdb=>
  cases r' with
  | non=>obtain rfl:v=Value.none:=rv;have:b=false:=FL.mpr λz=>nomatch (hb.mp z);subst this;exact SeqAt.EqAt.tuple_none pt (by omega)
  | int j=>obtain⟨t,rfl⟩:=rv;have:b=false:=FL.mpr λz=>nomatch (hb.mp z);subst this;exact SeqAt.EqAt.tuple_int _ _ pt (by omega)
  | bl c=>obtain rfl:v=Value.bool c:=rv;have:b=false:=FL.mpr λz=>nomatch (hb.mp z);subst this;exact SeqAt.EqAt.tuple_bool _ pt (by omega)
  | str j=>obtain⟨t,rfl⟩:=rv;have:b=false:=FL.mpr λz=>nomatch (hb.mp z);subst this;exact SeqAt.EqAt.tuple_str _ _ pt (by omega)
  | @tup p' ys es h' hl' hr'=>
   obtain rfl:=rv.ref_of;obtain⟨its',rI',pt',_⟩:=I.tuple h';by_cases hp:p=p'
   ·subst hp;have:D.tup ds=D.tup es:=Rep.inj I (.tup h hl hr) (.tup h' hl' hr');rw[hb.mpr this];exact SeqAt.EqAt.same _
   ·have z1:its.length=xs.length:=rI.length.symm;have z2:its'.length=ys.length:=rI'.length.symm;have key:=SeqAt.RcAt.tuples (A:=A) (s:=s) (e:=eqIt ds es) pt pt' (by omega) (λj h1 h2=>by
     have g1:j<its.length:=by simpa using h1
     have g2:j<its'.length:=by simpa using h2
     have k1:ds[j]?=some ds[j]:=FI (by omega);have k2:es[j]?=some es[j]:=FI (by omega);obtain⟨w1,e1,rw1⟩:=rI.get (FI (show j<xs.length by omega));obtain⟨w2,e2,rw2⟩:=rI'.get (FI (show j<ys.length by omega));have f1:its.toArray[j]=w1:=by
      have:=FI g1;rw[e1] at this;simpa using(FX this).symm
     have f2:its'.toArray[j]=w2:=by
      have:=FI g2;rw[e2] at this;simpa using(FX this).symm
     rw[f1,f2];refine ih j _ _ k1 (FI (show j<xs.length by omega)) (hdb _ (List.getElem_mem _)) (by show A.units+1+n'<cLine;omega) (hr' j _ _ k2 (FI (show j<ys.length by omega))) rw1 rw2 ?_;rw[eqIt_iff,k1,k2,Option.some.injEq])
    refine SeqAt.EqAt.of_refs hp ?_;have eb:((List.range (min its.toArray.size its'.toArray.size)).all (eqIt ds es)&&its.toArray.size==its'.toArray.size)=b:=by
     have s1:its.toArray.size=ds.length:=by simp;omega
     have s2:its'.toArray.size=es.length:=by simp;omega
     rw[s1,s2];by_cases hs:ds.length=es.length
     ·rw[hs,Nat.min_self,beq_self_eq_true,Bool.and_true,<-hs];rw[EA,XY hs,hb];exact⟨λz=>by rw[z],λz=>by injection z⟩
     ·have f:(ds.length==es.length)=false:=by simpa using hs
      rw[f,EM];exact(FL.mpr λz=>hs (by have:=hb.mp z;injection this with this;rw[this])).symm
    rw[eb] at key;exact key
  | @lst p' ys es h' hl' hr'=>
   obtain rfl:=rv.ref_of;have:b=false:=FL.mpr λz=>nomatch (hb.mp z)
   subst this;obtain⟨its',_,pl,_⟩:=I.list h';exact SeqAt.EqAt.tuple_list pt pl.isList (by omega)
 | @lst p xs ds h hl hr ih=>
  intro n A e y u v b hdb hn r' ru rv hb;obtain rfl:=ru.ref_of;obtain⟨its,rI,pt,_⟩:=I.list h;cases hdb with
  | @lst n' _ hdb=>
  cases r' with
  | non=>obtain rfl:v=Value.none:=rv;have:b=false:=FL.mpr λz=>nomatch (hb.mp z);subst this;exact SeqAt.EqAt.list_none pt.isList (by omega)
  | int j=>obtain⟨t,rfl⟩:=rv;have:b=false:=FL.mpr λz=>nomatch (hb.mp z);subst this;exact SeqAt.EqAt.list_int _ _ pt.isList (by omega)
  | bl c=>obtain rfl:v=Value.bool c:=rv;have:b=false:=FL.mpr λz=>nomatch (hb.mp z);subst this;exact SeqAt.EqAt.list_bool _ pt.isList (by omega)
  | str j=>obtain⟨t,rfl⟩:=rv;have:b=false:=FL.mpr λz=>nomatch (hb.mp z);subst this;exact SeqAt.EqAt.list_str _ _ pt.isList (by omega)
  | @tup p' ys es h' hl' hr'=>
   obtain rfl:=rv.ref_of;have:b=false:=FL.mpr λz=>nomatch (hb.mp z)
   subst this;obtain⟨its',_,pl,_⟩:=I.tuple h';exact SeqAt.EqAt.list_tuple pt.isList pl (by omega)
  | @lst p' ys es h' hl' hr'=>
   obtain rfl:=rv.ref_of;obtain⟨its',rI',pt',_⟩:=I.list h';by_cases hp:p=p'
   ·subst hp;have:D.lst ds=D.lst es:=Rep.inj I (.lst h hl hr) (.lst h' hl' hr');rw[hb.mpr this];exact SeqAt.EqAt.same _
   ·have z1:its.length=xs.length:=rI.length.symm;have z2:its'.length=ys.length:=rI'.length.symm;refine SeqAt.EqAt.of_refs hp ?_;have s1:its.toArray.size=ds.length:=by simp;omega
    have s2:its'.toArray.size=es.length:=by simp;omega
    by_cases hs:ds.length=es.length
    ·have key:=SeqAt.RcAt.lists (A:=A) (s:=s) (e:=eqIt ds es) pt.isList pt'.isList (by rw[s1,s2,hs]) (by omega) (λj h1 h2=>by
      have g1:j<its.length:=by simpa using h1
      have g2:j<its'.length:=by simpa using h2
      have k1:ds[j]?=some ds[j]:=FI (by omega);have k2:es[j]?=some es[j]:=FI (by omega);obtain⟨w1,e1,rw1⟩:=rI.get (FI (show j<xs.length by omega));obtain⟨w2,e2,rw2⟩:=rI'.get (FI (show j<ys.length by omega));have f1:its.toArray[j]=w1:=by
       have:=FI g1;rw[e1] at this;simpa using(FX this).symm
      have f2:its'.toArray[j]=w2:=by
       have:=FI g2;rw[e2] at this;simpa using(FX this).symm
      rw[f1,f2];refine ih j _ _ k1 (FI (show j<xs.length by omega)) (hdb _ (List.getElem_mem _)) (by show A.units+1+n'<cLine;omega) (hr' j _ _ k2 (FI (show j<ys.length by omega))) rw1 rw2 ?_;rw[eqIt_iff,k1,k2,Option.some.injEq])
     have eb:(List.range its.toArray.size).all (eqIt ds es)=b:=by
      rw[s1,EA,XY hs,hb];exact⟨λz=>by rw[z],λz=>by injection z⟩
     rw[eb] at key;exact key
    ·have:b=false:=FL.mpr λz=>hs (by have:=hb.mp z;injection this with this;rw[this])
     subst this;exact SeqAt.RcAt.lists_lengths pt.isList pt'.isList (by rw[s1,s2];simpa using hs) (by omega)
theorem Vi (I:Inv X pins σ H s){A:Around}{n:Nat}{ds es:List D}{xs ys:List V}{its its':List Value}(hdb:∀d∈ds,DB n d)(hn:A.units+1+n<cLine)
  (hl:ds.length=xs.length) (hr:∀(i:Nat) d x,ds[i]?=some d->xs[i]?=some x->Rep X.K H d x) (hl':es.length=ys.length) (hr':∀(i:Nat) d x,es[i]?=some d->ys[i]?=some x->Rep X.K H d x)
  (rI:Vals xs its) (rI':Vals ys its'):∀j (h1:j<its.toArray.size) (h2:j<its'.toArray.size),SeqAt.EqAt A.in1 s its.toArray[j] its'.toArray[j] (eqIt ds es j):=λj h1 h2=>by
 have z1:its.length=xs.length:=rI.length.symm;have z2:its'.length=ys.length:=rI'.length.symm;have g1:j<its.length:=by simpa using h1
 have g2:j<its'.length:=by simpa using h2
 have k1:ds[j]?=some ds[j]:=FI (by omega);have k2:es[j]?=some es[j]:=FI (by omega);obtain⟨w1,e1,rw1⟩:=rI.get (FI (show j<xs.length by omega));obtain⟨w2,e2,rw2⟩:=rI'.get (FI (show j<ys.length by omega));have f1:its.toArray[j]=w1:=by
  have:=FI g1;rw[e1] at this;simpa using(FX this).symm
 have f2:its'.toArray[j]=w2:=by
  have:=FI g2;rw[e2] at this;simpa using(FX this).symm
 rw[f1,f2];refine RZ I (hr j _ _ k1 (FI (show j<xs.length by omega))) (hdb _ (List.getElem_mem _)) (by show A.units+1+n<cLine;omega) (hr' j _ _ k2 (FI (show j<ys.length by omega))) rw1 rw2 ?_;rw[eqIt_iff,k1,k2,Option.some.injEq]
def LG (K:W.Frag)(neg:Bool):R2:=λx y H Q=>∃p r d e b,x=.ref p/\y=.ref r/\Rep K H d x/\Rep K H e y/\DB 30 d/\(b=true↔d=e)/\Q (.bl (if neg then !b else b)) H
theorem Pz (hu:X.A.units+64<cLine):OpR X (compareOp .Eq) (LG X.K false):=by
 intro pins s σ H x y v u Q I rx ry h;obtain⟨p,r,d,e,b,rfl,rfl,rd,re,hdb,hb,q⟩:=h;obtain rfl:=rx.ref_of;obtain rfl:=ry.ref_of;have q:Q (.bl b) H:=q;cases rd with
 | @tup _ xs ds h1 hl hr=>
  obtain⟨its,rI,pt,_⟩:=I.tuple h1;cases hdb with
  | tup hdb=>
  cases re with
  | @tup _ ys es h2 hl' hr'=>
   obtain⟨its',rI',pt',_⟩:=I.tuple h2;refine SeqAt.eq_tupleAt pt pt' (by omega) (Vi I hdb (by omega) hl hr hl' hr' rI rI') ⟨.bl _,H,I,rfl,?_⟩;have z1:its.length=xs.length:=rI.length.symm;have z2:its'.length=ys.length:=rI'.length.symm;have eb:((List.range (min its.toArray.size its'.toArray.size)).all (eqIt ds es)&&its.toArray.size==its'.toArray.size)=b:=by
    have s1:its.toArray.size=ds.length:=by simp;omega
    have s2:its'.toArray.size=es.length:=by simp;omega
    rw[s1,s2];by_cases hs:ds.length=es.length
    ·rw[hs,Nat.min_self,beq_self_eq_true,Bool.and_true,<-hs];rw[EA,XY hs,hb];exact⟨λz=>by rw[z],λz=>by injection z⟩
    ·have f:(ds.length==es.length)=false:=by simpa using hs
     rw[f,EM];exact(FL.mpr λz=>hs (by have:=hb.mp z;injection this with this;rw[this])).symm
   rw[eb];exact q
  | @lst _ ys es h2 hl' hr'=>
   obtain⟨its',rI',pl,_⟩:=I.list h2;have:b=false:=FL.mpr λz=>nomatch (hb.mp z)
   subst this;exact SeqAt.RcAt.tuple_list pt pl.isList (by omega) _ _ _ _ ⟨.bl _,H,I,rfl,q⟩
 | @lst _ xs ds h1 hl hr=>
  obtain⟨its,rI,pt,_⟩:=I.list h1;cases hdb with
  | lst hdb=>
  cases re with
  | @tup _ ys es h2 hl' hr'=>
   obtain⟨its',rI',pl,_⟩:=I.tuple h2;have:b=false:=FL.mpr λz=>nomatch (hb.mp z)
   subst this;exact SeqAt.RcAt.list_tuple pt.isList pl (by omega) _ _ _ _ ⟨.bl _,H,I,rfl,q⟩
  | @lst _ ys es h2 hl' hr'=>
   obtain⟨its',rI',pt',_⟩:=I.list h2;have z1:its.length=xs.length:=rI.length.symm;have z2:its'.length=ys.length:=rI'.length.symm;have s1:its.toArray.size=ds.length:=by simp;omega
   have s2:its'.toArray.size=es.length:=by simp;omega
   by_cases hs:ds.length=es.length
   ·refine SeqAt.eq_listAt pt.isList pt'.isList (by rw[s1,s2,hs]) (by omega) (Vi I hdb (by omega) hl hr hl' hr' rI rI') ⟨.bl _,H,I,rfl,?_⟩;have eb:(List.range its.toArray.size).all (eqIt ds es)=b:=by
     rw[s1,EA,XY hs,hb];exact⟨λz=>by rw[z],λz=>by injection z⟩
    rw[eb];exact q
   ·have:b=false:=FL.mpr λz=>hs (by have:=hb.mp z;injection this with this;rw[this])
    subst this;exact SeqAt.eq_list_lengthsAt pt.isList pt'.isList (by rw[s1,s2];simpa using hs) (by omega) ⟨.bl _,H,I,rfl,q⟩
theorem Pt (hu:X.A.units+64<cLine):OpR X (compareOp .NotEq) (LG X.K true):=by
 intro pins s σ H x y v u Q I rx ry h;obtain⟨p,r,d,e,b,rfl,rfl,rd,re,hdb,hb,q⟩:=h;obtain rfl:=rx.ref_of;obtain rfl:=ry.ref_of;have q:Q (.bl (!b)) H:=q;cases rd with
 | @tup _ xs ds h1 hl hr=>
  obtain⟨its,rI,pt,_⟩:=I.tuple h1;cases hdb with
  | tup hdb=>
  cases re with
  | @tup _ ys es h2 hl' hr'=>
   obtain⟨its',rI',pt',_⟩:=I.tuple h2;refine SeqAt.RcNeAt.tuples pt pt' (by omega) (Vi I hdb (by omega) hl hr hl' hr' rI rI') _ _ _ _ ⟨.bl _,H,I,rfl,?_⟩;have z1:its.length=xs.length:=rI.length.symm;have z2:its'.length=ys.length:=rI'.length.symm;have eb:((List.range (min its.toArray.size its'.toArray.size)).all (eqIt ds es)&&its.toArray.size==its'.toArray.size)=b:=by
    have s1:its.toArray.size=ds.length:=by simp;omega
    have s2:its'.toArray.size=es.length:=by simp;omega
    rw[s1,s2];by_cases hs:ds.length=es.length
    ·rw[hs,Nat.min_self,beq_self_eq_true,Bool.and_true,<-hs];rw[EA,XY hs,hb];exact⟨λz=>by rw[z],λz=>by injection z⟩
    ·have f:(ds.length==es.length)=false:=by simpa using hs
     rw[f,EM];exact(FL.mpr λz=>hs (by have:=hb.mp z;injection this with this;rw[this])).symm
   rw[eb];exact q
  | @lst _ ys es h2 hl' hr'=>
   obtain⟨its',rI',pl,_⟩:=I.list h2;have:b=false:=FL.mpr λz=>nomatch (hb.mp z)
   subst this;exact SeqAt.RcNeAt.tuple_list pt pl.isList (by omega) _ _ _ _ ⟨.bl _,H,I,rfl,q⟩
 | @lst _ xs ds h1 hl hr=>
  obtain⟨its,rI,pt,_⟩:=I.list h1;cases hdb with
  | lst hdb=>
  cases re with
  | @tup _ ys es h2 hl' hr'=>
   obtain⟨its',rI',pl,_⟩:=I.tuple h2;have:b=false:=FL.mpr λz=>nomatch (hb.mp z)
   subst this;exact SeqAt.RcNeAt.list_tuple pt.isList pl (by omega) _ _ _ _ ⟨.bl _,H,I,rfl,q⟩
  | @lst _ ys es h2 hl' hr'=>
   obtain⟨its',rI',pt',_⟩:=I.list h2;have z1:its.length=xs.length:=rI.length.symm;have z2:its'.length=ys.length:=rI'.length.symm;have s1:its.toArray.size=ds.length:=by simp;omega
   have s2:its'.toArray.size=es.length:=by simp;omega
   by_cases hs:ds.length=es.length
   ·refine SeqAt.RcNeAt.lists pt.isList pt'.isList (by rw[s1,s2,hs]) (by omega) (Vi I hdb (by omega) hl hr hl' hr' rI rI') _ _ _ _ ⟨.bl _,H,I,rfl,?_⟩;have eb:(List.range its.toArray.size).all (eqIt ds es)=b:=by
     rw[s1,EA,XY hs,hb];exact⟨λz=>by rw[z],λz=>by injection z⟩
    rw[eb];exact q
   ·have:b=false:=FL.mpr λz=>hs (by have:=hb.mp z;injection this with this;rw[this])
    subst this;exact SeqAt.RcNeAt.lists_lengths pt.isList pt'.isList (by rw[s1,s2];simpa using hs) (by omega) _ _ _ _ ⟨.bl _,H,I,rfl,q⟩
def KW (K:W.Frag):R2:=λx y H Q=>rEq x y H Q∨LG K false x y H Q
def Js (K:W.Frag):R2:=λx y H Q=>rNe x y H Q∨LG K true x y H Q
theorem PB (hu:X.A.units+64<cLine):OpR X (compareOp .Eq) (KW X.K):=op_eq.or (Pz hu)
theorem Pu (hu:X.A.units+64<cLine):OpR X (compareOp .NotEq) (Js X.K):=op_ne.or (Pt hu)
end
theorem RE {i:Int}:KW K (.int i) (.int j) H Q=Q (.bl (decide (i=j))) H:=by
 refine Eq.trans ?_ Sv;exact propext ⟨λh=>h.resolve_right (λ⟨_,_,_,_,_,e,_⟩=>nomatch e),.inl⟩
theorem Rt {i:Int}:Js K (.int i) (.int j) H Q=Q (.bl (!decide (i=j))) H:=by
 refine Eq.trans ?_ Sh;exact propext ⟨λh=>h.resolve_right (λ⟨_,_,_,_,_,e,_⟩=>nomatch e),.inl⟩
theorem RD {i j:Str}:KW K (.str i) (.str j) H Q=Q (.bl (decide (i=j))) H:=by
 refine Eq.trans ?_ Su;exact propext ⟨λh=>h.resolve_right (λ⟨_,_,_,_,_,e,_⟩=>nomatch e),.inl⟩
theorem Rr {i j:Str}:Js K (.str i) (.str j) H Q=Q (.bl (!decide (i=j))) H:=by
 refine Eq.trans ?_ Sg;exact propext ⟨λh=>h.resolve_right (λ⟨_,_,_,_,_,e,_⟩=>nomatch e),.inl⟩
theorem RF {i j:Bool}:KW K (.bl i) (.bl j) H Q=Q (.bl (decide (i=j))) H:=by
 refine Eq.trans ?_ Sw;exact propext ⟨λh=>h.resolve_right (λ⟨_,_,_,_,_,e,_⟩=>nomatch e),.inl⟩
theorem Ru {i j:Bool}:Js K (.bl i) (.bl j) H Q=Q (.bl (!decide (i=j))) H:=by
 refine Eq.trans ?_ Sj;exact propext ⟨λh=>h.resolve_right (λ⟨_,_,_,_,_,e,_⟩=>nomatch e),.inl⟩
theorem BO {d e:D}{b:Bool}(h1:Rep K H d (.ref p))(h2:Rep K H e (.ref r))(hd:DB 30 d)(hb:b=true↔d=e)(q:Q (.bl b) H):KW K (.ref p) (.ref r) H Q:=.inr ⟨p,r,d,e,b,rfl,rfl,h1,h2,hd,hb,q⟩
theorem Gb {d e:D}{b:Bool}(h1:Rep K H d (.ref p))(h2:Rep K H e (.ref r))(hd:DB 30 d)(hb:b=true↔d=e)(q:Q (.bl (!b)) H):Js K (.ref p) (.ref r) H Q:=.inr ⟨p,r,d,e,b,rfl,rfl,h1,h2,hd,hb,q⟩
abbrev fr (t b:Int):D:=.tup [.int t,.int b]
theorem X0 {t b:Int}(h:SqT K H p [.int t,.int b]):Rep K H (fr t b) (.ref p):=by
 refine .tup h rfl λi d x e1 e2=>?_
 match i,e1,e2 with
 | 0,e1,e2=>cases e1;cases e2;exact .int _
 | 1,e1,e2=>cases e1;cases e2;exact .int _
 | k+2,e1,e2=>simp at e1
theorem Uc {t b:Int}:DB (n+1) (fr t b):=.tup λd hd=>by
 simp at hd;rcases hd with rfl|rfl<;>exact .int _
end L2
namespace L2
theorem V6 {a b:Int}(ha:0<=a)(hb:0<b):Int.gcd b (a % b)=Int.gcd a b:=by
 obtain ⟨n,rfl⟩:=Ez ha;obtain ⟨m,rfl⟩:=Ez (Int.le_of_lt hb);show Nat.gcd ((m:Int).natAbs) (((n:Int) % (m:Int)).natAbs)=Nat.gcd (n:Int).natAbs (m:Int).natAbs;rw [<-Int.natCast_emod,Int.natAbs_natCast,Int.natAbs_natCast,Int.natAbs_natCast,Nat.gcd_comm n m,Nat.gcd_comm m (n % m)];exact (Nat.gcd_rec m n).symm
theorem V5 {a:Int}(ha:0<=a):(Int.gcd a 0:Int)=a:=by
 show((Nat.gcd a.natAbs 0:Nat):Int)=a;rw[Nat.gcd_zero_right];omega
theorem Bs (a b:Int):Int.gcd (if a<0 then -a else a) (if b<0 then -b else b)=Int.gcd a b:=by
 have e:∀z:Int,(if z<0 then -z else z).natAbs=z.natAbs:=λz=>by split<;>omega
 show Nat.gcd _ _=Nat.gcd _ _;rw[e,e]
theorem Lc (a:Int):0<=(if a<0 then -a else a):=by split<;>omega
def fsg (t b:Int):Int:=if b<0 then -(Int.gcd t b:Int) else(Int.gcd t b:Int)
def Yc (t b:Int):Int:=t.fdiv (fsg t b)
def Yd (t b:Int):Int:=b.fdiv (fsg t b)
theorem GB {t b:Int}(hb:b≠0):0<(Int.gcd t b:Int):=by
 have h:0<Nat.gcd t.natAbs b.natAbs:=Nat.gcd_pos_of_pos_right _ (by omega);exact Int.natCast_pos.mpr h
theorem U2 {t b:Int}(hb:b≠0):fsg t b≠0:=by
 have:=GB (t:=t) hb;unfold fsg;split<;>omega
theorem Ta {t b:Int}:fsg t b∣t:=by
 unfold fsg;split
 ·exact Int.neg_dvd.mpr (Int.gcd_dvd_left ..)
 ·exact Int.gcd_dvd_left ..
theorem P9 {t b:Int}:fsg t b∣b:=by
 unfold fsg;split
 ·exact Int.neg_dvd.mpr (Int.gcd_dvd_right ..)
 ·exact Int.gcd_dvd_right ..
theorem JL {x d:Int}(h:d∣x):d*x.fdiv d=x:=by
 obtain⟨c,rfl⟩:=h;by_cases hd:d=0
 ·subst hd;simp
 ·rw[Int.mul_fdiv_cancel_left _ hd]
theorem Vl {t b:Int}:fsg t b*Yc t b=t:=JL Ta
theorem Jf {t b:Int}:fsg t b*Yd t b=b:=JL P9
theorem MQ {t b:Int}(hb:b≠0):0<Yd t b:=by
 have h:=Jf (t:=t) (b:=b);have hg:=GB (t:=t) hb;by_cases hn:b<0
 ·have e:fsg t b<0:=by unfold fsg;rw[FD hn];omega
  rcases Int.lt_trichotomy (Yd t b) 0 with z|z|z
  ·have:=Int.mul_pos_of_neg_of_neg e z;omega
  ·rw[z] at h;simp at h;omega
  ·exact z
 ·have e:0<fsg t b:=by unfold fsg;rw[FC hn];omega
  rcases Int.lt_trichotomy (Yd t b) 0 with z|z|z
  ·have:=Int.mul_neg_of_pos_of_neg e z;omega
  ·rw[z] at h;simp at h;omega
  ·exact z
theorem By {t b:Int}(hb:b≠0):Yc t b*b=t*Yd t b:=by
 have h1:=Vl (t:=t) (b:=b);have h2:=Jf (t:=t) (b:=b);have:Yc t b*(fsg t b*Yd t b)=fsg t b*Yc t b*Yd t b:=by
  rw [<-Int.mul_assoc,Int.mul_comm (Yc t b)]
 rw[h1,h2] at this;exact this
theorem Bv {t b:Int}(hb:b≠0):(Yc t b).natAbs<=t.natAbs:=by
 have h:(fsg t b*Yc t b).natAbs=t.natAbs:=by rw[Vl]
 rw[E3] at h;have g:=U2 (t:=t) hb;have:1<=(fsg t b).natAbs:=by omega
 calc (Yc t b).natAbs=1*(Yc t b).natAbs:=by omega
  _<=(fsg t b).natAbs*(Yc t b).natAbs:=Nat.mul_le_mul_right _ this
  _=t.natAbs:=h
theorem Bx {t b:Int}(hb:b≠0):(Yd t b).natAbs<=b.natAbs:=by
 have h:(fsg t b*Yd t b).natAbs=b.natAbs:=by rw[Jf]
 rw[E3] at h;have g:=U2 (t:=t) hb;have:1<=(fsg t b).natAbs:=by omega
 calc (Yd t b).natAbs=1*(Yd t b).natAbs:=by omega
  _<=(fsg t b).natAbs*(Yd t b).natAbs:=Nat.mul_le_mul_right _ this
  _=b.natAbs:=h
theorem GC {t b:Int}:(fsg t b).natAbs=Int.gcd t b:=by unfold fsg;split<;>omega
theorem P8 {t b:Int}(hb:b≠0):(fsg t b).natAbs<=b.natAbs:=by
 rw[GC];show Nat.gcd t.natAbs b.natAbs<=b.natAbs;exact Nat.gcd_le_right _ (by omega)
theorem MR {t b:Int}(hb:b≠0):Int.gcd (Yc t b) (Yd t b)=1:=by
 have hg:0<Nat.gcd t.natAbs b.natAbs:=Nat.gcd_pos_of_pos_right _ (by omega);have e1:(fsg t b).natAbs*(Yc t b).natAbs=t.natAbs:=by rw [<-E3,Vl]
 have e2:(fsg t b).natAbs*(Yd t b).natAbs=b.natAbs:=by rw [<-E3,Jf]
 have e3:(fsg t b).natAbs=Nat.gcd t.natAbs b.natAbs:=GC;rw[e3] at e1 e2;have h:=Nat.gcd_mul_left (Nat.gcd t.natAbs b.natAbs) (Yc t b).natAbs (Yd t b).natAbs;rw[e1,e2] at h;show Nat.gcd _ _=1;have h':Nat.gcd t.natAbs b.natAbs*1=Nat.gcd t.natAbs b.natAbs*Nat.gcd (Yc t b).natAbs (Yd t b).natAbs:=by rw[Nat.mul_one];exact h
 exact(Nat.eq_of_mul_eq_mul_left hg h').symm
end L2
set_option maxHeartbeats 4000000
namespace L2
open PySem PySem.Spec PyProof.Rows
structure YC (X:Cx)(scope:Scope)(cl:List (Str×Addr))(N:List Str)(caps:List (Option Nat)):Prop where
 clos:closureFor scope X.env=pure cl
 kind:scope.kind=.function
 nocell:∀y∈scope.names,y.2≠.cell
 names:∀y∈scope.names,y.2=.local->scope.names.lookup y.1=some .local
 sub:∀x c,cl.lookup x=some c->X.env.cells.lookup x=some c
 has:∀x,((relabel scope X.env).names.lookup x=some .cell∨(relabel scope X.env).names.lookup x=some .free)->∃c,cl.lookup x=some c
 cap:∀(i j:Nat) x,N[i]?=some x->caps[i]?=some (some j)->X.N[j]?=some x/\X.env.kindOf x=some .cell/\(relabel scope X.env).names.lookup x=some .cell
 len:caps.length=N.length
def JS (caps:List (Option Nat))(σ:St):St:=caps.map λo=>match o with|some j=>(σ[j]?).join|none=>none
abbrev blk (X:Cx)(scope:Scope)(cl:List (Str×Addr))(N:List Str)(C:Addr)(s:Shared)(H:Hp)(ex:List Addr):Cx:=
 { X with N:=N,s₀:=s,H₀:=H,env:=compEnvC scope cl C X.env,outer:=X.stack,stack:=X.stack,ex:=ex,fn:=λx=>(cl.lookup x).isNone,pn:=[],xe:=λ_ _=>False }
section
variable {X:Cx} {pins:List (Addr×Obj)} {σ:St} {H:Hp} {s:Shared} {scope:Scope} {cl:List (Str×Addr)} {N:List Str} {caps:List (Option Nat)} {fp:List Addr} {C:Addr}
theorem Th (I:Inv X pins σ H s)(O:YC X scope cl N caps)(hf:∀b∈fp,Ww X pins H b)(hC:s.heap.objs.size<=C)(hlt:∀b∈fp,b<s.heap.objs.size):(blk X scope cl N C s H fp).Ok where
 mod:=I.ok.mod
 kind:=O.kind
 glob:=I.ok.glob
 blt:=I.ok.blt
 above:=hC
 inj:=λx y c h1 h2=>I.ok.inj x y c (O.sub x c h1) (O.sub y c h2)
 has:=λx h=>O.has x h
 cab:=λx c h1 h2=>by
  have h1:(cl.lookup x).isNone=true:=h1;have h2:cl.lookup x=some c:=h2;rw[h2] at h1;cases h1
 hd:=I.ok.hd
 frames:=I.ok.frames
 stk:=.inl rfl
 exf:=λb hb=>⟨FU (FW (hlt b hb) hC),λx c h=>(hf b hb).2.2.2.2.1 x c (O.sub x c h)⟩
 bs:=I.bs
 bsz:=F2 I.ok.bsz I.sz
 noex:=λb o e hb=>by
  rcases(hf b hb).2.2.2.1 with z|z
  ·exact I.ok.noex b o e z
  ·exact absurd (FW (FW (FJ e) I.ok.bsz) z) (FY _)
 exfs:=λb hb z=>by
  rcases FP.mp (I.stkSub b z) with q|q
  ·exact(hf b hb).2.1 q
  ·exact(hf b hb).2.2.1 q
 funs:=I.stack
 frf:=I.stkFree
theorem M7 (h:(JS caps σ)[i]?=some (some v)):∃j,caps[i]?=some (some j)/\σ[j]?=some (some v):=by
 unfold JS at h;rw[F0] at h;cases e:caps[i]? with
 | none=>rw[e] at h;cases h
 | some o=>
  rw[e] at h;cases o with
  | none=>cases h
  | some j=>
   refine⟨j,rfl,?_⟩;have h:(σ[j]?).join=some v:=FX h;cases e2:σ[j]? with
   | none=>rw[e2] at h;cases h
   | some q=>rw[e2] at h;rw[show q=some v from h]
theorem Kv (I:Inv X pins σ H s)(O:YC X scope cl N caps)(hf:∀b∈fp,Ww X pins H b)(hlt:∀b∈fp,b<s.heap.objs.size){h':Heap}{t':Nat}{m:Str->Option Value}(keep:∀b o,s.heap.get? b=some o->h'.get? b=some o)(hC:s.heap.objs.size<=C)(ns:h'.Ns C m) :
  Inv (blk X scope cl N C s H fp) [] (JS caps σ) H { s with heap:=h',toks:=t' }:=by
 refine⟨Th I O hf hC hlt,rfl,I.bare,Un.kept keep,⟨m,ns,λi x v h1 h2 h3=>?_⟩,λx c e=>?_,I.hok.fresh hC,λx c e=>I.freeC x c (O.sub x c e),λp hp=>absurd (show p∈([]:List (Addr×Obj)) from hp) (by simp),I.hok.kept keep,?_⟩
 ·obtain⟨j,e1,e2⟩:=M7 h2;obtain⟨k1,k2,k3⟩:=O.cap i j x h1 e1;obtain⟨m0,_,hl⟩:=I.loc;obtain⟨u,r,l⟩:=hl j x v k1 e2 (.inr (.inl k2));refine⟨u,r,?_⟩;rcases l with ⟨z,_⟩|⟨_,c,e,z⟩
  ·rw[k2] at z;cases z
  ·obtain⟨c',e'⟩:=O.has x (.inl k3);have:=O.sub x c' e';rw[e] at this;cases this;exact .inr ⟨.inl k3,c,e',z.keeps keep⟩
 ·obtain⟨v,z⟩:=I.cell x c (O.sub x c e);exact⟨v,z.keeps keep⟩
 ·show(JS caps σ).length=N.length;unfold JS;rw[FH,O.len]
theorem GN (I:Inv X pins σ H s)(hf:∀b∈fp,Ww X pins H b){pins':List (Addr×Obj)}{σ':St}{H':Hp}{s':Shared}{h':Heap}(J:Inv (blk X scope cl N C s H fp) pins' σ' H' s')(hC:s.heap.objs.size<=C)(sb:Heap.SameBut C s'.heap h') :
  Inv X pins σ H' { s' with heap:=h' }:=by
 have ne:∀b o,s.heap.get? b=some o->b≠C:=λb o e=>FU (FW (FJ e) hC)
 have u:Un (frs X.stack) fp H H' s.heap s'.heap:=J.base;have hC':H' C=none:=J.free;refine I.call' (s':={ s' with heap:=h' }) (ch:=fp) J.os ⟨λb o e n h1 h2=>(sb.2 b (ne b o e)).trans (u.keep b o e n h1 h2),λb o e n h1 h2=>?_,u.free,λb o e h1=>?_,u.tups,u.frzs,u.tbls⟩ (λb o e=>?_) J.bare λb hb=>(hf b hb).2.2.2 |> λz=>⟨z.1,(hf b hb).2.1,z.2.1,z.2.2⟩
 ·obtain⟨sl,q⟩:=u.slot b o e n h1 h2;exact⟨sl,(sb.2 b (ne b o e)).trans q⟩
 ·obtain⟨o',q⟩:=u.there b o e h1;exact⟨o',(sb.2 b (ne b o e)).trans q⟩
 ·refine(J.hok b o e).stay (λc w' hc q=>(sb.2 c ?_).trans q) (λ_ q=>q) λ_ _ q=>q
  rintro rfl;rcases hc with rfl|hc
  ·rw[hC'] at e;cases e
  ·rw[hC'] at hc;cases hc
theorem Inv.track {D:Addr}(I:Inv X pins σ H s)(h0:X.s₀.heap.objs.size<=D)(hn:H D=none)(hL:D≠X.env.locals)(h2:∀x c,X.env.cells.lookup x=some c->c≠D)(h3:∀p∈X.pn++pins,p.1≠D)(new:ObjOk X.prog X.w (upd H D o) s.heap D o) :
  Inv X pins σ (upd H D o) s:=by
 have ne:∀b u,H b=some u->b≠D:=λb u e=>Qm e hn
 have:=I.step (h':=s.heap) (H':=upd H D o) (g':=s.gens) (t':=s.toks) (d':=s.drawn) (ch:=[D]) (λb hb=>?_) (λb o _ _ _ e _=>e) (λb o _ _ _ e _=>⟨o.slots,e⟩) (λb u hb _ n=>by rw[Qq (by simpa using hb)];exact n) (λb o _ e=>⟨o,e⟩)
  (λb xs e=>by rw[Qq (ne b _ e)];exact e) (λb o' u e=>by rw[Qq (ne b _ e)];exact e) (λb ps e=>⟨#[],by rw[Qq (ne b _ e),e];simp⟩) (λ_ z=>z) (λb u e=>?_) I.bare
 ·exact this
 ·have e:b=D:=by simpa using hb
  subst e;exact⟨.inr h0,hL,h2,h3⟩
 ·by_cases hb:b=D
  ·subst hb;rw[Qe] at e;cases e;exact new
  ·rw[Qq hb] at e;exact(I.hok b u e).stay (λ_ _ _ q=>q) (λc q=>by rw[Qq (ne c _ q)];exact q) λc xs q=>by rw[Qq (ne c _ q)];exact q
end
def PTs (X:Cx)(ifs:List Expr)(t:TT):Prop:=
 ∀(pins:List (Addr×Obj)) (s:Shared) (σ:St) (H:Hp) (Q:Bool->Hp->Prop),Inv X pins σ H s->t σ H Q ->
  wpAny (model X.prog X.w) X.A (forIn ifs true λc r=>if r=true then do let ok <-isTrue c X.env (eval c X.env);pure (ForInStep.yield ok) else pure (ForInStep.yield r)) (TP X pins σ Q) X.xe s
def RP:TT:=λ_ H Q=>Q true H
theorem Xh:PTs X [] RP:=λ_ _ _ H _ I h=>wpAny_tests_nil ⟨H,I,h⟩
theorem KY {c:Expr}{t:TT}(h:PT X c t):PTs X [c] t:=λpins s σ H Q I q=>wpAny_tests_one (h pins s σ H Q I q)
def Up (J:It)(g:TG)(tt:TT)(te:TE)(σ0:St)(H1:Hp)(Q:VK):Prop:=
 ∃W:Nat->Nat->List V->St->Hp->Prop,(∃m,W 0 m [] σ0 H1)/\∀i m acc σ H,W i m acc σ H ->
  (J.stop i H/\∀p,H p=none->Q (.ref p) (upd H p (.lst acc))) ∨
  (J.go i H/\acc.length<sizeLine/\∀x H',J.yld i H x H'->g x σ H' λσ2 H2=>tt σ2 H2 λb H3=>
   if b=true then te σ2 H3 λv H4=>∃m',m'<m/\W (i+1) m' (acc++[v]) σ2 H4 else ∃m',m'<m/\W (i+1) m' acc σ2 H3)
def Kh (caps:List (Option Nat))(wi:TI)(g:TG)(tt:TT)(te:TE):TE:=λσ H Q=>wi σ H λJ H1=>Up J g tt te (JS caps σ) H1 Q
theorem Wn {R:Result->Shared->Prop}{target:Expr}{it acc:Value}(I:Nat->Shared->Prop)
  (turn:∀n s,I n s->wpAny (model prog w) A (pyNext it) (λr s₁=>match r with
   | none=>R (.ok .next) s₁
   | some v=>wpAny (model prog w) A (letOwnedTupleGo target it v) (λ_ s₀=>wpAny (model prog w) A (assign target env v) (λ_ s₂=>
     wpAny (model prog w) A (forIn ifs true λc r=>if r=true then do let ok <-isTrue c env (eval c env);pure (ForInStep.yield ok) else pure (ForInStep.yield r)) (λok s₃=>
      if ok=true then wpAny (model prog w) A (eval elt env) (λx s₄=>
       wpAny (model prog w) A (call (.builtin "list.append") [acc,x]) (λ_ s₅=>∃m,m<n/\I m s₅) (λ_ _=>False) s₄) (λ_ _=>False) s₃
      else ∃m,m<n/\I m s₃) (λ_ _=>False) s₂) (λ_ _=>False) s₀) (λ_ _=>False) s₁) (λ_ _=>False) s)
  (n:Nat) (h:I n s):codeAny (model prog w) A (.compLoop (.ListComp elt [⟨target,iter,ifs,0⟩] scope pos) 0 it acc env) R s:=by
 refine codeAny_loop rfl I (λn s hI=>?_) n h;show wpAny _ A ((compTurn (.ListComp elt [⟨target,iter,ifs,0⟩] scope pos) 0 it acc env).onRaise (λx=>do noteFrame x env;theTreesLotGoes x)) _ _ s;refine wpAny_noted ?_;rw[compTurn_list];refine FG (wpAny_standAt (FG (Ed (turn n s hI) (λr s₁ h₁=>?_) λ_ _ h'=>False.elim h')));cases r with
 | none=>exact FM h₁
 | some v=>
  refine FG (Ed h₁ (λ_ s₀ h₀=>?_) λ_ _ h'=>False.elim h');refine FG (Ed h₀ (λ_ s₂ h₂=>FG (Ed h₂ (λok s₃ h₃=>?_) λ_ _ h'=>False.elim h')) λ_ _ h'=>False.elim h');cases ok with
  | false=>exact FM ⟨rfl,h₃⟩
  | true=>
   exact FG (FG (Ed h₃ (λx s₄ h₄=>FG (Ed h₄ (λ_ s₅ h₅=>FM (FM ⟨rfl,h₅⟩)) λ_ _ h'=>False.elim h')) λ_ _ h'=>False.elim h'))
section
variable {X:Cx}
theorem Jx {cl:List (Str×Addr)}{N:List Str}(hc:X.calm=true)(O:YC X scope cl N caps)
  (hi:PI X tg iter wi) (hg:∀C s H ex,PG (blk X scope cl N C s H ex) tg g) (ht:∀C s H ex,PTs (blk X scope cl N C s H ex) ifs tt) (he:∀C s H ex,PE (blk X scope cl N C s H ex) elt te)
  (hs:∀v,foldedSetIterable iter X.env v=pure v:=by intro _;rfl):PE X (.ListComp elt [⟨tg,iter,ifs,0⟩] scope pos) (Kh caps wi g tt te):=by
 intro pins s σ H Q I h;rw [eval_ListComp];refine wpAny_comprehension_free (use:=none) rfl hs O.clos O.kind O.names (thn (hi pins s σ H _ I h) fun v s1 h1=>thn h1 fun itv s2 h2=>?_);obtain ⟨it,fp,tn,J,H2,e,I2,T,st2,f2,W,⟨m0,w0⟩,turn⟩:=h2;subst e;refine wpAny_newObj_type (wpAny_newFunctionEnv O.nocell (by intro y hy;simp at hy) (fun h₁ hns₁ hsb₁=>?_) O.kind);dsimp only at hns₁ hsb₁ ⊢;generalize hH2:s2.heap.push { cls:=.type "list",dict:=none,data:=.seq ([]:List Value).toArray }=P2 at hns₁ hsb₁ ⊢;have hC:P2.objs.size=s2.heap.objs.size+1:=by rw [<-hH2,Heap.size_push]
 have hDC:s2.heap.objs.size≠P2.objs.size:=by rw[hC];exact FU (EG _)
 have hCle:s2.heap.objs.size<=P2.objs.size:=by rw[hC];exact ET _
 have old:∀b o,s2.heap.get? b=some o->h₁.get? b=some o:=λb o e=>hsb₁.extBut b o (FU (FW (FJ e) hCle)) (FT _ (hH2▸FT _ e))
 have hacc:h₁.PlainList s2.heap.objs.size #[]:=⟨_,hsb₁.extBut _ _ hDC (FT _ (hH2▸Ee _ rfl))⟩
 have hlt:∀b∈fp,b<s2.heap.objs.size:=λb hb=>by
  obtain⟨o,e,_⟩:=T.obj 0 _ st2 b hb;exact FJ e
 generalize hCC:P2.objs.size=C at *;generalize hDD:s2.heap.objs.size=Dl at *;have I3:Inv (blk X scope cl N C s2 H2 fp) [] (JS caps σ) H2 { s2 with heap:=h₁,toks:=s2.toks+([]:List (Str×Value)).length }:=Kv I2 O f2 (by rw[hDD];exact hlt) old (by rw[hDD];exact hCle) hns₁;have st3:tn 0 h₁:=T.keep 0 _ _ st2 λb _ o e=>old b o e
 have hDn:H2 Dl=none:=I2.hok.fresh (by rw[hDD];exact FE _);have nfs:∀b∈fp,b∉frs X.stack:=λb hb z=>by
  rcases FP.mp (I2.stkSub b z) with q|q
  ·exact(f2 b hb).2.1 q
  ·exact(f2 b hb).2.2.1 q
 have stat:∀{H':Hp},(∀b∈fp,H' b=none)->∀b∈fp,Ww (blk X scope cl N C s2 H2 fp) [] H' b:=λhn b hb=>
  ⟨hn b hb,FU (FW (hlt b hb) hCle),nfs b hb,.inl hb,λx c e=>(f2 b hb).2.2.2.2.1 x c (O.sub x c e),λp hp=>absurd (show p∈([]:List (Addr×Obj)) from hp) (by simp)⟩
 have cellD:∀x c,cl.lookup x=some c->c≠Dl:=λx c e z=>by
  obtain⟨v,q⟩:=I2.cell x c (O.sub x c e);have:=q.lt;rw[hDD] at this;exact FY _ (z▸this)
 have nfsD:Dl∉frs X.stack:=λz=>by
  have:=I2.stkSub Dl z;rcases FP.mp this with q|q
  ·have:=I2.lt;rw[hDD] at this;exact FY _ (q▸this)
  ·exact I2.nofs (by rw[hDD];exact FE _) q
 have statD:∀{H':Hp},H' Dl=none->Ww (blk X scope cl N C s2 H2 fp) [] H' Dl:=λhn=>⟨hn,hDC,nfsD,.inr (Nat.le_of_eq hDD),cellD,λp hp=>absurd (show p∈([]:List (Addr×Obj)) from hp) (by simp)⟩
 have loop:∀s₃:Shared,s₃={ s2 with heap:=h₁,toks:=s2.toks+([]:List (Str×Value)).length } ->
   codeAny (model X.prog X.w) X.A (.compLoop (.ListComp elt [⟨tg,iter,ifs,0⟩] scope pos) 0 (.ref it) (.ref Dl) (compEnvC scope cl C X.env))
    (compPost (model X.prog X.w) X.A X.xe none (EP X pins σ Q) (.ref Dl) C) s₃:=by
  intro s₃ hs3;subst hs3;refine Wn (λn s'=>∃i σ' H' acc its,Inv (blk X scope cl N C s2 H2 fp) [] σ' H' s'/\tn i s'.heap/\(∀b∈fp,H' b=none)/\H' Dl=none/\Vals acc its/\s'.heap.PlainList Dl its.toArray/\acc.length<=sizeLine/\W i n acc σ' H') ?_ m0
   ⟨0,JS caps σ,H2,[],[],I3,st3,λb hb=>(f2 b hb).1,hDn,.nil,hacc,F7 _,w0⟩
  rintro n s3 ⟨i,σ3,H3,acc,its,J3,st3,fr3,d3,va,pl3,la,w3⟩;rcases turn i n acc σ3 H3 w3 with ⟨stop,qn⟩|⟨go,la2,step⟩
  ·refine thn (T.done (blk X scope cl N C s2 H2 fp) rfl rfl rfl hc i [(Dl,{ cls:=.type "list",data:=.seq its.toArray (Classical.choose pl3) })] s3 σ3 H3 (λ_ _=>False) (J3.pins_of λp hp=>?_) (λb hb=>?_) st3 stop) λr s4 ⟨hr,J4⟩=>?_
   ·have e:=FQ.mp (show p∈[_] from hp);subst e;exact⟨E4 pl3,d3,hDC,nfsD,λv z=>by cases z⟩
   ·obtain ⟨q1,q2,q3,q4,q5,q6⟩:=stat fr3 b hb;refine ⟨q1,q2,q3,q4,q5,fun p hp z=>?_⟩;have e:=FQ.mp (show p∈[_] from hp);subst e;exact absurd (hlt b hb) (by rw [<-z];exact FY _)
   ·subst hr;obtain⟨m,hn,_⟩:=J4.loc;refine⟨m,hn,λh' sb=>?_⟩;have pD:=J4.pin (Dl,_) (by simp;rfl);have J5:=GN I2 f2 J4 (by rw[hDD];exact hCle) sb;refine⟨.ref Dl,upd H3 Dl (.lst acc),?_,rfl,qn _ d3⟩;refine J5.track (o:=.lst acc) (F2 I2.sz (by rw[hDD];exact FE _)) d3 (λz=>by
     have:=I2.lt;rw[hDD,<-z] at this;exact FY _ this) (λy c e z=>by
     obtain⟨v,q⟩:=I2.cell y c e;have:=q.lt;rw[hDD] at this;exact FY _ (z▸this)) (λp hp z=>by
     have:=FJ (I2.pin p hp).1;rw[hDD,z] at this;exact FY _ this) ⟨la,its,_,va,(sb.2 Dl hDC).trans pD.1⟩
  ·refine thn (T.item (blk X scope cl N C s2 H2 fp) rfl rfl rfl hc i [(Dl,{ cls:=.type "list",data:=.seq its.toArray (Classical.choose pl3) })] s3 σ3 H3 (λ_ _=>False) (J3.pins_of λp hp=>?_) (λb hb=>?_) st3 go) λr s4 ⟨u,hr,h4⟩=>?_
   ·have e:=FQ.mp (show p∈[_] from hp);subst e;exact⟨E4 pl3,d3,hDC,nfsD,λv z=>by cases z⟩
   ·obtain ⟨q1,q2,q3,q4,q5,q6⟩:=stat fr3 b hb;refine ⟨q1,q2,q3,q4,q5,fun p hp z=>?_⟩;have e:=FQ.mp (show p∈[_] from hp);subst e;exact absurd (hlt b hb) (by rw [<-z];exact FY _)
   ·subst hr;refine thn h4 λ_ s5 ⟨y,H5,J5,r5,y5,st5,fr5⟩=>?_
    have J5':Inv (blk X scope cl N C s2 H2 fp) ([(Dl,{ cls:=.type "list",data:=.seq its.toArray (Classical.choose pl3) })]++Yr fp s5.heap) σ3 H5 s5:=J5.pinned (λb hb=>by
     obtain ⟨q1,q2,q3,q4,q5,q6⟩:=stat fr5 b hb;refine ⟨q1,q2,q3,q4,q5,fun p hp z=>?_⟩;have e:=FQ.mp (show p∈[_] from hp);subst e;exact absurd (hlt b hb) (by rw [<-z];exact FY _)) (T.obj _ _ st5)
    refine thn (hg C s2 H2 fp _ s5 σ3 H5 y u _ J5' r5 (step y H5 y5)) λ_ s6 ⟨σ6,H6,J6,q6⟩=>?_
    refine thn (ht C s2 H2 fp _ s6 σ6 H6 _ J6 q6) λok s7 ⟨H7,J7,q7⟩=>?_
    have back:∀{H8:Hp} {s8:Shared},Inv (blk X scope cl N C s2 H2 fp) ([(Dl,{ cls:=.type "list",data:=.seq its.toArray (Classical.choose pl3) })]++Yr fp s5.heap) σ6 H8 s8 ->
      tn (i+1) s8.heap/\(∀b∈fp,H8 b=none)/\H8 Dl=none/\s8.heap.PlainList Dl its.toArray:=λ{H8 s8} J8=>by
     have pb:∀b∈fp,∀o,s5.heap.get? b=some o->s8.heap.get? b=some o/\H8 b=none:=λb hb o e=>by
      have:=J8.pin (b,o) (Eo _ (Eo _ (X3 hb e)));exact⟨this.1,this.2.1⟩
     have pd:=J8.pin (Dl,_) (Eo _ (EF _ (FQ.mpr rfl)));refine⟨T.keep _ _ _ st5 λb hb o e=>(pb b hb o e).1,λb hb=>?_,pd.2.1,⟨_,pd.1⟩⟩;obtain⟨o,e,_⟩:=T.obj _ _ st5 b hb;exact(pb b hb o e).2
    cases ok with
    | false=>
     rw[FC F4] at q7 ⊢;obtain⟨m',hm,w7⟩:=q7;obtain⟨b1,b2,b3,b4⟩:=back J7;exact⟨m',hm,i+1,σ6,H7,acc,its,J7.pins_of (λp hp=>absurd hp (by simp)),b1,b2,b3,va,b4,la,w7⟩
    | true=>
     rw[FD rfl] at q7 ⊢;refine thn (he C s2 H2 fp _ s7 σ6 H7 _ J7 q7) λz s8 ⟨zv,H8,J8,r8,q8⟩=>?_
     obtain⟨m',hm,w8⟩:=q8;obtain⟨b1,b2,b3,b4⟩:=back J8;have z1:its.length=acc.length:=va.length.symm;refine wpAny_list_append_plain (hsz:=by rw[FV];omega) b4 λh9 pl9 sb9=>?_
     have J9:Inv (blk X scope cl N C s2 H2 fp) [] σ6 H8 { s8 with heap:=h9,toks:=s8.toks }:=by
      obtain⟨k0,k1,k2,k3,k4,k5⟩:=statD (H':=H8) b3;exact(J8.pins_of (pins':=[]) (λp hp=>absurd hp (by simp))).turned (it:=Dl) (λb o hb e=>(sb9.2 b hb).trans e) k0 k1 k3 k4 k5
     refine⟨m',hm,i+1,σ6,H8,acc++[zv],its++[z],J9,T.keep _ _ _ b1 λb hb o e=>(sb9.2 b (FU (hlt b hb))).trans e,b2,b3,va.append (.cons r8 .nil),?_,?_,w8⟩
     ·simpa using pl9
     ·rw[FF,FK];omega
 exact codeAny_compStart_list (loop _ rfl) (T.self X.A 0 _ _ _ st3 (loop _ rfl))
theorem Xz {cl:List (Str×Addr)}{N:List Str}(hc:X.calm=true)(O:YC X scope cl N caps)
  (hi:PI X (.Name x px) iter wi) (hg:∀C s H ex,PG (blk X scope cl N C s H ex) (.Name x px) g) (ht:∀C s H ex,PTs (blk X scope cl N C s H ex) ifs tt) (he:∀C s H ex,PE (blk X scope cl N C s H ex) elt te)
  (hs:∀v,foldedSetIterable iter X.env v=pure v:=by intro _;rfl):PE X (.ListComp elt [⟨.Name x px,iter,ifs,0⟩] scope pos) (Kh caps wi g tt te):=Jx hc O hi hg ht he hs
end
theorem ObjOk.there {h:Heap}{a:Addr}(x:ObjOk P w H h a o):∃u,h.get? a=some u:=by
 cases o with
 | lst xs=>obtain⟨_,_,_,_,e⟩:=x;exact⟨_,e⟩
 | tup xs=>obtain⟨_,_,_,_,e,_⟩:=x;exact⟨_,e⟩
 | dK kvs=>obtain⟨_,_,_,_,o,_,_,e,_⟩:=x;exact⟨_,e⟩
 | dT kvs=>obtain⟨_,_,_,_,o,_,_,e,_⟩:=x;exact⟨_,e⟩
 | set S n=>obtain⟨o,_,_,_,e,_⟩:=x;exact⟨_,e⟩
 | ins C dx fs=>obtain⟨_,_,_,e,_⟩:=x;exact⟨_,e⟩
 | own y=>exact x
 | xd fs=>obtain⟨_,⟨_,_,_,e,_⟩,_⟩:=x;exact⟨_,e⟩
 | rng lo hi=>obtain⟨_,_,_,e⟩:=x;exact⟨_,e⟩
 | frz ob u=>obtain⟨e,_⟩:=x;exact⟨_,e⟩
 | tbl ps=>exact⟨_,show h.get? a=some _ from x⟩
 | met f y=>exact⟨_,show h.get? a=some _ from x⟩
 | ext φ=>obtain⟨_,e,_⟩:=x;exact e
theorem HOk.none_of {h:Heap}{a:Addr}(x:HOk P w H h)(e:h.get? a=none):H a=none:=by
 cases q:H a with
 | none=>rfl
 | some o=>
  obtain⟨u,z⟩:=(x a o q).there;rw[e] at z;cases z
section
variable {X:Cx} {pins:List (Addr×Obj)} {σ:St} {H H':Hp} {s:Shared} {h':Heap}
theorem Inv.stepN (I:Inv X pins σ H s)
  (hch:∀b∈ch,X.s₀.heap.get? b=none/\b≠X.env.locals/\(∀x c,X.env.cells.lookup x=some c->c≠b)/\∀p∈X.pn++pins,p.1≠b)
  (keep:∀b o,b≠X.env.locals->b∉X.fs->b∉ch->s.heap.get? b=some o->H b=none->h'.get? b=some o)
  (slot:∀b o,b≠X.env.locals->b∈X.fs->b∉ch->s.heap.get? b=some o->H b=none->∃sl,h'.get? b=some { o with slots:=sl }) (free:∀b o,b∉ch->s.heap.get? b=some o->H b=none->H' b=none)
  (there:∀b o,b∉ch->s.heap.get? b=some o->∃o',h'.get? b=some o')
  (tups:∀b xs,H b=some (.tup xs)->H' b=some (.tup xs)) (frzs:∀b o u,H b=some (.frz o u)->H' b=some (.frz o u)) (tbls:∀b ps,H b=some (.tbl ps)->∃more,H' b=some (.tbl (ps++more)))
  (ns:∀m,s.heap.Ns X.env.locals m->h'.Ns X.env.locals m) (hok:HOk X.prog X.w H' h') :
  Inv X pins σ H' { s with heap:=h' }:=by
 have neL:∀b o,X.s₀.heap.get? b=some o->b≠X.env.locals:=λb o e=>FU (FW (FJ e) I.ok.above)
 have neC:∀b o,X.s₀.heap.get? b=some o->b∉ch:=λb o e hb=>by
  rw[(hch b hb).1] at e;cases e
 have cellK:∀x c,X.env.cells.lookup x=some c->∀v,s.heap.IsCell c v->h'.IsCell c v:=λx c e v ⟨o,ho,hd⟩=>by
  have nch:c∉ch:=λz=>(hch c z).2.2.1 x c e rfl
  by_cases hc:c∈X.fs
  ·obtain⟨sl,q⟩:=slot c o (I.cne x c e) hc nch ho (I.freeC x c e);exact⟨_,q,hd⟩
  ·exact⟨o,keep c o (I.cne x c e) hc nch ho (I.freeC x c e),hd⟩
 refine⟨I.ok,I.os,I.bare,⟨λb o e n hb hx=>?_,λb o e n hb hx=>?_,λb o e n hx=>?_,λb o e hx=>?_,λb xs e=>tups b xs (I.base.tups b xs e),λb o xs e=>frzs b o xs (I.base.frzs b o xs e),λb ps e=>?_⟩,?_,λx c e=>?_,?_,λx c e=>?_,λp hp=>?_,hok,I.len⟩
 ·exact keep b o (neL b o e) hb (neC b o e) (I.base.keep b o e n hb hx) (I.base.free b o e n hx)
 ·obtain⟨sl,e1⟩:=I.base.slot b o e n hb hx;obtain⟨sl',e2⟩:=slot b _ (neL b o e) hb (neC b o e) e1 (I.base.free b o e n hx);exact⟨sl',e2⟩
 ·obtain⟨o',e1⟩:=I.base.there b o e hx;exact free b o' (neC b o e) e1 (I.base.free b o e n hx)
 ·obtain⟨o',e1⟩:=I.base.there b o e hx;exact there b o' (neC b o e) e1
 ·obtain⟨m1,e1⟩:=I.base.tbls b ps e;obtain⟨m2,e2⟩:=tbls b _ e1;exact⟨m1++m2,by rw[e2,Array.append_assoc]⟩
 ·obtain⟨m,hn,hl⟩:=I.loc;refine⟨m,ns m hn,λi x v e1 e2 e3=>?_⟩;obtain⟨u,r,l⟩:=hl i x v e1 e2 e3;refine⟨u,r,?_⟩;rcases l with l|⟨k,c,e,z⟩
  ·exact .inl l
  ·exact .inr ⟨k,c,e,cellK x c e _ z⟩
 ·obtain⟨v,z⟩:=I.cell x c e;exact⟨v,cellK x c e v z⟩
 ·obtain⟨m,⟨o,_,_,ho,_⟩,_⟩:=I.loc;exact free _ o (λz=>(hch _ z).2.1 rfl) ho I.free
 ·obtain⟨v,o,ho,hd⟩:=I.cell x c e;exact free c o (λz=>(hch c z).2.2.1 x c e rfl) ho (I.freeC x c e)
 ·obtain⟨e,n,ne,nf,d⟩:=I.pin p hp;have nch:p.1∉ch:=λz=>(hch p.1 z).2.2.2 p hp rfl
  exact⟨keep p.1 p.2 ne nf nch e n,free p.1 p.2 nch e n,ne,nf,d⟩
def JW (X:Cx)(pins:List (Addr×Obj))(H:Hp)(b:Addr):Prop:=H b=none/\X.s₀.heap.get? b=none/\∀p∈X.pn++pins,p.1≠b
def Air (X:Cx)(pins:List (Addr×Obj))(H:Hp)(h:Heap)(cls:Value)(e:Addr):Prop:=
 ∃oe vs T oT ts a0,h.get? e=some oe/\(oe.cls=cls/\vs[0]?=some a0)/\oe.data=.fields vs/\vs[1]?=some (.ref T)/\T≠e/\h.get? T=some oT/\oT.data=.fields ts/\ts[3]?=some .none/\JW X pins H e/\JW X pins H T
abbrev Y2 (X:Cx)(h:Heap)(ex:List Addr):Heap:=W.hideAll h (frs X.stack++ex)
theorem V3 {h:Heap}{b:Addr}{o:Obj}(e:h.get? b=some o)(h1:b∉frs X.stack)(h2:b∉ex):(Y2 X h ex).get? b=some o:=
 W.hideAll_get _ e λz=>(Ec.mp z).elim h1 h2
theorem Wt (I:Inv X pins σ H s)(hex:∀b∈ex,JW X pins H b)(hexf:∀b∈ex,∀o,s.heap.get? b=some o->∃vs,o.data=.fields vs)
  (st:(Y2 X s.heap ex).StaysIn h') (up:s.heap.UpToSlots h'):Inv X pins σ H { s with heap:=h' }:=by
 have fr:∀b∈frs X.stack,∀o,s.heap.get? b=some o->∀vs,o.data≠.fields vs:=λb hb o e=>by
  obtain⟨_,o',e',d⟩:=I.stack.mem hb;rw[e] at e';cases e';exact d
 have sub:∀b,b∈X.fs->b∈frs X.stack:=λb hb=>by
  rcases I.ok.stk with e|⟨e,_⟩
  ·rw[e];exact hb
  ·rw[e];unfold frs;rw[List.filterMap_cons];split
   ·exact hb
   ·exact F5 _ hb
 have keepAll:∀b o,b∉frs X.stack->b∉ex->s.heap.get? b=some o->h'.get? b=some o:=λb o h1 h2 e=>st b o (V3 e h1 h2)
 refine I.stepN (ch:=ex) (λb hb=>⟨(hex b hb).2.1,λz=>?_,λx c e z=>?_,(hex b hb).2.2⟩) (λb o h1 h2 h3 e n=>keepAll b o (λz=>?_) h3 e) (λb o h1 h2 h3 e n=>up b o e (fr b (sub b h2) o e)) (λ_ _ _ _ n=>n) (λb o h1 e=>?_) (λ_ _ e=>e) (λ_ _ _ e=>e) (λb ps e=>⟨#[],by rw[e];simp⟩) (λm hm=>up.ns hm) (λb u e=>?_)
 ·obtain⟨m,⟨o,es,ep,ho,hd,_⟩,_⟩:=I.loc;subst z;obtain⟨vs,q⟩:=hexf _ hb o ho;rw[q] at hd;cases hd
 ·obtain⟨v,o,ho,hd⟩:=I.cell x c e;subst z;obtain⟨vs,q⟩:=hexf _ hb o ho;rw[q] at hd;cases hd
 ·rcases FP.mp (I.stkSub b z) with q|q
  ·exact h1 q
  ·exact h2 q
 ·by_cases hb:b∈frs X.stack
  ·obtain⟨sl,q⟩:=up b o e (fr b hb o e);exact⟨_,q⟩
  ·exact⟨o,keepAll b o hb h1 e⟩
 ·have nt:∀c v,H c=some v->c∉frs X.stack/\c∉ex:=λc v q=>⟨λz=>(by rw[I.stkFree c z] at q;cases q),λz=>(by rw[(hex c z).1] at q;cases q)⟩
  refine(I.hok b u e).stay (λc v hc q=>?_) (λ_ q=>q) λ_ _ q=>q
  rcases hc with rfl|hc
  ·exact keepAll c v (nt c _ e).1 (nt c _ e).2 q
  ·exact keepAll c v (nt c _ hc).1 (nt c _ hc).2 q
theorem Ji {a0:Value}{e:Addr}(I:Inv X pins σ H s)(hx0:X.ex=[])(hex:∀b∈ex,JW X pins H b)(he:e∈ex)(fr:h'.FunFrames (Y2 X s.heap ex) X.stack)(tr:h'.TracedW (Y2 X s.heap ex) e cls a0):Air X pins H h' cls e:=by
 obtain⟨oe,vs,T,oT,ts,h1,h2,h3,h4,h5,h6,h7,h8,h9⟩:=tr;refine⟨oe,vs,T,oT,ts,a0,h1,h2,h3,h4,h6,h7,h8,h9,hex e he,?_⟩;have nf:T∉frs X.stack:=λz=>by
  obtain⟨_,o,q,d⟩:=fr.mem z;rw[h7] at q;cases q;exact d _ h8
 have no:∀o,s.heap.get? T=some o->T∈ex:=λo q=>by
  by_cases z:T∈ex
  ·exact z
  ·rw[V3 q nf z] at h5;cases h5
 refine⟨?_,?_,λp hp z=>?_⟩
 ·cases q:H T with
  | none=>rfl
  | some u=>
   obtain⟨o,z⟩:=(I.hok T u q).there;rw[(hex T (no o z)).1] at q;cases q
 ·cases q:X.s₀.heap.get? T with
  | none=>rfl
  | some o=>
   obtain⟨o',z⟩:=I.base.there T o q (by rw[hx0];simp);rw[(hex T (no o' z)).2.1] at q;cases q
 ·have q:=(I.pin p hp).1;rw[z] at q;exact(hex T (no _ q)).2.2 p hp z
def ZS (X:Cx):Prop:=X.ex=[]/\X.stack=X.env::X.outer/\X.env.frame=some X.env.locals
theorem ZV (I:Inv X pins σ H s):s.heap.FunFrames (Y2 X s.heap ex) X.stack:=
 W.funFrames_hide I.stack λenv he a ha=>EF _ (List.mem_filterMap.mpr ⟨env,he,ha⟩)
theorem YI:(Y2 X s.heap ex).StaysIn s.heap:=λ_ _ e=>W.of_hideAll _ e
theorem Wj {b:Addr}(hb:b∈ex):(Y2 X s.heap ex).get? b=none:=W.hideAll_none _ (Eo _ hb)
theorem Nm {e:Addr}{vs:List Value}{Q:Unit->Shared->Prop}(I:Inv X pins σ H s)(ow:ZS X)(hx:Heap.MadeExcOf s.heap h' e cls vs)
  (q:∀h'',Inv X pins σ H { s with heap:=h'' }->Air X pins H h'' cls e->Q () { s with heap:=h'' }):wpAny M X.A (leaving X.env (.ref e)) Q E { s with heap:=h' }:=by
 have I1:Inv X pins σ H { s with heap:=h' }:=I.kept (t':=s.toks) hx.keeps;obtain⟨t,he,_,_⟩:=hx.there;have hex:∀b∈[e],JW X pins H b:=λb hb=>by
  have z:=FQ.mp hb;subst z;refine⟨I.hok.none_of hx.new,?_,λp hp z=>?_⟩
  ·cases q:X.s₀.heap.get? b with
   | none=>rfl
   | some o=>
    obtain⟨o',z⟩:=I.base.there b o q (by rw[ow.1];simp);rw[hx.new] at z;cases z
  ·have q:=(I.pin p hp).1;rw[z,hx.new] at q;cases q
 have fs:=ZV (ex:=[e]) I1;have fr:=I1.ok.frames;rw[ow.2.1] at fs fr;refine wpAny_leaving_firstW (base:=Y2 X h' [e]) fr fs ow.2.2 he (YI (s:={ s with heap:=h' })) (Wj (s:={ s with heap:=h' }) (by simp)) rfl rfl rfl λh'' L=>?_
 obtain ⟨l1,l2,l3,l4⟩:=L;rw [<-ow.2.1] at l2;exact q h'' (Wt (s:={ s with heap:=h' }) I1 hex (fun b hb o z=>by
  have w:=FQ.mp hb;subst w;have z':h'.get? b=some o:=z;rw[he] at z';cases z';exact⟨_,rfl⟩) l1 l4) (Ji (s:={ s with heap:=h' }) I1 ow.1 hex (by simp) l2 l3)
theorem Air.two {e:Addr}{h:Heap}(a:Air X pins H h cls e):∃T a0,(∀b∈[e,T],JW X pins H b)/\(∀b∈[e,T],∀o,h.get? b=some o->∃vs,o.data=.fields vs)/\h.TracedW (Y2 X h [e,T]) e cls a0:=by
 obtain⟨oe,vs,T,oT,ts,a0,h1,h2,h3,h4,h6,h7,h8,h9,l1,l2⟩:=a;refine⟨T,a0,λb hb=>?_,λb hb o z=>?_,oe,vs,T,oT,ts,h1,h2,h3,h4,W.hideAll_none _ (Eo _ (by simp)),h6,h7,h8,h9⟩
 ·rcases FP.mp hb with rfl|hb
  ·exact l1
  ·rw[FQ.mp hb];exact l2
 ·rcases FP.mp hb with rfl|hb
  ·rw[h1] at z;cases z;exact⟨_,h3⟩
  ·rw[FQ.mp hb,h7] at z;cases z;exact⟨_,h8⟩
theorem ME {e:Addr}{Q:Unit->Shared->Prop}(I:Inv X pins σ H s)(ow:ZS X)(a:Air X pins H s.heap cls e)
  (q:∀h'',Inv X pins σ H { s with heap:=h'' }->Air X pins H h'' cls e->Q () { s with heap:=h'' }):wpAny M X.A (leaving X.env (.ref e)) Q E s:=by
 obtain⟨T,a0,hex,hexf,tr⟩:=a.two;have fs:=ZV (ex:=[e,T]) I;have fr:=I.ok.frames;rw[ow.2.1] at fs fr;refine wpAny_leaving_nextW (base:=Y2 X s.heap [e,T]) fr fs ow.2.2 tr YI (Wj (by simp)) λh'' L=>?_
 obtain ⟨l1,l2,l3,l4⟩:=L;rw [<-ow.2.1] at l2;exact q h'' (Wt I hex hexf l1 l4) (Ji I ow.1 hex (by simp) l2 l3)
end
def Rg (H:Hp)(h old:Heap)(cls:Value)(e:Addr):Prop:=
 ∃oe vs T oT ts a0,h.get? e=some oe/\(oe.cls=cls/\vs[0]?=some a0)/\oe.data=.fields vs/\vs[1]?=some (.ref T)/\T≠e/\h.get? T=some oT/\oT.data=.fields ts/\ts[3]?=some .none/\(H e=none/\old.get? e=none)/\(H T=none/\old.get? T=none)
def CXr (P:Program)(w:World):CXT:=λouter H s E e s'=>
 ∃ea cls H',e=.ref ea/\s'.os=s.os/\AllBare s'.gens/\Un (frs outer) [] H H' s.heap s'.heap/\HOk P w H' s'.heap/\Rg H' s'.heap s.heap cls ea/\E cls none H'
section
variable {X:Cx} {pins:List (Addr×Obj)} {σ:St} {H:Hp} {s s':Shared} {E:XK} {e:Value}
theorem CXr.here (I:Inv X pins σ H s)(hx:X.ex=[])(c:CXr X.prog X.w X.stack H s E e s'):∃ea cls H',e=.ref ea/\Inv X pins σ H' s'/\Air X pins H' s'.heap cls ea/\E cls none H':=by
 obtain⟨ea,cls,H',rfl,os,bare,un,hok,⟨oe,vs,T,oT,ts,a0,h1,h2,h3,h4,h5,h6,h7,h8,n1,n2⟩,q⟩:=c;have ls:∀b,H' b=none->s.heap.get? b=none->JW X pins H' b:=λb hn ho=>by
  refine⟨hn,?_,λp hp z=>?_⟩
  ·cases q:X.s₀.heap.get? b with
   | none=>rfl
   | some o=>
    obtain⟨o',z⟩:=I.base.there b o q (by rw[hx];simp);rw[ho] at z;cases z
  ·have q:=(I.pin p hp).1;rw[z,ho] at q;cases q
 exact⟨ea,cls,H',rfl,I.call' (ch:=[]) os un hok bare (λb z=>absurd z (by simp)),⟨oe,vs,T,oT,ts,a0,h1,h2,h3,h4,h5,h6,h7,h8,ls _ n1.1 n1.2,ls _ n2.1 n2.2⟩,q⟩
end
section
variable {P:Program} {w:World} {K:W.Frag} {mg:Str->Option Value} {base:Heap} {N:List Str} {qual:Str} {sc:Scope} {f:Addr} {cd:Value} {A:Around} {outer:List Env} {s0:Shared} {H0:Hp} {E:XK}
theorem Mp:ZS (Wm CX P w K mg base N qual sc f cd A outer s0 H0 E):=⟨rfl,rfl,rfl⟩
end
def Lf (X:Cx)(E:XK):Prop:=∀(pins:List (Addr×Obj)) (σ:St) (H:Hp) (s:Shared) (h':Heap) (e:Addr) (cls:Value) (vs:List Value),Inv X pins σ H s->Heap.MadeExcOf s.heap h' e cls vs->E cls none H->X.xe (.ref e) { s with heap:=h' }
def NZ (E:XK)(C:Addr)(t:TA):TS:=λ_ σ H=>t σ H λvs H1=>vs.length<=sizeLine/\E (.ref C) none H1
section
variable {X:Cx} {E:XK} {x:Str} {C:Addr} {bmB bmN:List Value} {B Bn newId nid initId inN:String} {np cpos pos:Pos} {e₀:Expr} {rest:List Expr} {t:TA}
theorem ZM (th:Lf X E)(hc:X.calm=true)(hg:Gl X x)(hm:X.mg x=some (.ref C))(q:W.excIn X.K C bmB newId=true)(Fn:ExcBaseFacts Bn newId inN bmN)(hBn:bmB.contains (.type Bn)=true)(FB:ExcBaseFacts B nid initId bmB)(ha:PA X (e₀::rest) t)
  (he:starEach (e₀::rest) X.env=(false,eval e₀ X.env)::starEach rest X.env:=by rfl) (hpl:(backTo cpos (starEach rest X.env)).any (·.1)=false:=by rfl) (hd:(x==("__debug__":Str))=false:=by decide) :
  PS X (.Raise (some (.Call (.Name x np) (e₀::rest) [] cpos)) none pos) (NZ E C t):=by
 intro pins s σ H D I h;unfold W.excIn at q;split at q
 ·rename_i dd cdt sl ho;split at q
  ·rename_i C' bm k0 k1 k2 k3 n k5 hmr hs;simp only[Ew,beq_iff_eq,E9] at q;obtain⟨⟨⟨⟨⟨rfl,rfl⟩,hdel⟩,ht⟩,hok⟩,hni⟩:=q;obtain⟨nm,bs,mro,ns,qn,hdd,sn,sub,ab,col,del⟩:=cdt;dsimp only at hmr hdel hok hni;subst hmr hdel;have hsl:sl=#[k0,k1,k2,k3,some (.builtin n),k5]:=by
    obtain⟨l⟩:=sl;simp only at hs;rw[hs]
   subst hsl;have T0:OwnTail s.heap bmB bm:=W.tail_of_in I.kIn ht;refine wpAny_Raise_call_subU (C:=C') (nm:=nm) (q:=qn) (N:=ns) (bs:=bs) (bm:=bm) (hdct:=hdd) (sn:=sn) (sub:=sub) (ab:=ab) (col:=col) (dd:=dd) (k0:=k0) (k1:=k1) (k2:=k2) (k3:=k3) (k5:=k5)
    Fn hBn FB (mN:=s.heap.nsMap ns) (T0.hasType FB.hasBase) (I.ok.hd hc) (by rw[he];show(false||(backTo cpos (starEach rest X.env)).any (·.1))=false;rw[hpl];rfl) (W.nsMap_none_of_in I.kIn hok hni) (X4 I hg hm ⟨rfl,?_⟩ hd)
   have ha':=ha cpos pins s σ H _ I h;rw[he] at ha' ⊢;have keepNs:∀{s2:Shared},X.K.In s2.heap->s2.heap.Ns ns (s.heap.nsMap ns):=λ{s2} kin=>by
    unfold W.nsOkIn at hok;split at hok
    ·rename_i oo es nn sl2 hoo;have n1:s.heap.Ns ns (s.heap.nsMap ns):=.of_isNs (W.isNs_of_in I.kIn (by unfold W.nsOkIn;rw[hoo];exact hok));exact n1.at' λo e=>by
      have e1:=I.kIn _ _ hoo;rw[e] at e1;cases e1;exact kin _ _ hoo
    ·cases hok
   exact Calls.evalArgs_plain (Ed ha' (fun us s2 ⟨vs,H1,I1,r,z,q⟩=>⟨rfl,by rw [<-r.length];exact z,I1.kIn _ _ ho,keepNs I1.kIn,W.tail_of_in I1.kIn ht,fun h' e hx=>th pins σ H1 s2 h' e _ _ I1 hx q⟩) fun _ _ y=>y)
  ·cases q
 ·cases q
end
abbrev Cx.hand (X:Cx)(e:Addr):Cx:={ X with A:=X.A.mark (some (.ref e)),calm:=false,xe:=λ_ _=>False }
section
variable {X:Cx} {pins:List (Addr×Obj)} {σ:St} {H:Hp} {s:Shared} {e:Addr}
theorem Inv.hand (I:Inv X pins σ H s)(e:Addr):Inv (X.hand e) pins σ H s:=
 ⟨⟨I.ok.mod,I.ok.kind,I.ok.glob,I.ok.blt,I.ok.above,I.ok.inj,I.ok.has,I.ok.cab,λz=>Bool.noConfusion (show false=true from z),I.ok.frames,I.ok.stk,I.ok.exf,I.ok.bs,I.ok.bsz,I.ok.noex,I.ok.exfs,I.ok.funs,I.ok.frf⟩,
  I.os,I.bare,I.base,I.loc,I.cell,I.free,I.freeC,I.pin,I.hok,I.len⟩
theorem Inv.unhand (hok:X.Ok)(I:Inv (X.hand e) pins σ H s):Inv X pins σ H s:=⟨hok,I.os,I.bare,I.base,I.loc,I.cell,I.free,I.freeC,I.pin,I.hok,I.len⟩
theorem SP.unhand (hok:X.Ok){D:Q6}{f:Flow}{s':Shared}(h:SP (X.hand e) pins D f s'):SP X pins D f s':=by
 cases f with
 | next=>obtain⟨σ',H',I,q⟩:=h;exact⟨σ',H',I.unhand hok,q⟩
 | brk=>obtain⟨σ',H',I,q⟩:=h;exact⟨σ',H',I.unhand hok,q⟩
 | cont=>obtain⟨σ',H',I,q⟩:=h;exact⟨σ',H',I.unhand hok,q⟩
 | ret u=>obtain⟨v,σ',H',I,r,q⟩:=h;exact⟨v,σ',H',I.unhand hok,r,q⟩
end
def Tq (e:Addr)(cls:Value)(h:Heap):Prop:=∃o vs,h.get? e=some o/\o.cls=cls/\o.data=.fields vs
abbrev TX:=St->Hp->VK->XK->Prop
def Ur (sp:Sp)(t:TA):TX:=λσ H Q E=>t σ H λvs H1=>sp vs H1 Q E
section
variable {X:Cx} {k:Nat} {f:Addr} {fd:FuncData} {ps:List Str} {sp:Sp} {x:Str} {p pos:Pos} {e:Expr} {es:List Expr} {t:TA}
variable {tx:TX}
def sxA (i:Nat)(tx:TX):Q6->XK->St->Hp->Prop:=λD E σ H=>tx σ H (λv H1=>D.nx (σ.set i (some v)) H1) E
end
section
variable {X:Cx} {body suite:List Stmt} {b₀:Stmt} {x n:Str} {C:Addr} {np hp pos:Pos} {tb:Q6->XK->St->Hp->Prop} {ts:TS}
theorem VY {Q:Unit->Shared->Prop}(I:Inv X pins σ H s)(ow:ZS X)(a:Air X pins H s.heap cls ea)
  (q:∀h',Inv X pins σ H { s with heap:=h' }->Air X pins H h' cls ea->Q () { s with heap:=h' }):wpAny M A (setFlight (.ref ea) none) Q E s:=by
 obtain⟨T,a0,hex,hexf,tr⟩:=a.two;refine lands_againW (base:=Y2 X s.heap [ea,T]) ⟨YI,Wj (by simp),ZV I,tr⟩ λh' fl up=>?_
 exact q h' (Wt I hex hexf fl.1 up) (Ji I ow.1 hex (by simp) fl.2.2.1 fl.2.2.2)
end
end L2
namespace L2
open PySem PySem.Spec PyProof.Rows PySem.W Builtin Builtin.ObjectAttr Builtin.Getset_descriptor
structure WW (K:W.Frag)(C:Addr):Prop where
 ga:W.findIn K (.ref C) "__getattribute__"=some (some (.builtin "BaseException.__getattribute__"))
 gt:W.findIn K (.ref C) "__getattr__"=some none
 ca:W.findIn K (.ref C) "__class__"=some (some (.builtin "object.__class__"))
 mB:W.mroIn K C (.type "BaseException")=some true
 mO:W.mroIn K C (.type "object")=some true
 hc:(W.clsIn K C).isSome=true
section
variable {prog:Program} {w:World} {A:Around} {E:Value->Shared->Prop} {h:Heap} {g:Array GenState} {d:Drawn} {t:Nat} {os:OsState} {K:W.Frag} {a C:Addr} {o:Obj}
theorem Tb {R:Result->Shared->Prop}{tp:Value}(Z:WW K C)(X:K.In h)(hx:h.get? a=some o)(hc:o.cls=.ref C)(q:R (.ok (.ret (.ref C))) ⟨h,g,d,t,os⟩) :
  codeAny (model prog w) A (.call (.builtin "getset_descriptor.__get__") ⟨[.builtin "object.__class__",.ref a,tp],[]⟩) R ⟨h,g,d,t,os⟩:=by
 have L0:W.Looks (model prog w) h (typeOf (.ref a)) (.ref C):=hc▸(W.Looks.ld hx).andThen .now;have L1:=W.looks_mroIn (M:=model prog w) X Z.mO;refine codeAny_call_builtin PySem.W.KF.slot_gs.plain PySem.W.KF.entry_gs (W.KF.slot_gs.check _ _ _ _ _ _ _ _ W.KF.type_class (W.KF.args_gs _ _ _) ?_);unfold Builtin.«getset_descriptor.__get__» descrGet;rw[W.dga_obj];refine FG (FM ?_);unfold descrGetter descrCheckInstance descrNameAndClass isInstance;simp only[W.KF.owner_class]
 repeat lk
 refine⟨Code.quiet_builtin _ (by decide +kernel),codeAny_builtin PySem.W.KF.entry_class ?_⟩;unfold Builtin.«object.__class__» shownTypeOf
 repeat lk
 exact q
theorem Nx {tk:Tok}{Q:Fin->Shared->Prop}(Z:WW K C)(X:K.In h)(hx:h.get? a=some o)(hc:o.cls=.ref C)(q:Q (.done (.ret (.ref C))) ⟨h,g,d,t,os⟩) :
  wpAny (model prog w) A (Builtin.«object.__getattribute__» ⟨[.ref a,.str "__class__" tk],[]⟩) Q E ⟨h,g,d,t,os⟩:=by
 have L0:W.Looks (model prog w) h (typeOf (.ref a)) (.ref C):=hc▸(W.Looks.ld hx).andThen .now;have L2:=W.looks_findIn (M:=model prog w) X Z.ca;have f5:typeOf (.builtin "object.__class__")=pure (.type "getset_descriptor"):=by kernel_rfl
 have f6:=F.slot_gs_get.lookup;have f7:=F.slot_gs_set.lookup;unfold Builtin.«object.__getattribute__»
 repeat (any_goals (first|assumption|(with_reducible refine wpAny_loadPart_at hx ?_;rw[hc])|with_reducible refine L2.at ?_|wp_step))
 refine Tb Z X hx hc ?_
 repeat (any_goals (first|assumption|wp_step))
theorem Nz {nameV:Value}{Q:Unit->Shared->Prop}(Z:WW K C)(X:K.In h)(hx:h.get? a=some o)(hc:o.cls=.ref C)(q:Q () ⟨h,g,d,t,os⟩):wpAny M A (checkBuiltinCall "BaseException.__getattribute__" ⟨[.ref a,nameV],[]⟩) Q E ⟨h,g,d,t,os⟩:=by
 have hk:builtinKind "BaseException.__getattribute__"=some .slot:=by decide +kernel
 have hsplit:splitId "BaseException.__getattribute__"=some ("BaseException","__getattribute__"):=by decide +kernel
 have ha:=F.args_bexc_ga (.ref a) nameV;have L1:=W.looks_mroIn (M:=M) X Z.mB;simp only[checkBuiltinCall,hk,hsplit];refine FG ?_;unfold isInstance
 repeat (first|(with_reducible refine wpAny_loadPart_at hx ?_;rw[hc])|with_reducible refine L1.at ?_|wp_step)
 exact q
theorem Ny {Q:Option Value->Shared->Prop}(Z:WW K C)(X:K.In h)(hx:h.get? a=some o)(hc:o.cls=.ref C)(q:Q (some (.ref C)) ⟨h,g,d,t+1,os⟩):wpAny (model prog w) A (getAttr? (.ref a) "__class__") Q E ⟨h,g,d,t,os⟩:=by
  have L0:W.Looks (model prog w) h (typeOf (.ref a)) (.ref C):=hc▸(W.Looks.ld hx).andThen .now;have L1:=W.looks_findIn (M:=model prog w) X Z.ga;have L2:=W.looks_findIn (M:=model prog w) X Z.gt;have f3:=F.attr_ValueError.ga.bind (.ref a);unfold getAttr? getAttrBy? getAttrBy;refine FG (wpAny_mkText (FG (wpAny_attempt (wpAny_holding (FG (L0.at (FG (L1.at ?_))))))));dsimp only;rw[FC (show¬((onTheHeap (Value.ref C)&&Value.builtin "BaseException.__getattribute__" == Value.builtin "object.__getattribute__")=true) by
    rw[show(Value.builtin "BaseException.__getattribute__" == Value.builtin "object.__getattribute__")=false by decide +kernel,EM];exact F4)]
  unfold getAttrByItsOwn hookBefore;rw[FD (show onTheHeap (Value.ref C)=true from rfl)];refine FG (L2.at ?_);refine FG (wpAny_attempt (wpAny_holding ?_));unfold callGetattribute;rw[FC (show¬((false&&onTheHeap (Value.builtin "BaseException.__getattribute__"))=true) from F4)];unfold boundAndCalled
  repeat (any_goals (first|assumption|wp_step))
  refine codeAny_call_builtin F.attr_ValueError.ga.plain F.entry_bexc_ga (Nz Z X hx hc (Nx Z X hx hc ?_))
  repeat (any_goals (first|assumption|wp_step))
theorem MG {e:Addr}(Z:WW K C):W.KitX K (.ref e) (.ref C) (Tq e (.ref C)) where
 ty:=λM h _ ⟨o,vs,h1,h2,_⟩=>h2▸(W.Looks.ld h1).andThen .now
 it:=λ_ _ X _=>by
  obtain⟨cd,hcd⟩:=Option.isSome_iff_exists.mp Z.hc;unfold W.clsIn at hcd;split at hcd
  ·rename_i c' d' cd' sl' ho;intro A' Q' E' s' k q;unfold isType loadHead;exact FG (wpAny_loadPart (k _ _ (X _ _ ho)) (FM q))
  ·cases hcd
 ne:=λh tp dd its n sl X htp=>by
  obtain⟨cd,hcd⟩:=Option.isSome_iff_exists.mp Z.hc;refine FL.mpr λq=>?_
  have e:C=tp:=Value.ref.inj (beq_iff_eq.mp q);subst e;unfold W.clsIn at hcd;split at hcd
  ·rename_i c' d' cd' sl' ho;have z:=(X _ _ ho).symm.trans htp;cases z
  ·cases hcd
 ca:=λ{_ _ _ _ _ s} X p k=>by
  obtain⟨h,g,d,t,os⟩:=s;obtain⟨o,vs,h1,h2,_⟩:=p;exact Ny Z X h1 h2 k
end
def SY (K:W.Frag):List V->Hp->VK->Prop:=λxs H Q=>∃e c C b u,xs=[.ref e,c]/\RelV c u/\(∀u',RelV c u'->u'=u)/\H e=some (.ext (Tq e (.ref C)))/\WW K C/\W.kitOne K (.ref C) u=some b/\Q (.bl b) H
def Ma (K:W.Frag):List V->Hp->VK->Prop:=λxs H Q=>Pd K xs H Q∨SY K xs H Q
section
variable {X:Cx}
theorem NM:CallR X (.builtin "isinstance") (Ma X.K):=by
 intro pins s σ H xs us Q I r h;rcases h with h|h
 ·exact M9 pins s σ H xs us Q I r h
 ·obtain⟨e,c,C,b,u,rfl,rc,uq,he,Z,k,q⟩:=h;obtain⟨u1,u2,rfl,r1,r2⟩:=Vy r;obtain rfl:=uq _ r2;obtain rfl:=r1.ref_of;obtain⟨p,_⟩:=(show ObjOk X.prog X.w H s.heap e (.ext (Tq e (.ref C))) from I.hok e _ he)
  exact W.kia_one (MG Z) I.kIn p k (λz=>nomatch z) λtk=>⟨.bl b,H,I.tok tk,rfl,q⟩
end
theorem Rz {x:V}{t:Value}{b:Bool}(ty:TyOf K H x t)(e:W.kitOne K t (.type T)=some b)(q:Q (.bl b) H):Ma K [x,.ty T] H Q:=.inl (Sl ty e q)
end L2
namespace L2
open PySem PySem.Spec PyProof.Rows
abbrev HF:List Value:=[.type "ValueError",.type "Exception",.type "BaseException",.type "object"]
theorem Lk {E:XK}{t:TA}{D:Q6}:NZ E C t D σ H=t σ H λvs H1=>vs.length<=sizeLine/\E (.ref C) none H1:=rfl
theorem T1 {tx:TX}{D:Q6}{E:XK}:sxA i tx D E σ H=tx σ H (λv H1=>D.nx (σ.set i (some v)) H1) E:=rfl
theorem TU {sp:Sp}{t:TA}{E:XK}:Ur sp t σ H Q E=t σ H λvs H1=>sp vs H1 Q E:=rfl
def Rp1 (φ:V->Hp->VK->XK->Prop):Sp:=λvs H Q E=>∃a,vs=[a]/\φ a H Q E
def Rp2 (φ:V->V->Hp->VK->XK->Prop):Sp:=λvs H Q E=>∃a b,vs=[a,b]/\φ a b H Q E
theorem ixK (K:W.Frag){X:Cx}(h:X.K=K):IxR X (rIx K):=by subst h;exact PZ
theorem eqK (K:W.Frag){X:Cx}(h:X.K=K)(hu:X.A.units+64<cLine):OpR X (compareOp .Eq) (KW K):=by subst h;exact PB hu
theorem neK (K:W.Frag){X:Cx}(h:X.K=K)(hu:X.A.units+64<cLine):OpR X (compareOp .NotEq) (Js K):=by subst h;exact Pu hu
theorem Zr (K:W.Frag){X:Cx}(h:X.K=K):CallR X (.builtin "len") (N9 K):=by subst h;exact NL
theorem slK (K:W.Frag){X:Cx}(h:X.K=K):SlR X (Pc K):=by subst h;exact Lv
theorem piK (K:W.Frag){X:Cx}{tg l:Expr}{tl:TE}(h:X.K=K)(hl:PE X l tl):PI X tg l (MJ K tl):=by subst h;exact LR hl
theorem pgK (K:W.Frag){X:Cx}{es:List Expr}{k:Nat}{t:TGs}{n:Nat}{pos:Pos}(h:X.K=K)(hc:X.calm=true)(hg:PGs X es t)(hn:(assignEach es X.env).length=n:=by rfl)(hst:(assignEach es X.env).findIdx? (·.1)=none:=by rfl):PG X (.Tuple es k pos) (P7 K n t):=by
 subst h;exact Pm hc hg hn hst
section
variable {X:Cx} {o e:Expr} {es:List Expr} {to:TE} {t:TA} {T:String} {name:Str} {id:String} {r:V->List V->Hp->VK->Prop} {apos cpos:Pos}
theorem LZ (K:W.Frag)(h:X.K=K)(pa:PlainAttrs T)(slot:Slot T name id)(hty:typeOf (.builtin id)=pure (.type "method_descriptor"))(hm:MtR X id r)(ho:PE X o to)
  (hbase:attributeBase o name X.env (eval o X.env)=eval o X.env:=by rfl) (hline:(apos.endLine==cpos.line)=true:=by rfl):PE X (.Call (.Attribute o name apos) [] [] cpos) (RT K T r to):=by
 subst h;exact Pp pa slot hty hm ho hbase hline
theorem QQ (K:W.Frag)(h:X.K=K)(pa:PlainAttrs T)(slot:Slot T name id)(hty:typeOf (.builtin id)=pure (.type "method_descriptor"))(hm:MtR X id r)(ho:PE X o to)(ha:PA X (e::es) t)
  (hbase:attributeBase o name X.env (eval o X.env)=eval o X.env:=by rfl)
  (hfew:((backTo cpos (starEach (e::es) X.env)).all (λx=>!x.1)&&(backToKw cpos (keywordEach [] X.env)).all (λx=>x.1.isSome)
   && decide ((e::es).length+([]:List Keyword).length+(if([]:List Keyword).isEmpty then 0 else 1)<30))=true:=by rfl)
  (hline:(apos.endLine==cpos.line)=true:=by rfl) (hs:starEach (e::es) X.env=(false,eval e X.env)::starEach es X.env:=by rfl) (hplain:(backTo cpos (starEach es X.env)).any (·.1)=false:=by rfl) :
  PE X (.Call (.Attribute o name apos) (e::es) [] cpos) (tBM K T r to t):=by
 subst h;exact Hg pa slot hty hm ho ha hbase hfew hline hs hplain
def KU (K:W.Frag):List V->Hp->VK->Prop:=λxs H Q=>∃p ys,xs=[.ref p]/\(SqL K H p ys∨SqT K H p ys)/\∀l,H l=none->Q (.ref l) (upd H l (.lst ys))
theorem ZQ (K:W.Frag)(h:X.K=K):CallR X (.type "list") (KU K):=by subst h;exact Vs
def N8 (K:W.Frag):List V->Hp->VK->Prop:=λxs H Q=>∃p ys,xs=[.ref p]/\((SqL K H p ys/\∀l,H l=none->Q (.ref l) (upd H l (.tup ys)))∨(SqT K H p ys/\Q (.ref p) H))
theorem RN (K:W.Frag)(h:X.K=K):CallR X (.type "tuple") (N8 K):=by subst h;exact Ke
end
def Fq (K:W.Frag)(H:Hp)(q:Rat)(v:V):Prop:=∃p,v=.ref p/\SqT K H p [.int q.num,.int q.den]
abbrev FA:=Rat×Rat×Rat
def All2 (R:α->V->Prop)(qs:List α)(vs:List V):Prop:=qs.length=vs.length/\∀(i:Nat) q v,qs[i]?=some q->vs[i]?=some v->R q v
theorem All2.get {R:α->V->Prop}{qs:List α}{q:α}(h:All2 R qs vs)(a:qs[i]?=some q):∃v,vs[i]?=some v/\R q v:=by
 have hi:i<vs.length:=by rw [<-h.1];exact (FZ.mp a).1
 exact⟨vs[i],FI hi,h.2 i q _ a (FI hi)⟩
theorem All2.getV {R:α->V->Prop}{qs:List α}(h:All2 R qs vs)(a:vs[i]?=some v):∃q,qs[i]?=some q/\R q v:=by
 have hi:i<qs.length:=by rw[h.1];exact(FZ.mp a).1
 exact⟨qs[i],FI hi,h.2 i _ v (FI hi) a⟩
end L2
namespace L2
theorem ZW {l:List α}{r:α}(h:l[i]?=some r):i<l.length:=(FZ.mp h).1
end L2
namespace L2
open PySem PySem.Spec PyProof.Rows
structure BM (K:W.Frag)(mg:Str->Option Value)(n:Str)(a:Addr)(xs:List V):Prop where
 m:mg n=some (.ref a)
 s:∀H,SqT K H a xs
theorem Hm {n:Str}{a:Addr}{i:Int}{t u:Tok}{k:Nat}{sl:Array (Option Value)}(m:mg n=some (.ref a))(l:K.lookup a=some ⟨.type "tuple",od,.seq #[.int i t,.int j u] k,sl⟩):BM K mg n a [.int i,.int j]:=
 ⟨m,λH=>.inr ⟨_,_,_,l,rfl,rfl,by show 2<=sizeLine;decide,.cons ⟨t,rfl⟩ (.cons ⟨u,rfl⟩ .nil)⟩⟩
theorem Hf {n:Str}{a:Addr}(k:BM X.K X.mg n a xs)(hg:Gl X n:=by rfl)(hd:(n==("__debug__":Str))=false:=by decide):PE X (.Name n pos) (tC (.ref a)):=ZO (v:=.ref a) hg k.m rfl hd
theorem Fq.rep {q:Rat}(h:Fq K H q v):∃p,v=.ref p/\Rep K H (fr q.num q.den) (.ref p):=by
 obtain⟨p,e,h⟩:=h;exact⟨p,e,X0 h⟩
theorem fr_eq {a b:Rat}:(fr a.num a.den=fr b.num b.den)↔a=b:=by
 refine⟨λh=>?_,λh=>by rw[h]⟩;have h1:a.num=b.num/\(a.den:Int)=(b.den:Int):=by
  unfold fr at h;simp only[D.tup.injEq,List.cons.injEq,D.int.injEq] at h;exact⟨h.1,h.2.1⟩
 exact Rat.ext h1.1 (by omega)
theorem Si {a b:Rat}{x:V}(h1:Fq K H a x)(h2:Fq K H b y)(q:Q (.bl (!decide (a=b))) H):Js K x y H Q:=by
 obtain⟨p,rfl,r1⟩:=h1.rep;obtain⟨p',rfl,r2⟩:=h2.rep;exact Gb (b:=decide (a=b)) r1 r2 Uc (by rw[decide_eq_true_iff];exact fr_eq.symm) q
abbrev Pr:=Int×Rat
def SX (K:W.Frag):List V->Hp->VK->Prop:=λxs H Q=>∃p c b u,xs=[.ref p,c]/\RelV c u/\(∀u',RelV c u'->u'=u)/\((∃ys,SqT K H p ys/\W.kitOne K (.type "tuple") u=some b)∨(∃ys,SqL K H p ys/\W.kitOne K (.type "list") u=some b))/\Q (.bl b) H
def Gn (K:W.Frag):List V->Hp->VK->Prop:=λxs H Q=>Ma K xs H Q∨SX K xs H Q
theorem Kd (K:W.Frag){X:Cx}(hK:X.K=K):CallR X (.builtin "isinstance") (Gn K):=by
 subst hK;intro pins s σ H xs us Q I r h;rcases h with h|⟨p,c,b,u,rfl,rc,uq,hh,q⟩
 ·exact NM pins s σ H xs us Q I r h
 ·obtain⟨u1,u2,rfl,r1,r2⟩:=Vy r;obtain rfl:=uq _ r2;obtain rfl:=r1.ref_of;rcases hh with ⟨ys,hs,k⟩|⟨ys,hs,k⟩
  ·obtain⟨its,_,⟨o,e1,e2,_⟩,_⟩:=I.tuple hs;exact W.kia_one W.kitx_tuple I.kIn ⟨o,e1,e2⟩ k (λz=>nomatch z) λtk=>⟨.bl b,H,I.tok tk,rfl,q⟩
  ·obtain⟨its,_,⟨o,n,e1,e2,_⟩,_⟩:=I.list hs;exact W.kia_one W.kitx_list I.kIn ⟨o,e1,e2⟩ k (λz=>nomatch z) λtk=>⟨.bl b,H,I.tok tk,rfl,q⟩
theorem Jj {x:V}{t:Value}{b:Bool}(ty:TyOf K H x t)(e:W.kitOne K t (.type T)=some b)(q:Q (.bl b) H):Gn K [x,.ty T] H Q:=.inl (Rz ty e q)
theorem Sm {ys:List V}(h:SqT K H p ys)(q:Q (.bl true) H):Gn K [.ref p,.ty "tuple"] H Q:=.inr ⟨p,.ty "tuple",true,.type "tuple",rfl,rfl,λ_ h=>h,.inl ⟨ys,h,rfl⟩,q⟩
theorem U5 (xs:List V)(k:Nat):X5 xs none (some (k:Int))=xs.take k:=by
 unfold X5;rw[HT.sIx_none,HT.sIx_nat,List.drop_zero,Nat.sub_zero];by_cases h:k<=xs.length
 ·rw[Nat.min_eq_left h]
 ·rw[Nat.min_eq_right (by omega),Eg (FE _),Eg (by omega)]
theorem WT (xs:List V)(k:Nat):X5 xs (some (k:Int)) none=xs.drop k:=by
 unfold X5;rw[HT.sIx_none,HT.sIx_nat];by_cases h:k<=xs.length
 ·rw[Nat.min_eq_left h,Eg (by rw[EL];omega)]
 ·rw[Nat.min_eq_right (by omega),List.drop_of_length_le (FE _),List.drop_of_length_le (by omega)];simp
theorem BA (xs:List V)(j k:Nat):X5 xs (some (j:Int)) (some (k:Int))=(xs.drop j).take (k-j):=by
 unfold X5;rw[HT.sIx_nat,HT.sIx_nat];by_cases h:j<=xs.length
 ·rw[Nat.min_eq_left h];by_cases h2:k<=xs.length
  ·rw[Nat.min_eq_left h2]
  ·rw[Nat.min_eq_right (by omega),Eg (by rw[EL];omega),Eg (by rw[EL];omega)]
 ·rw[show min j xs.length=xs.length by omega,List.drop_of_length_le (FE _),List.drop_of_length_le (by omega)];simp
def term (p:Pr)(t:List Pr)(x:Rat):Rat:=match t with
 | []=>if x<=p.1 then 0 else p.2*(x-p.1)
 | p' :: _=>if x<=p.1 then 0 else if x<=p'.1 then p.2*(x-p.1) else p.2*((p'.1:Rat)-p.1)
section
variable {X:Cx} {pins:List (Addr×Obj)} {σ:St} {H:Hp} {s:Shared} {h':Heap}
theorem Inv.turnedL (I:Inv X pins σ H s)(k:∀b o,b∉fp->s.heap.get? b=some o->h'.get? b=some o)(hf:∀b∈fp,Ww X pins H b):Inv X pins σ H { s with heap:=h',toks:=t' }:=by
 have nit:∀b u,H b=some u->b∉fp:=λb u e z=>by rw[(hf b z).1] at e;cases e
 refine I.step (g':=s.gens) (d':=s.drawn) (ch:=fp) (λb hb=>⟨(hf b hb).2.2.2.1,(hf b hb).2.1,(hf b hb).2.2.2.2.1,(hf b hb).2.2.2.2.2⟩) (λb o _ _ hc e _=>k b o hc e) (λb o _ _ hc e _=>⟨o.slots,k b o hc e⟩) (λ_ _ _ _ n=>n)
  (λb o hc e=>⟨o,k b o hc e⟩) (λ_ _ e=>e) (λ_ _ _ e=>e) (λb ps e=>⟨#[],by rw[e];simp⟩) (λm hm=>?_) (λb u e=>?_) I.bare
 ·obtain⟨o,es,ep,ho,r⟩:=hm;exact⟨o,es,ep,k _ o (λz=>(hf _ z).2.1 rfl) ho,r⟩
 ·refine(I.hok b u e).stay (λc v hc q=>k c v ?_ q) (λ_ q=>q) λ_ _ q=>q
  rcases hc with z|z
  ·rw[z];exact nit b u e
  ·exact nit c _ z
theorem Inv.trackNew {D:Addr}{s0:Shared}(I:Inv X pins σ H s)(I0:Inv X pins σ H s0)(hD:s0.heap.objs.size<=D)(new:ObjOk X.prog X.w (upd H D o) s.heap D o):Inv X pins σ (upd H D o) s:=by
 refine I.track (F2 I0.sz hD) (I0.hok.fresh hD) (λz=>?_) (λx c e z=>?_) (λp hp z=>?_) new
 ·have:=I0.lt;exact FY _ (FW (z▸this) hD)
 ·obtain⟨v,q⟩:=I0.cell x c e;exact FY _ (FW (z▸q.lt) hD)
 ·have:=FJ (I0.pin p hp).1;exact FY _ (FW (z▸this) hD)
end
def Ite (K:W.Frag)(a:Addr):It:=
 ⟨λi H=>∃xs x,SqL K H a xs/\xs[i]?=some x,λi H v H'=>∃p x,v=.ref p/\H p=none/\H'=upd H p (.tup [.int i,x])/\∀xs,SqL K H a xs->xs[i]?=some x,λi H=>∃xs,SqL K H a xs/\xs.length<=i⟩
theorem GV {k:Nat}(a e it:Addr)(hne:e≠it):Um P w K (.Tuple es k pos) (Ite K a) [e,it] e (λi h=>∃old,IsEnum h e it i old/\h.IsListIter it a i) where
 mem:=by simp
 obj:=λi h st b hb=>by
  obtain⟨old,h1,o,e1,c,d⟩:=st;rcases FP.mp hb with rfl|hb
  ·exact⟨_,h1,λv z=>by
    have z':Data.fields _=Data.cell v:=z;cases z'⟩
  ·have:b=it:=by simpa using hb
   subst this;exact⟨o,e1,λv z=>by rw[d] at z;cases z⟩
 keep:=λi h h' ⟨old,h1,st⟩ k=>⟨old,k e (by simp) _ h1,st.at λo e=>k it (by simp) o e⟩
 item:=by
  intro X hP hw hK hc i pins s σ H E I hf st hg;subst hP hw hK;obtain⟨xs,x,hq,hx⟩:=hg;obtain⟨its,rv,p,hz⟩:=I.list hq;obtain⟨u,hu,ru⟩:=rv.get hx;obtain⟨old,h1,h2⟩:=st;refine wpAny_pyNext_enum_item h1 h2 p.isList (x:=u) (by simpa using hu) hne λh' e1 e2 e3 e4 e5=>?_
  refine⟨_,rfl,wpAny_letOwnedTupleGo_enum (s:={ s with heap:=h',toks:=s.toks+1 }) e1 λh2' e6 sb=>?_⟩;have ne0:e≠s.heap.objs.size:=FU (FJ h1);have I1:Inv X pins σ H { s with heap:=h2',toks:=s.toks+1 }:=I.turnedL (fp:=[e,it]) (λb o hb q=>by
   have n1:b≠e:=λz=>hb (by simp[z])
   have n2:b≠it:=λz=>hb (by simp[z])
   exact(sb.2 b n1).trans (e5 b o n1 n2 q)) hf
  have et:h2'.get? s.heap.objs.size=some { cls:=.type "tuple",data:=.seq #[.int i s.toks,u] }:=(sb.2 _ (Ey ne0)).trans e3;have I2:=I1.trackNew (o:=.tup [.int i,x]) I (FE _) ⟨by show 2<=sizeLine;decide,[.int i s.toks,u],.cons ⟨_,rfl⟩ (.cons ru .nil),?_⟩
  ·refine⟨.ref s.heap.objs.size,_,I2,rfl,⟨_,x,rfl,I.hok.fresh (FE _),rfl,λys hy=>by rw[I.list_inj hy hq];exact hx⟩,⟨u,?_,?_⟩,λb hb=>?_⟩
   ·have:((i:Int)+1)=((i+1:Nat):Int):=by omega
    rw[this] at e6;exact e6
   ·exact e2.at λo q=>(sb.2 _ (Ey hne)).trans q
   ·rw[Qq ?_]
    ·exact(hf b hb).1
    ·intro z;obtain⟨o,q,r⟩:=h2;rcases FP.mp hb with hb|hb
     ·exact ne0 (hb▸z)
     ·have:b=it:=by simpa using hb
      rw[this] at z;exact FU (FJ q) z
  ·exact⟨_,et,rfl,0,rfl⟩
 done:=by
  intro X hP hw hK hc i pins s σ H E I hf st hg;subst hP hw hK;obtain⟨xs,hq,hx⟩:=hg;obtain⟨its,rv,p,hz⟩:=I.list hq;obtain⟨old,h1,h2⟩:=st;have hl:=rv.length;exact wpAny_pyNext_enum_end (I.ok.hd hc) h1 h2 p.isList (by simp;omega) λh' eb=>⟨rfl,I.turnedL (fp:=[e,it]) (t':=s.toks) (λb o hb q=>eb b o (λz=>hb (by simp[z])) q) hf⟩
 self:=λ_ _ _ _ _ ⟨old,h1,_⟩ h=>wpAny_pyIter_enum h1 h
def B7 (K:W.Frag)(ta:TA):TI:=λσ H R=>ta σ H λvs H1=>∃a,vs=[.ref a]/\(∃xs,SqL K H1 a xs)/\R (Ite K a) H1
theorem LU (K:W.Frag){es:List Expr}{k:Nat}{a:Expr}{ta:TA}{p pos pt:Pos}(hK:X.K=K)(hg:Gl X "enumerate")(hm:X.mg "enumerate"=none)(ha:PA X [a] ta)(hs:starEach [a] X.env=[(false,eval a X.env)]:=by rfl):PI X (.Tuple es k pt) (.Call (.Name "enumerate" p) [a] [] pos) (B7 K ta):=by
 subst hK;intro pins s σ H R I h;refine Call_ (WO I hg hm boot_enumerate (E8 (thn (ha pos pins s σ H _ I h) λus s1 ⟨vs,H1,I1,r1,q1⟩=>?_) hs rfl));obtain⟨l,rfl,⟨xs,hq⟩,q⟩:=q1;obtain⟨u1,rfl,r2⟩:=Xj r1;obtain rfl:=r2.ref_of;obtain⟨its,rv,pl,hz⟩:=I1.list hq;refine call_enumerate_list pl.isList λh' e1 e2 e3 e4=>?_
 have I2:Inv X pins σ H1 { s1 with heap:=h' }:=I1.kept (t':=s1.toks) e4;refine wpAny_pyIter_enum (s:={ s1 with heap:=h' }) e1 ?_;refine⟨s1.heap.objs.size+1,[s1.heap.objs.size+1,s1.heap.objs.size],_,_,H1,rfl,I2,GV l _ _ (Nat.succ_ne_self _),⟨_,e1,e2⟩,λb hb=>?_,q⟩;have hb':s1.heap.objs.size<=b:=by
  rcases FP.mp hb with hb|hb
  ·rw[hb];exact ET _
  ·have:b=s1.heap.objs.size:=by simpa using hb
   rw[this];exact FE _
 exact I1.fpOk hb' (I1.hok.fresh hb')
theorem Fi {a:Addr}{D:Q6}(Pv:Nat->St->Hp->Prop)(h0:Pv 0 σ H)(hl:∀i σ H,i<=xs.length->Pv i σ H->SqL K H a xs)
  (hs:∀i x σ H p,xs[i]?=some x->Pv i σ H->H p=none->g (.ref p) σ (upd H p (.tup [.int (i:Nat),x])) λσ2 H2=>tb { D with nx:=Pv (i+1),ct:=Pv (i+1),bk:=D.nx } σ2 H2) (hd:∀σ H,Pv xs.length σ H->D.nx σ H):Uo (Ite K a) g tb D σ H:=by
 refine⟨λi m σ H=>m=xs.length-i/\i<=xs.length/\Pv i σ H,⟨xs.length,by simp,F7 _,h0⟩,?_⟩;rintro i m σ H ⟨rfl,hi,p⟩;have q:=hl i σ H hi p;by_cases hlt:i<xs.length
 ·refine .inr ⟨⟨xs,xs[i],q,by simp[hlt]⟩,Pv (i+1),λσ' H' p'=>⟨xs.length-(i+1),by omega,rfl,hlt,p'⟩,λx H' y=>?_⟩;obtain⟨pp,x',rfl,hn,rfl,y⟩:=y;exact hs i x' σ _ pp (y xs q) p hn
 ·have e:i=xs.length:=by omega
  subst e;exact .inl ⟨⟨xs,q,FE _⟩,hd σ H p⟩
def Vp (cells:List (Str×Addr)):List (Str×NameKind)->List (Str×Addr)->Option (List (Str×Addr))
 | [],acc=>some acc
 | (n,k)::r,acc=>if k==.free then(match cells.lookup n with|some a=>Vp cells r ((n,a)::acc)|none=>none) else Vp cells r acc
theorem JN {cells:List (Str×Addr)}:∀{names:List (Str×NameKind)}{acc cl:List (Str×Addr)},Vp cells names acc=some cl->(∀p∈acc,cells.lookup p.1=some p.2)->∀p∈cl,cells.lookup p.1=some p.2
 | [],acc,cl,h,ha=>by
  have:acc=cl:=FX h;subst this;exact ha
 | (n,k)::r,acc,cl,h,ha=>by
  unfold Vp at h;split at h
  ·split at h
   ·rename_i a e;exact JN h λp hp=>by
     rcases FP.mp hp with rfl|hp
     ·exact e
     ·exact ha p hp
   ·cases h
  ·exact JN h ha
theorem ND {cl:List (Str×Addr)}(h:Vp env.cells scope.names []=some cl):closureFor scope env=pure cl:=by
 simp only[closureFor];have gen:∀(names:List (Str×NameKind)) (acc:List (Str×Addr)),Vp env.cells names acc=some cl->(do let r <-forIn names acc λ(x:Str×NameKind) (cs:List (Str×Addr))=>if(x.2==NameKind.free)=true then do let a <-cellOf env x.1;pure (ForInStep.yield ((x.1,a)::cs)) else pure (ForInStep.yield cs);pure r)=(pure cl:Sem _):=by
  intro names
  induction names with
  | nil=>intro acc h;have:acc=cl:=FX h;subst this;rfl
  | cons y r ih=>
   intro acc h;obtain⟨n,k⟩:=y;unfold Vp at h;rw[List.forIn_cons];split at h
   ·rename_i e;split at h
    ·rename_i a ea;simp only[FD e];have:=ih _ h;simp only[cellOf,ea];exact this
    ·cases h
   ·rename_i e;simp only[FC e];exact ih _ h
 exact Eq.trans (congrArg (λm:Sem (List (Str×Addr))=>m >>= pure) (gen _ _ h)) rfl
theorem UV {cl:List (Str×Addr)}{c:Addr}(h:cl.lookup x=some c):(x,c)∈cl:=by
 induction cl with
 | nil=>simp at h
 | cons y r ih=>
  rw[List.lookup_cons] at h;split at h
  ·rename_i e;have e':x=y.1:=by simpa using e
   cases h;rw[e'];exact Eb ..
  ·exact F5 _ (ih h)
def HE (X:Cx)(scope:Scope)(N:List Str)(caps:List (Option Nat)):Bool:=(List.range N.length).all λi=>match N[i]?,caps[i]? with
 | some x,some (some j)=>X.N[j]? == some x&&X.env.kindOf x==some .cell&&(relabel scope X.env).names.lookup x==some .cell
 | _,_=>true
theorem BB {cl:List (Str×Addr)}{N:List Str}(clos:Vp X.env.cells scope.names []=some cl)(kind:scope.kind=.function)(nm:(scope.names.all λy=>y.2 != .cell&&(y.2 != .local||scope.names.lookup y.1==some .local))=true)
  (has:((relabel scope X.env).names.all λy=>(y.2 != .cell&&y.2 != .free)||(cl.lookup y.1).isSome)=true) (cap:HE X scope N caps=true) (len:caps.length=N.length):YC X scope cl N caps where
 clos:=ND clos
 kind:=kind
 nocell:=λy hy z=>by
  have:=Ex.mp nm y hy;rw[z] at this;simp at this
 names:=λy hy z=>by
  have:=Ex.mp nm y hy;rw[z] at this;simpa using this
 sub:=λx c h=>JN clos (λp hp=>absurd hp (by simp)) _ (UV h)
 has:=λx h=>by
  have gen:∀(l:List (Str×NameKind)),(l.all λy=>(y.2 != .cell&&y.2 != .free)||(cl.lookup y.1).isSome)=true->(l.lookup x=some .cell∨l.lookup x=some .free)->∃c,cl.lookup x=some c:=by
   intro l
   induction l with
   | nil=>intro _ h;simp at h
   | cons y r ih=>
    intro ha h;rw[List.all_cons,Ew] at ha;rw[List.lookup_cons] at h;split at h
    ·rename_i e;have e':x=y.1:=by simpa using e
     have h3:y.2=.cell∨y.2=.free:=h.elim (λh=>.inl (FX h)) (λh=>.inr (FX h));have:=ha.1;have h4:(cl.lookup y.1).isSome=true:=by
      rcases h3 with h3|h3<;>rw[h3] at this<;>exact this
     rw[e'];exact Option.isSome_iff_exists.mp h4
    ·exact ih ha.2 h
  exact gen _ has h
 cap:=λi j x h1 h2=>by
  have hi:=ZW h1;have:=Ex.mp cap i (List.mem_range.mpr hi);simp only[h1,h2,Ew,beq_iff_eq] at this;exact⟨this.1.1,this.1.2,this.2⟩
 len:=len
theorem W8 {cl:List (Str×Addr)}{N:List Str}(a:Vp X.env.cells scope.names []=some cl:=by rfl)(b:scope.kind=.function:=by rfl)(c:(scope.names.all λy=>y.2 != .cell&&(y.2 != .local||scope.names.lookup y.1==some .local))=true:=by rfl)(d:((relabel scope X.env).names.all λy=>(y.2 != .cell&&y.2 != .free)||(cl.lookup y.1).isSome)=true:=by rfl)(e:HE X scope N caps=true:=by rfl)(f:caps.length=N.length:=by rfl):YC X scope cl N caps:=BB a b c d e f
theorem Xi:Kh caps wi g tt te σ H Q=wi σ H λJ H1=>Up J g tt te (JS caps σ) H1 Q:=rfl
theorem Y6 {Q:Bool->Hp->Prop}:RP σ H Q=Q true H:=rfl
def CN (Pv:Nat->List V->St->Hp->Prop)(n i:Nat)(acc:List V)(σ:St)(H:Hp):Prop:=∃m',m'<n-i/\m'=n-(i+1)/\i+1<=n/\acc.length<=i+1/\Pv (i+1) acc σ H
theorem CN.mk {Pv:Nat->List V->St->Hp->Prop}{acc:List V}(hi:i<n)(ha:acc.length<=i+1)(h:Pv (i+1) acc σ H):CN Pv n i acc σ H:=⟨n-(i+1),by omega,rfl,hi,ha,h⟩
theorem Wo {a:Addr}(Pv:Nat->List V->St->Hp->Prop)(h0:Pv 0 [] σ0 H)(hl:∀i acc σ H,i<=xs.length->Pv i acc σ H->SqL K H a xs)(hn:xs.length<=1000)
  (hs:∀i x acc σ H,xs[i]?=some x->acc.length<=i->Pv i acc σ H->g x σ H λσ2 H2=>tt σ2 H2 λb H3=>if b=true then te σ2 H3 λv H4=>CN Pv xs.length i (acc++[v]) σ2 H4 else CN Pv xs.length i acc σ2 H3)
  (hd:∀acc σ H,Pv xs.length acc σ H->∀p,H p=none->Q (.ref p) (upd H p (.lst acc))):Up (Itl K a) g tt te σ0 H Q:=by
 refine⟨λi m acc σ H=>m=xs.length-i/\i<=xs.length/\acc.length<=i/\Pv i acc σ H,⟨xs.length,by simp,F7 _,FE _,h0⟩,?_⟩;rintro i m acc σ H ⟨rfl,hi,ha,p⟩;have q:=hl i acc σ H hi p;by_cases hlt:i<xs.length
 ·refine .inr ⟨⟨xs,xs[i],q,by simp[hlt]⟩,YD (by omega),λx H' y=>?_⟩;obtain⟨e,y⟩:=y;subst e;exact hs i x acc σ _ (y xs q) ha p
 ·have e:i=xs.length:=by omega
  subst e;exact .inl ⟨⟨xs,q,FE _⟩,hd acc σ H p⟩
def Itz (K:W.Frag)(a b:Addr):It:=
 ⟨λi H=>∃xs ys x y,SqL K H a xs/\SqL K H b ys/\xs[i]?=some x/\ys[i]?=some y,λi H v H'=>∃p x y,v=.ref p/\H p=none/\H'=upd H p (.tup [x,y])/\(∀xs,SqL K H a xs->xs[i]?=some x)/\∀ys,SqL K H b ys->ys[i]?=some y,
  λi H=>∃xs ys,SqL K H a xs/\SqL K H b ys/\(xs.length<=i∨ys.length<=i)⟩
theorem NW {k:Nat}(l1 l2 z TI TO i1 i2:Addr)(D:ZipApart z TI TO i1 i2 l1 l2) :
  Um P w K (.Tuple es k pos) (Itz K l1 l2) [z,TI,TO,i1,i2] z (λi h=>IsZip h z TI TO .none/\IsPair h TI (.ref i1) (.ref i2)/\(∃a b,IsPair h TO a b)/\h.IsListIter i1 l1 i/\h.IsListIter i2 l2 i) where
 mem:=by simp
 obj:=λi h st b hb=>by
  obtain⟨hz,h1,⟨_,_,h2⟩,⟨o3,e3,_,d3⟩,⟨o4,e4,_,d4⟩⟩:=st;simp only[FP,List.not_mem_nil,or_false] at hb;rcases hb with rfl|rfl|rfl|rfl|rfl
  ·exact⟨_,hz,λv q=>by have q':Data.fields _=Data.cell v:=q;cases q'⟩
  ·exact⟨_,h1,λv q=>by have q':Data.seq _ _=Data.cell v:=q;cases q'⟩
  ·exact⟨_,h2,λv q=>by have q':Data.seq _ _=Data.cell v:=q;cases q'⟩
  ·exact⟨o3,e3,λv q=>by rw[d3] at q;cases q⟩
  ·exact⟨o4,e4,λv q=>by rw[d4] at q;cases q⟩
 keep:=λi h h' ⟨hz,h1,⟨a,b,h2⟩,h3,h4⟩ k=>⟨k z (by simp) _ hz,k TI (by simp) _ h1,⟨a,b,k TO (by simp) _ h2⟩,h3.at λo e=>k i1 (by simp) o e,h4.at λo e=>k i2 (by simp) o e⟩
 item:=by
  intro X hP hw hK hc i pins s σ H E I hf st hg;subst hP hw hK;obtain⟨xs,ys,x,y,hq1,hq2,hx,hy⟩:=hg;obtain⟨its1,rv1,p1,_⟩:=I.list hq1;obtain⟨its2,rv2,p2,_⟩:=I.list hq2;obtain⟨u1,hu1,ru1⟩:=rv1.get hx;obtain⟨u2,hu2,ru2⟩:=rv2.get hy;obtain⟨hz,hTI,⟨a,b,hTO⟩,h1,h2⟩:=id st;refine wpAny_pyNext_zip_item D hz hTI hTO h1 h2 p1.isList p2.isList (x:=u1) (y:=u2) (by simpa using hu1) (by simpa using hu2) λh' e1 e2 e3 e4 e5 e6 e7=>?_
  refine⟨_,rfl,wpAny_letOwnedTupleGo_zip (s:={ s with heap:=h' }) e1 λh2' e8 sb=>?_⟩;have ne0:z≠s.heap.objs.size:=FU (FJ hz);have I1:Inv X pins σ H { s with heap:=h2' }:=I.turnedL (fp:=[z,TI,TO,i1,i2]) (t':=s.toks) (λb o hb q=>by
   have n1:b≠z:=λq=>hb (by simp[q])
   exact(sb.2 b n1).trans (e7 b o n1 (λq=>hb (by simp[q])) (λq=>hb (by simp[q])) (λq=>hb (by simp[q])) q)) hf
  have et:h2'.get? s.heap.objs.size=some { cls:=.type "tuple",data:=.seq #[u1,u2] }:=(sb.2 _ (Ey ne0)).trans e5;have I2:=I1.trackNew (o:=.tup [x,y]) I (FE _) ⟨by show 2<=sizeLine;decide,[u1,u2],.cons ru1 (.cons ru2 .nil),⟨_,et,rfl,0,rfl⟩⟩;refine⟨.ref s.heap.objs.size,_,I2,rfl,⟨_,x,y,rfl,I.hok.fresh (FE _),rfl,λys hy'=>by rw[I.list_inj hy' hq1];exact hx,λys hy'=>by rw[I.list_inj hy' hq2];exact hy⟩,⟨e8,?_,⟨_,_,(sb.2 _ D.TOz).trans e2⟩,e3.at λo q=>(sb.2 _ D.i1z).trans q,e4.at λo q=>(sb.2 _ D.i2z).trans q⟩,λb hb=>?_⟩
  ·exact(sb.2 _ D.TIz).trans (e7 _ _ D.TIz D.TITO D.TIi1 D.TIi2 hTI)
  ·rw[Qq ?_]
   ·exact(hf b hb).1
   ·intro q;have:∃o,s.heap.get? b=some o:=by
     simp only[FP,List.not_mem_nil,or_false] at hb;obtain⟨o3,g3,_⟩:=h1;obtain⟨o4,g4,_⟩:=h2;rcases hb with rfl|rfl|rfl|rfl|rfl
     ·exact⟨_,hz⟩
     ·exact⟨_,hTI⟩
     ·exact⟨_,hTO⟩
     ·exact⟨_,g3⟩
     ·exact⟨_,g4⟩
    obtain⟨o,g⟩:=this;exact FU (FJ g) q
 done:=by
  intro X hP hw hK hc i pins s σ H E I hf st hg;subst hP hw hK;obtain⟨xs,ys,hq1,hq2,hx⟩:=hg;obtain⟨its1,rv1,p1,_⟩:=I.list hq1;obtain⟨its2,rv2,p2,_⟩:=I.list hq2;obtain⟨hz,hTI,⟨a,b,hTO⟩,h1,h2⟩:=st;have hl1:=rv1.length;have hl2:=rv2.length;refine wpAny_pyNext_zip_end (I.ok.hd hc) D hz hTI hTO h1 h2 p1.isList p2.isList ?_ λh' eb=>⟨rfl,I.turnedL (fp:=[z,TI,TO,i1,i2]) (t':=s.toks) (λb o hb q=>eb b o (λq=>hb (by simp[q])) (λq=>hb (by simp[q])) (λq=>hb (by simp[q])) (λq=>hb (by simp[q])) q) hf⟩
  rcases hx with hx|hx
  ·exact .inl (by simp;omega)
  ·exact .inr (by simp;omega)
 self:=λ_ _ _ _ _ ⟨hz,_⟩ h=>wpAny_pyIter_zip hz h
theorem PH {a b:Nat}(h:a<b∨b<a):a≠b:=by omega
theorem HI (n l1 l2:Nat)(h1:l1<n)(h2:l2<n):ZipApart (n+4) (n+2) (n+3) n (n+1) l1 l2:=by
 constructor<;>exact PH (by omega)
def Hn (K:W.Frag)(ta:TA):TI:=λσ H R=>ta σ H λvs H1=>∃a b,vs=[.ref a,.ref b]/\(∃xs,SqL K H1 a xs)/\(∃ys,SqL K H1 b ys)/\R (Itz K a b) H1
theorem Ry {ta:TA}:Hn K ta σ H R=ta σ H λvs H1=>∃a b,vs=[.ref a,.ref b]/\(∃xs,SqL K H1 a xs)/\(∃ys,SqL K H1 b ys)/\R (Itz K a b) H1:=rfl
theorem Pk (K:W.Frag){es:List Expr}{k:Nat}{a b:Expr}{ta:TA}{p pos pt:Pos}(hK:X.K=K)(hg:Gl X "zip")(hm:X.mg "zip"=none)(ha:PA X [a,b] ta)(hs:starEach [a,b] X.env=[(false,eval a X.env),(false,eval b X.env)]:=by rfl)(hs2:starEach [b] X.env=[(false,eval b X.env)]:=by rfl):PI X (.Tuple es k pt) (.Call (.Name "zip" p) [a,b] [] pos) (Hn K ta):=by
 subst hK;intro pins s σ H R I h;refine Call_ (WO I hg hm boot_zip (E8 (thn (ha pos pins s σ H _ I h) λus s1 ⟨vs,H1,I1,r1,q1⟩=>?_) (by rw[hs,hs2]) (by rw[hs2];rfl)));obtain⟨l1,l2,rfl,⟨xs,hq1⟩,⟨ys,hq2⟩,q⟩:=q1;obtain⟨u1,u2,rfl,r2,r3⟩:=Vy r1;obtain rfl:=r2.ref_of;obtain rfl:=r3.ref_of;obtain⟨its1,rv1,p1,_⟩:=I1.list hq1;obtain⟨its2,rv2,p2,_⟩:=I1.list hq2;have lt1:l1<s1.heap.objs.size:=by obtain⟨o,e,_⟩:=p1.isList;exact FJ e
 have lt2:l2<s1.heap.objs.size:=by obtain⟨o,e,_⟩:=p2.isList;exact FJ e
 refine call_zip_2 p1.isList p2.isList λh' e1 e2 e3 e4 e5 e6 e7=>?_
 have I2:Inv X pins σ H1 { s1 with heap:=h' }:=I1.kept (t':=s1.toks) e7;refine wpAny_pyIter_zip (s:={ s1 with heap:=h' }) e1 ?_;generalize hn:s1.heap.objs.size=n at *;have D:ZipApart (n+4) (n+2) (n+3) n (n+1) l1 l2:=HI n l1 l2 lt1 lt2;refine⟨n+4,[n+4,n+2,n+3,n,n+1],_,_,H1,rfl,I2,NW l1 l2 _ _ _ _ _ D,⟨e1,e2,⟨_,_,e3⟩,e4,e5⟩,λb hb=>?_,q⟩;have hb':s1.heap.objs.size<=b:=by
  rw[hn];simp only[FP,List.not_mem_nil,or_false] at hb;rcases hb with rfl|rfl|rfl|rfl|rfl
  ·exact Nat.le_add_right _ _
  ·exact Nat.le_add_right _ _
  ·exact Nat.le_add_right _ _
  ·exact FE _
  ·exact Nat.le_add_right _ _
 exact I1.fpOk hb' (I1.hok.fresh hb')
def B1 (K:W.Frag):List V->Hp->VK->Prop:=λxs H Q=>∃(p:Addr) (bs:List Bool),xs=[.ref p]/\SqL K H p (bs.map V.bl)/\Q (.bl (bs.all id)) H
theorem Lo {bs:List Bool}(h:Vals (bs.map V.bl) us):us=bs.map Value.bool:=by
 induction bs generalizing us with
 | nil=>cases h;rfl
 | cons b r ih=>
  cases h with
  | cons h1 h2=>
   have e:_=Value.bool b:=h1;rw[e,ih h2];rfl
theorem G1 {bs:List Bool}:((List.range bs.length).all λi=>bs.getD i false)=bs.all id:=by
 have e:bs=(List.range bs.length).map λi=>bs.getD i false:=by
  apply List.ext_getElem
  ·simp
  ·intro i h1 h2;simp[Da,FI h1]
 conv=>rhs;rw[e]
 rw[List.all_map];rfl
theorem Kt (K:W.Frag){X:Cx}(hK:X.K=K)(hc:X.calm=true):CallR X (.builtin "all") (B1 K):=by
 subst hK;intro pins s σ H xs us Q I r h;obtain⟨p,bs,rfl,hq,q⟩:=h;obtain⟨u,rfl,r1⟩:=Xj r;obtain rfl:=r1.ref_of;obtain⟨its,rv,pl,_⟩:=I.list hq;have e:=Lo rv;subst e;refine call_all_walk (wpAny_pyIter_list pl.isList ⟨_,_,_,_,_,_,λi=>bs.getD i false,rfl,Walks.list (A:=X.A.in1) (I.ok.hd hc) s.heap.objs.size p ?_ _,⟨⟨_,Ee _ rfl,rfl,rfl⟩,pl.isList.push _⟩,?_,λh' tk hk=>?_⟩)
 ·obtain⟨o,g,_⟩:=pl.isList;exact FU (FJ g)
 ·intro i v s' Q' E' hv hq';have hv':(bs.map Value.bool)[i]?=some v:=by simpa using hv
  rw[F0] at hv';obtain⟨b,hb,rfl⟩:=F6.mp hv';have e:bs.getD i false=b:=by rw[Da,hb];rfl
  have hq2:Q' (bs.getD i false) s':=hq';rw[e] at hq2;exact EO hq2
 ·have J:Inv X pins σ H { s with heap:=h',toks:=tk }:=I.kept λb o g=>hk b o (λz=>by
   have z':b=s.heap.objs.size:=by simpa using z
   exact FU (FJ g) z') (FT _ g)
  refine QL J q ?_;rw[FV,FH,G1]
def CMulU (i j:Int):Prop:=Bd 4000000 i/\Bd 4000000 j
theorem CMulU.ok {i:Int}(h:CMulU i j):IntMulOk i j:=by
 have h1:=h.1.bits;have h2:=h.2.bits;unfold IntMulOk;have e:Builtin.Int.intTooBig ((Builtin.Int.intBits i:Int)+(Builtin.Int.intBits j:Int))=false:=by
  unfold Builtin.Int.intTooBig;have e2:bitsLine=134217728:=by decide
  rw[e2];exact F1 (by omega)
 rw[e];simp
theorem op_mulU:OpR X (binaryOp .Mult) (rI CMulU λi j=>.int (i*j)):=opI λ_ _ _ _ _ _ _ hc q=>mul_int q hc.ok
theorem Fc (K:W.Frag){X:Cx}{tg l:Expr}{tl:TE}(h:X.K=K)(hl:PE X l tl):PI X tg l (Ho K tl):=by subst h;exact Pl hl
theorem T2 {N:List Str}:start N [a,b,c,d,e]=some a::some b::some c::some d::some e::List.replicate (N.length-5) none:=rfl
section
variable {X:Cx}
theorem Mf {y:Str}{spos:Pos}{cl:List (Str×Addr)}{N:List Str}(hN:X.N.Nodup)(hy:X.N[i]?=some y)(hx:Loc X.env.scope y)(hc:X.calm=true)(O:YC X scope cl N caps)
  (hi:PI X tg iter wi) (hg:∀C s H ex,PG (blk X scope cl N C s H ex) tg g) (ht:∀C s H ex,PTs (blk X scope cl N C s H ex) ifs tt) (he:∀C s H ex,PE (blk X scope cl N C s H ex) elt te)
  (hs:∀v,foldedSetIterable iter X.env v=pure v:=by intro _;rfl) (hsw:swapsWith (.ListComp elt [⟨tg,iter,ifs,0⟩] scope pos) (some (.Name y py)) spos.line X.env=pure true:=by rfl)
  (hf:X.fn y=true∨X.env.scope.names.lookup y=some .local:=by first|exact .inl rfl|exact .inr rfl|assumption):PS X (.Assign [.Name y py] (.ListComp elt [⟨tg,iter,ifs,0⟩] scope pos) spos) (VB (Kh caps wi g tt te) (Wk i)):=by
 intro pins s σ H D I h;rw [exec_Assign_Name_used _ _ _ _ hsw];refine FG (wpAny_standAt ?_);refine FG ?_;show wpAny _ _ (comprehension (.ListComp elt [⟨tg,iter,ifs,0⟩] scope pos) scope X.env (firstIterPos [⟨tg,iter,ifs,0⟩] pos) (newList []) (firstAsync [⟨tg,iter,ifs,0⟩]) (firstIter [⟨tg,iter,ifs,0⟩] X.env) (some (assign (.Name y py) X.env)) >>= fun _=>pure ()) _ _ s;refine FG ?_;refine wpAny_comprehension_free (use:=some (assign (.Name y py) X.env)) rfl hs O.clos O.kind O.names (thn (hi pins s σ H _ I h) fun v s1 h1=>thn h1 fun itv s2 h2=>?_);obtain ⟨it,fp,tn,J,H2,e,I2,T,st2,f2,W,⟨m0,w0⟩,turn⟩:=h2;subst e;refine wpAny_newObj_type (wpAny_newFunctionEnv O.nocell (by intro y hy;simp at hy) (fun h₁ hns₁ hsb₁=>?_) O.kind);dsimp only at hns₁ hsb₁ ⊢;generalize hH2:s2.heap.push { cls:=.type "list",dict:=none,data:=.seq ([]:List Value).toArray }=P2 at hns₁ hsb₁ ⊢;have hC:P2.objs.size=s2.heap.objs.size+1:=by rw [<-hH2,Heap.size_push]
 have hDC:s2.heap.objs.size≠P2.objs.size:=by rw[hC];exact FU (EG _)
 have hCle:s2.heap.objs.size<=P2.objs.size:=by rw[hC];exact ET _
 have old:∀b o,s2.heap.get? b=some o->h₁.get? b=some o:=λb o e=>hsb₁.extBut b o (FU (FW (FJ e) hCle)) (FT _ (hH2▸FT _ e))
 have hacc:h₁.PlainList s2.heap.objs.size #[]:=⟨_,hsb₁.extBut _ _ hDC (FT _ (hH2▸Ee _ rfl))⟩
 have hlt:∀b∈fp,b<s2.heap.objs.size:=λb hb=>by
  obtain⟨o,e,_⟩:=T.obj 0 _ st2 b hb;exact FJ e
 generalize hCC:P2.objs.size=C at *;generalize hDD:s2.heap.objs.size=Dl at *;have I3:Inv (blk X scope cl N C s2 H2 fp) [] (JS caps σ) H2 { s2 with heap:=h₁,toks:=s2.toks+([]:List (Str×Value)).length }:=Kv I2 O f2 (by rw[hDD];exact hlt) old (by rw[hDD];exact hCle) hns₁;have st3:tn 0 h₁:=T.keep 0 _ _ st2 λb _ o e=>old b o e
 have hDn:H2 Dl=none:=I2.hok.fresh (by rw[hDD];exact FE _);have nfs:∀b∈fp,b∉frs X.stack:=λb hb z=>by
  rcases FP.mp (I2.stkSub b z) with q|q
  ·exact(f2 b hb).2.1 q
  ·exact(f2 b hb).2.2.1 q
 have stat:∀{H':Hp},(∀b∈fp,H' b=none)->∀b∈fp,Ww (blk X scope cl N C s2 H2 fp) [] H' b:=λhn b hb=>
  ⟨hn b hb,FU (FW (hlt b hb) hCle),nfs b hb,.inl hb,λx c e=>(f2 b hb).2.2.2.2.1 x c (O.sub x c e),λp hp=>absurd (show p∈([]:List (Addr×Obj)) from hp) (by simp)⟩
 have cellD:∀x c,cl.lookup x=some c->c≠Dl:=λx c e z=>by
  obtain⟨v,q⟩:=I2.cell x c (O.sub x c e);have:=q.lt;rw[hDD] at this;exact FY _ (z▸this)
 have nfsD:Dl∉frs X.stack:=λz=>by
  have:=I2.stkSub Dl z;rcases FP.mp this with q|q
  ·have:=I2.lt;rw[hDD] at this;exact FY _ (q▸this)
  ·exact I2.nofs (by rw[hDD];exact FE _) q
 have statD:∀{H':Hp},H' Dl=none->Ww (blk X scope cl N C s2 H2 fp) [] H' Dl:=λhn=>⟨hn,hDC,nfsD,.inr (Nat.le_of_eq hDD),cellD,λp hp=>absurd (show p∈([]:List (Addr×Obj)) from hp) (by simp)⟩
 have loop:∀s₃:Shared,s₃={ s2 with heap:=h₁,toks:=s2.toks+([]:List (Str×Value)).length } ->
   codeAny (model X.prog X.w) X.A (.compLoop (.ListComp elt [⟨tg,iter,ifs,0⟩] scope pos) 0 (.ref it) (.ref Dl) (compEnvC scope cl C X.env))
    (compPost (model X.prog X.w) X.A X.xe (some (assign (.Name y py) X.env)) (λ_ s'=>wpAny (model X.prog X.w) X.A (pure ()) (λ_ s'=>wpAny (model X.prog X.w) X.A (pure Flow.next) (SP X pins D) X.xe s') X.xe s') (.ref Dl) C) s₃:=by
  intro s₃ hs3;subst hs3;refine Wn (λn s'=>∃i σ' H' acc its,Inv (blk X scope cl N C s2 H2 fp) [] σ' H' s'/\tn i s'.heap/\(∀b∈fp,H' b=none)/\H' Dl=none/\Vals acc its/\s'.heap.PlainList Dl its.toArray/\acc.length<=sizeLine/\W i n acc σ' H') ?_ m0
   ⟨0,JS caps σ,H2,[],[],I3,st3,λb hb=>(f2 b hb).1,hDn,.nil,hacc,F7 _,w0⟩
  rintro n s3 ⟨i,σ3,H3,acc,its,J3,st3,fr3,d3,va,pl3,la,w3⟩;rcases turn i n acc σ3 H3 w3 with ⟨stop,qn⟩|⟨go,la2,step⟩
  ·refine thn (T.done (blk X scope cl N C s2 H2 fp) rfl rfl rfl hc i [(Dl,{ cls:=.type "list",data:=.seq its.toArray (Classical.choose pl3) })] s3 σ3 H3 (λ_ _=>False) (J3.pins_of λp hp=>?_) (λb hb=>?_) st3 stop) λr s4 ⟨hr,J4⟩=>?_
   ·have e:=FQ.mp (show p∈[_] from hp);subst e;exact⟨E4 pl3,d3,hDC,nfsD,λv z=>by cases z⟩
   ·obtain ⟨q1,q2,q3,q4,q5,q6⟩:=stat fr3 b hb;refine ⟨q1,q2,q3,q4,q5,fun p hp z=>?_⟩;have e:=FQ.mp (show p∈[_] from hp);subst e;exact absurd (hlt b hb) (by rw [<-z];exact FY _)
   ·subst hr;obtain⟨m,hn,_⟩:=J4.loc;have pD:=J4.pin (Dl,_) (by simp;rfl);have J5:=GN I2 f2 J4 (by rw[hDD];exact hCle) (⟨rfl,λ_ _=>rfl⟩:Heap.SameBut C s4.heap s4.heap);have nC:C≠X.env.locals:=λz=>by
     have:=I2.lt;rw[hDD,<-z] at this;exact FY _ (FW this hCle)
    have cC:∀z c,X.env.cells.lookup z=some c->c≠C:=λz c e w=>by
     obtain⟨v,q⟩:=I2.cell z c e;have:=q.lt;rw[hDD] at this;exact FY _ (FW (w▸this) hCle)
    have J6:=J5.track (o:=.lst acc) (F2 I2.sz (by rw[hDD];exact FE _)) d3 (λz=>by
     have:=I2.lt;rw[hDD,<-z] at this;exact FY _ this) (λy c e z=>by
     obtain⟨v,q⟩:=I2.cell y c e;have:=q.lt;rw[hDD] at this;exact FY _ (z▸this)) (λp hp z=>by
     have:=FJ (I2.pin p hp).1;rw[hDD,z] at this;exact FY _ this) ⟨la,its,_,va,pD.1⟩
    show wpAny _ _ (assign (.Name y py) X.env (.ref Dl)) _ _ s4;refine PyProof.Rows.assign_Name ?_;refine Ki J6 hN hy hx (show RelV (.ref Dl) (.ref Dl) from rfl) (λs5 J7 ⟨a,sa,ha⟩=>?_) hf;have naC:C≠a:=λz=>by
     rcases ha with w|w
     ·exact nC (z.trans w)
     ·exact cC _ _ w z.symm
    refine⟨m,?_,λh' sb=>?_⟩
    ·obtain⟨o,es,ep,e,rest⟩:=hn;exact⟨o,es,ep,(sa.2 C naC).trans e,rest⟩
    refine FM (FM ⟨_,_,?_,qn _ d3⟩);exact J7.turned (t':=s5.toks) (it:=C) (λb o hb e=>(sb.2 b hb).trans e) (by rw[Qq (Ey hDC)];exact J4.free) nC (.inr (F2 I2.sz (by rw[hDD];exact hCle))) cC (λp hp z=>by
     have:=FJ (I2.pin p hp).1;rw[hDD,z] at this;exact FY _ (FW this hCle))
  ·refine thn (T.item (blk X scope cl N C s2 H2 fp) rfl rfl rfl hc i [(Dl,{ cls:=.type "list",data:=.seq its.toArray (Classical.choose pl3) })] s3 σ3 H3 (λ_ _=>False) (J3.pins_of λp hp=>?_) (λb hb=>?_) st3 go) λr s4 ⟨u,hr,h4⟩=>?_
   ·have e:=FQ.mp (show p∈[_] from hp);subst e;exact⟨E4 pl3,d3,hDC,nfsD,λv z=>by cases z⟩
   ·obtain ⟨q1,q2,q3,q4,q5,q6⟩:=stat fr3 b hb;refine ⟨q1,q2,q3,q4,q5,fun p hp z=>?_⟩;have e:=FQ.mp (show p∈[_] from hp);subst e;exact absurd (hlt b hb) (by rw [<-z];exact FY _)
   ·subst hr;refine thn h4 λ_ s5 ⟨y,H5,J5,r5,y5,st5,fr5⟩=>?_
    have J5':Inv (blk X scope cl N C s2 H2 fp) ([(Dl,{ cls:=.type "list",data:=.seq its.toArray (Classical.choose pl3) })]++Yr fp s5.heap) σ3 H5 s5:=J5.pinned (λb hb=>by
     obtain ⟨q1,q2,q3,q4,q5,q6⟩:=stat fr5 b hb;refine ⟨q1,q2,q3,q4,q5,fun p hp z=>?_⟩;have e:=FQ.mp (show p∈[_] from hp);subst e;exact absurd (hlt b hb) (by rw [<-z];exact FY _)) (T.obj _ _ st5)
    refine thn (hg C s2 H2 fp _ s5 σ3 H5 y u _ J5' r5 (step y H5 y5)) λ_ s6 ⟨σ6,H6,J6,q6⟩=>?_
    refine thn (ht C s2 H2 fp _ s6 σ6 H6 _ J6 q6) λok s7 ⟨H7,J7,q7⟩=>?_
    have back:∀{H8:Hp} {s8:Shared},Inv (blk X scope cl N C s2 H2 fp) ([(Dl,{ cls:=.type "list",data:=.seq its.toArray (Classical.choose pl3) })]++Yr fp s5.heap) σ6 H8 s8 ->
      tn (i+1) s8.heap/\(∀b∈fp,H8 b=none)/\H8 Dl=none/\s8.heap.PlainList Dl its.toArray:=λ{H8 s8} J8=>by
     have pb:∀b∈fp,∀o,s5.heap.get? b=some o->s8.heap.get? b=some o/\H8 b=none:=λb hb o e=>by
      have:=J8.pin (b,o) (Eo _ (Eo _ (X3 hb e)));exact⟨this.1,this.2.1⟩
     have pd:=J8.pin (Dl,_) (Eo _ (EF _ (FQ.mpr rfl)));refine⟨T.keep _ _ _ st5 λb hb o e=>(pb b hb o e).1,λb hb=>?_,pd.2.1,⟨_,pd.1⟩⟩;obtain⟨o,e,_⟩:=T.obj _ _ st5 b hb;exact(pb b hb o e).2
    cases ok with
    | false=>
     rw[FC F4] at q7 ⊢;obtain⟨m',hm,w7⟩:=q7;obtain⟨b1,b2,b3,b4⟩:=back J7;exact⟨m',hm,i+1,σ6,H7,acc,its,J7.pins_of (λp hp=>absurd hp (by simp)),b1,b2,b3,va,b4,la,w7⟩
    | true=>
     rw[FD rfl] at q7 ⊢;refine thn (he C s2 H2 fp _ s7 σ6 H7 _ J7 q7) λz s8 ⟨zv,H8,J8,r8,q8⟩=>?_
     obtain⟨m',hm,w8⟩:=q8;obtain⟨b1,b2,b3,b4⟩:=back J8;have z1:its.length=acc.length:=va.length.symm;refine wpAny_list_append_plain (hsz:=by rw[FV];omega) b4 λh9 pl9 sb9=>?_
     have J9:Inv (blk X scope cl N C s2 H2 fp) [] σ6 H8 { s8 with heap:=h9,toks:=s8.toks }:=by
      obtain⟨k0,k1,k2,k3,k4,k5⟩:=statD (H':=H8) b3;exact(J8.pins_of (pins':=[]) (λp hp=>absurd hp (by simp))).turned (it:=Dl) (λb o hb e=>(sb9.2 b hb).trans e) k0 k1 k3 k4 k5
     refine⟨m',hm,i+1,σ6,H8,acc++[zv],its++[z],J9,T.keep _ _ _ b1 λb hb o e=>(sb9.2 b (FU (hlt b hb))).trans e,b2,b3,va.append (.cons r8 .nil),?_,?_,w8⟩
     ·simpa using pl9
     ·rw[FF,FK];omega
 exact codeAny_compStart_list (loop _ rfl) (T.self X.A 0 _ _ _ st3 (loop _ rfl))
theorem Gq {y:Str}{spos:Pos}{cl:List (Str×Addr)}{N:List Str}(hN:X.N.Nodup)(hy:X.N[i]?=some y)(hx:Loc X.env.scope y)(hc:X.calm=true)(O:YC X scope cl N caps)
  (hi:PI X (.Name x px) iter wi) (hg:∀C s H ex,PG (blk X scope cl N C s H ex) (.Name x px) g) (ht:∀C s H ex,PTs (blk X scope cl N C s H ex) ifs tt) (he:∀C s H ex,PE (blk X scope cl N C s H ex) elt te)
  (hs:∀v,foldedSetIterable iter X.env v=pure v:=by intro _;rfl) (hsw:swapsWith (.ListComp elt [⟨.Name x px,iter,ifs,0⟩] scope pos) (some (.Name y py)) spos.line X.env=pure true:=by rfl)
  (hf:X.fn y=true∨X.env.scope.names.lookup y=some .local:=by first|exact .inl rfl|exact .inr rfl|assumption):PS X (.Assign [.Name y py] (.ListComp elt [⟨.Name x px,iter,ifs,0⟩] scope pos) spos) (VB (Kh caps wi g tt te) (Wk i)):=Mf hN hy hx hc O hi hg ht he hs hsw hf
end
end L2
namespace L2
open PySem PySem.W PyProof.Rows
section
variable {n:Nat} (hn:0<n)
include hn
end
section
variable {prog:Program} {w:World} {A:Around} {E:Value->Shared->Prop} {s:Shared}
def bare (h:Heap)(a:Addr)(vs:List Value):Heap:=((h.update a (Obj.mapSeq λ_=>#[])).push (seqObj "tuple" vs.toArray 0)).push (seqObj "list" #[] 0)
end
def HY (neg:Bool):R2:=λx y H Q=>∃i j,x=.str i/\y=.str j/\Q (.bl (if neg then !(!(Builtin.Str.occurrences j i 0 j.length 1).isEmpty) else !(Builtin.Str.occurrences j i 0 j.length 1).isEmpty)) H
def G2 (K:W.Frag)(neg:Bool):R2:=λx y H Q=>rIn K neg x y H Q∨HY neg x y H Q
theorem inK (K:W.Frag){X:Cx}(h:X.K=K):OpR X (compareOp .In) (G2 K false):=by
 subst h;exact op_in_seq.or G6
theorem XD (K:W.Frag){X:Cx}(h:X.K=K):OpR X (compareOp .NotIn) (G2 K true):=by
 subst h;exact op_notIn_seq.or K3
theorem Jd {z:Str}:∀{xs:List Str},inV (.str z) (xs.map V.str)=decide (z∈xs)
 | []=>by simp[inV]
 | x::xs=>by
  have ih:=Jd (z:=z) (xs:=xs);unfold inV at *;rw[El,List.any_cons,ih];by_cases h:z=x
  ·subst h;simp[eqV]
  ·have h':¬x=z:=λe=>h e.symm
   simp[eqV,h,h']
theorem WS (xs:List Str):(xs.map V.str).all Wl=true:=by
 rw[List.all_map,Ex];intro _ _;rfl
theorem ZY {xs:List Str}(h:SqL K H p (xs.map V.str))(q:Q (.bl (!decide (z∈xs))) H):G2 K true (.str z) (.ref p) H Q:=
 .inl ⟨p,_,rfl,.inl h,rfl,WS xs,by rw[Jd];exact q⟩
def JX (mg:Str->Option Value)(n:Str)(v:V):Prop:=∃u,mg n=some u/\RelV v u
theorem XT {n:Str}(k:JX X.mg n v)(hg:Gl X n:=by rfl)(hd:(n==("__debug__":Str))=false:=by decide):PE X (.Name n pos) (tC v):=by
 obtain⟨u,m,r⟩:=k;exact ZO hg m r hd
end L2
namespace L2
open PySem PyProof.Rows
def asBl (x:V)(P:Bool->Prop):Prop:=match x with|.bl c=>P c|_=>False
theorem asBl.out {x:V}{P:Bool->Prop}(h:asBl x P):∃c,x=.bl c/\P c:=by
 cases x<;>first|exact⟨_,rfl,h⟩|exact h.elim
def asInt (x:V)(P:Int->Prop):Prop:=match x with|.int c=>P c|_=>False
theorem asInt.out {x:V}{P:Int->Prop}(h:asInt x P):∃c,x=.int c/\P c:=by
 cases x<;>first|exact⟨_,rfl,h⟩|exact h.elim
def asVar (o:Option (Option V))(P:V->Prop):Prop:=match o with|some (some v)=>P v|_=>False
theorem asVar.out {o:Option (Option V)}{P:V->Prop}(h:asVar o P):∃v,o=some (some v)/\P v:=by
 cases o with
 | none=>exact h.elim
 | some o=>cases o with
  | none=>exact h.elim
  | some v=>exact⟨v,rfl,h⟩
section
variable {X:Cx}
theorem PE.imp {e:Expr}{t u:TE}(p:PE X e t)(h:∀σ H Q,u σ H Q->t σ H Q):PE X e u:=λpins s σ H Q I q=>p pins s σ H Q I (h _ _ _ q)
theorem PGs.imp {t u:TGs}(p:PGs X es t)(h:∀vs σ H Q,u vs σ H Q->t vs σ H Q):PGs X es u:=λpins s σ H vs us Q I r q=>p pins s σ H vs us Q I r (h _ _ _ _ q)
theorem OpR.imp {f:Value->Value->Sem Value}{r r':R2}(p:OpR X f r)(h:∀x y H Q,r' x y H Q->r x y H Q):OpR X f r':=λpins s σ H x y v u Q I rx ry q=>p pins s σ H x y v u Q I rx ry (h _ _ _ _ q)
theorem UnR.imp {f:Value->Sem Value}{r r':V->Hp->VK->Prop}(p:UnR X f r)(h:∀x H Q,r' x H Q->r x H Q):UnR X f r':=λpins s σ H x v Q I rx q=>p pins s σ H x v Q I rx (h _ _ _ q)
def X7 (i:Nat):TE:=λσ H Q=>asVar σ[i]? λv=>Q v H
theorem pu (i:Nat){x:Str}{pos:Pos}(hN:X.N[i]?=some x:=by rfl)(hv:Vis X.env.scope x:=by first|exact Or.inl rfl|exact Or.inr (Or.inl rfl)|exact Or.inr (Or.inr rfl))(hd:(x==("__debug__":Str))=false:=by decide)(hcd:(x==("__classdict__":Str))=false:=by decide):PE X (.Name x pos) (X7 i):=
 (pv i hN hv hd hcd).imp λ_ _ _ h=>h.out
def uB (t:TE):TT:=λσ H Q=>t σ H λx H1=>asBl x λc=>Q c H1
variable {a b:Expr} {ta tb:TE} {rest:List Expr} {pos:Pos}
theorem Zu {e:Expr}{t:TE}(h:PE X e t)(he:∀whole,isTrue e X.env whole=(do let v <-whole;standAt e.pos;holding [v] (truthy v)):=by intro _;rfl):PT X e (uB t):=by
 intro pins s σ H Q I hw;refine isTrue_plain (thn (h pins s σ H _ I hw) λv s1 ⟨x,H1,I1,r1,q1⟩=>?_) (he _);obtain⟨d,rfl,q⟩:=q1.out;cases r1;exact EO ⟨H1,I1,q⟩
def BP (ta tb:TE):TE:=λσ H Q=>ta σ H λx H1=>asBl x λc=>if c=true then tb σ H1 Q else Q (.bl false) H1
theorem XA (ha:PE X a ta)(hb:PE X (.BoolOp .And (b::rest) pos) tb):PE X (.BoolOp .And (a::b::rest) pos) (BP ta tb):=by
 intro pins s σ H Q I h;refine BoolOp_and (thn (ha pins s σ H _ I h) λv s1 ⟨x,H1,I1,r1,q1⟩=>?_);obtain⟨c,rfl,q1⟩:=q1.out;cases r1;refine EO ?_;cases c with
 | true=>exact hb pins s1 σ H1 Q I1 q1
 | false=>exact⟨.bl false,H1,I1,rfl,q1⟩
theorem Qj {r:R2}(ho:OpR X (compareOp op) r)(ha:PE X a ta)(hb:PE X b tb)(hm:behindInMarks op b=false):PT X (.Compare a [op] [b] pos) (uB (tOp r ta tb)):=by
 intro pins s σ H Q I h;refine wpAny_isTrue_Compare1 (thn (ha pins s σ H _ I h) λv s1 ⟨x,H1,I1,r1,q1⟩=>thn (hb pins s1 σ H1 _ I1 q1) λu s2 ⟨y,H2,I2,r2,q2⟩=>
  thn (ho pins s2 σ H2 x y v u _ I2 r1 r2 q2) λc s3 ⟨z,H3,I3,r3,q3⟩=>?_) hm
 obtain⟨k,e,q3⟩:=q3.out;subst e;cases r3;exact EO ⟨H3,I3,q3⟩
def sI (C:Int->Int->Prop)(g:Int->Int->V):R2:=λx y H Q=>asInt x λi=>asInt y λj=>C i j/\Q (g i j) H
def sI0 (g:Int->Int->V):R2:=λx y H Q=>asInt x λi=>asInt y λj=>Q (g i j) H
def sU (g:Int->V):V->Hp->VK->Prop:=λx H Q=>asInt x λi=>Q (g i) H
theorem sI.out {C:Int->Int->Prop}{g:Int->Int->V}(x y:V)(H:Hp)(Q:VK)(h:sI C g x y H Q):rI C g x y H Q:=by
 obtain⟨i,rfl,h2⟩:=asInt.out h;obtain⟨j,rfl,h3⟩:=asInt.out h2;exact⟨i,j,rfl,rfl,h3⟩
theorem sI0.out {g:Int->Int->V}(x y:V)(H:Hp)(Q:VK)(h:sI0 g x y H Q):rI0 g x y H Q:=by
 obtain⟨i,rfl,h2⟩:=asInt.out h;obtain⟨j,rfl,h3⟩:=asInt.out h2;exact⟨i,j,rfl,rfl,h3⟩
theorem sU.out {g:Int->V}(x:V)(H:Hp)(Q:VK)(h:sU g x H Q):rU g x H Q:=by
 obtain⟨i,rfl,h⟩:=asInt.out h;exact⟨i,rfl,h⟩
theorem YE:OpR X (binaryOp .Sub) (sI0 λi j=>.int (i-j)):=op_sub.imp sI0.out
theorem Mq:OpR X (binaryOp .Mult) (sI CMulB λi j=>.int (i*j)):=op_mulB.imp sI.out
theorem Jy:OpR X (binaryOp .Mult) (sI CMulU λi j=>.int (i*j)):=op_mulU.imp sI.out
theorem QR:OpR X (binaryOp .FloorDiv) (sI (λ_ j=>KB j) λi j=>.int (i.fdiv j)):=op_fdivB.imp sI.out
theorem QD:OpR X (binaryOp .Mod) (sI (λ_ j=>0<j) λi j=>.int (i % j)):=op_mod.imp sI.out
theorem YF:OpR X (binaryOp .Pow) (sI Uq λi j=>.int (i ^ j.toNat)):=op_pow.imp sI.out
theorem Xr:OpR X (compareOp .Lt) (sI0 λi j=>.bl (decide (i<j))):=op_lt.imp sI0.out
theorem Pw:OpR X (compareOp .LtE) (sI0 λi j=>.bl (decide (i<=j))):=op_le.imp sI0.out
theorem YZ:OpR X (compareOp .Gt) (sI0 λi j=>.bl (decide (i > j))):=op_gt.imp sI0.out
theorem Py:OpR X (compareOp .GtE) (sI0 λi j=>.bl (decide (i≥j))):=op_ge.imp sI0.out
theorem Zb:UnR X (unaryOp .USub) (sU λi=>.int (-i)):=un_neg.imp sU.out
def sAdd:R2:=λx y H Q=>match x,y with
 | .int i,.int j=>Q (.int (i+j)) H
 | .str i,.str j=>i.length+j.length<=sizeLine/\Q (.str (i++j)) H
 | .ref _,.ref _=>Pg x y H Q
 | _,_=>False
theorem sAdd.out (x y:V)(H:Hp)(Q:VK)(h:sAdd x y H Q):B2 x y H Q:=by
 unfold sAdd at h;split at h
 ·exact .inl ⟨_,_,rfl,rfl,h⟩
 ·exact .inr (.inl ⟨_,_,rfl,rfl,h⟩)
 ·exact .inr (.inr h)
 ·exact h.elim
theorem QI:OpR X (binaryOp .Add) sAdd:=op_addA.imp sAdd.out
def sEq (K:W.Frag):R2:=λx y H Q=>match x,y with
 | .int i,.int j=>Q (.bl (decide (i=j))) H
 | .str i,.str j=>Q (.bl (decide (i=j))) H
 | .bl i,.bl j=>Q (.bl (decide (i=j))) H
 | _,_=>KW K x y H Q
def sNe (K:W.Frag):R2:=λx y H Q=>match x,y with
 | .int i,.int j=>Q (.bl (!decide (i=j))) H
 | .str i,.str j=>Q (.bl (!decide (i=j))) H
 | .bl i,.bl j=>Q (.bl (!decide (i=j))) H
 | _,_=>Js K x y H Q
theorem sEq.out (x y:V)(H:Hp)(Q:VK)(h:sEq K x y H Q):KW K x y H Q:=by
 unfold sEq at h;split at h
 ·rw[RE];exact h
 ·rw[RD];exact h
 ·rw[RF];exact h
 ·exact h
theorem sNe.out (x y:V)(H:Hp)(Q:VK)(h:sNe K x y H Q):Js K x y H Q:=by
 unfold sNe at h;split at h
 ·rw[Rt];exact h
 ·rw[Rr];exact h
 ·rw[Ru];exact h
 ·exact h
theorem eqM (K:W.Frag)(h:X.K=K)(hu:X.A.units+64<cLine):OpR X (compareOp .Eq) (sEq K):=(eqK K h hu).imp sEq.out
theorem neM (K:W.Frag)(h:X.K=K)(hu:X.A.units+64<cLine):OpR X (compareOp .NotEq) (sNe K):=(neK K h hu).imp sNe.out
def Hr:TGs:=λvs σ H Q=>match vs with|[]=>Q σ H|_=>False
def B8 (t:TG)(u:TGs):TGs:=λvs σ H Q=>match vs with|v::r=>t v σ H λσ' H'=>u r σ' H' Q|[]=>False
theorem Xq:PGs X [] Hr:=pgs_nil.imp λvs _ _ _ h=>by
 cases vs with
 | nil=>exact⟨rfl,h⟩
 | cons _ _=>exact h.elim
theorem QJ {e:Expr}{t:TG}{u:TGs}(h:PG X e t)(hg:PGs X es u)(hs:(assignEach (e::es) X.env).map (·.2)=assign e X.env::(assignEach es X.env).map (·.2):=by rfl):PGs X (e::es) (B8 t u):=(Mj h hg hs).imp λvs _ _ _ q=>by
 cases vs with
 | nil=>exact q.elim
 | cons v r=>exact⟨v,r,rfl,q⟩
end
def Sp1M (φ:V->Hp->VK->Prop):Sp:=λvs H Q _=>match vs with|[a]=>φ a H Q|_=>False
def Sp2M (φ:V->V->Hp->VK->Prop):Sp:=λvs H Q _=>match vs with|[a,b]=>φ a b H Q|_=>False
def Sp3M (φ:V->V->V->Hp->VK->Prop):Sp:=λvs H Q _=>match vs with|[a,b,c]=>φ a b c H Q|_=>False
def Sp4M (φ:V->V->V->V->Hp->VK->Prop):Sp:=λvs H Q _=>match vs with|[a,b,c,d]=>φ a b c d H Q|_=>False
def Rp1M (φ:V->Hp->VK->XK->Prop):Sp:=λvs H Q E=>match vs with|[a]=>φ a H Q E|_=>False
def Rp2M (φ:V->V->Hp->VK->XK->Prop):Sp:=λvs H Q E=>match vs with|[a,b]=>φ a b H Q E|_=>False
theorem Sp1M.imp {φ:V->Hp->VK->Prop}(vs:List V)(H:Hp)(Q:VK)(E:XK)(h:Sp1M φ vs H Q E):Sp1 φ vs H Q E:=by
 unfold Sp1M at h;split at h
 ·exact⟨_,rfl,h⟩
 ·exact h.elim
theorem Sp2M.imp {φ:V->V->Hp->VK->Prop}(vs:List V)(H:Hp)(Q:VK)(E:XK)(h:Sp2M φ vs H Q E):Sp2 φ vs H Q E:=by
 unfold Sp2M at h;split at h
 ·exact⟨_,_,rfl,h⟩
 ·exact h.elim
theorem Sp3M.imp {φ:V->V->V->Hp->VK->Prop}(vs:List V)(H:Hp)(Q:VK)(E:XK)(h:Sp3M φ vs H Q E):Sp3 φ vs H Q E:=by
 unfold Sp3M at h;split at h
 ·exact⟨_,_,_,rfl,h⟩
 ·exact h.elim
theorem Sp4M.imp {φ:V->V->V->V->Hp->VK->Prop}(vs:List V)(H:Hp)(Q:VK)(E:XK)(h:Sp4M φ vs H Q E):Sp4 φ vs H Q E:=by
 unfold Sp4M at h;split at h
 ·exact⟨_,_,_,_,rfl,h⟩
 ·exact h.elim
theorem Rp1M.imp {φ:V->Hp->VK->XK->Prop}(vs:List V)(H:Hp)(Q:VK)(E:XK)(h:Rp1M φ vs H Q E):Rp1 φ vs H Q E:=by
 unfold Rp1M at h;split at h
 ·exact⟨_,rfl,h⟩
 ·exact h.elim
theorem Rp2M.imp {φ:V->V->Hp->VK->XK->Prop}(vs:List V)(H:Hp)(Q:VK)(E:XK)(h:Rp2M φ vs H Q E):Rp2 φ vs H Q E:=by
 unfold Rp2M at h;split at h
 ·exact⟨_,_,rfl,h⟩
 ·exact h.elim
theorem Tr:X7 i σ H Q=asVar σ[i]? λv=>Q v H:=rfl
theorem Ri {P:V->Prop}:asVar (some (some v)) P=P v:=rfl
theorem HN {c:Bool}{P:Bool->Prop}:asBl (.bl c) P=P c:=rfl
theorem HJ {t:TE}{Q:Bool->Hp->Prop}:uB t σ H Q=t σ H λx H1=>asBl x λc=>Q c H1:=rfl
theorem TR {tb:TE}:BP ta tb σ H Q=ta σ H λx H1=>asBl x λc=>if c=true then tb σ H1 Q else Q (.bl false) H1:=rfl
theorem HM {C:Int->Int->Prop}{g:Int->Int->V}{i:Int}:sI C g (.int i) (.int j) H Q=(C i j/\Q (g i j) H):=rfl
theorem Tw {g:Int->Int->V}{i:Int}:sI0 g (.int i) (.int j) H Q=Q (g i j) H:=rfl
theorem HL {g:Int->V}{i:Int}:sU g (.int i) H Q=Q (g i) H:=rfl
theorem Rl {i:Int}:sAdd (.int i) (.int j) H Q=Q (.int (i+j)) H:=rfl
theorem Rk {i j:Str}:sAdd (.str i) (.str j) H Q=(i.length+j.length<=sizeLine/\Q (.str (i++j)) H):=rfl
theorem TN {i:Int}:sEq K (.int i) (.int j) H Q=Q (.bl (decide (i=j))) H:=rfl
theorem TL {i j:Str}:sEq K (.str i) (.str j) H Q=Q (.bl (decide (i=j))) H:=rfl
theorem TQ {i j:Bool}:sEq K (.bl i) (.bl j) H Q=Q (.bl (decide (i=j))) H:=rfl
theorem TM {q:Addr}:sEq K (.ref p) (.ref q) H Q=KW K (.ref p) (.ref q) H Q:=rfl
theorem TH {i:Int}:sNe K (.int i) (.int j) H Q=Q (.bl (!decide (i=j))) H:=rfl
theorem TC {i j:Str}:sNe K (.str i) (.str j) H Q=Q (.bl (!decide (i=j))) H:=rfl
theorem TK {i j:Bool}:sNe K (.bl i) (.bl j) H Q=Q (.bl (!decide (i=j))) H:=rfl
theorem TF {q:Addr}:sNe K (.ref p) (.ref q) H Q=Js K (.ref p) (.ref q) H Q:=rfl
theorem Rj {Q:St->Hp->Prop}:Hr [] σ H Q=Q σ H:=rfl
theorem Li {t:TG}{u:TGs}{r:List V}{Q:St->Hp->Prop}:B8 t u (v::r) σ H Q=t v σ H λσ' H'=>u r σ' H' Q:=rfl
theorem Tv {φ:V->Hp->VK->Prop}{E:XK}:Sp1M φ [a] H Q E=φ a H Q:=rfl
theorem Tu {φ:V->V->Hp->VK->Prop}{E:XK}:Sp2M φ [a,b] H Q E=φ a b H Q:=rfl
theorem Tt {φ:V->V->V->Hp->VK->Prop}{E:XK}:Sp3M φ [a,b,c] H Q E=φ a b c H Q:=rfl
theorem Ts {φ:V->V->V->V->Hp->VK->Prop}{E:XK}:Sp4M φ [a,b,c,d] H Q E=φ a b c d H Q:=rfl
theorem TB {φ:V->Hp->VK->XK->Prop}{E:XK}:Rp1M φ [a] H Q E=φ a H Q E:=rfl
theorem Tz {φ:V->V->Hp->VK->XK->Prop}{E:XK}:Rp2M φ [a,b] H Q E=φ a b H Q E:=rfl
theorem sNe.ofR {x:V}(hx:∃p,x=.ref p)(h:Js K x y H Q):sNe K x y H Q:=by
 obtain⟨p,rfl⟩:=hx;cases y<;>exact h
theorem U9 {a b:Rat}{x:V}(h1:Fq K H a x)(h2:Fq K H b y)(q:Q (.bl (!decide (a=b))) H):sNe K x y H Q:=
 sNe.ofR ⟨h1.choose,h1.choose_spec.1⟩ (Si h1 h2 q)
end L2
namespace L2
open PySem PySem.Spec PyProof.Rows
section
variable {κ:Type} [DecidableEq κ]
def XF (kvs:List (κ×V))(k:κ):Option V:=(kvs.find? λkv=>decide (kv.1=k)).map (·.2)
def Yq (kvs:List (κ×V))(k:κ)(v:V):List (κ×V):=
 if(kvs.any λkv=>decide (kv.1=k))=true then kvs.map (λkv=>if kv.1=k then(kv.1,v) else kv) else kvs++[(k,v)]
theorem Jk {p:κ×V}{r:List (κ×V)}{k:κ}(e:p.1=k):XF (p::r) k=some p.2:=by simp[XF,EV,e]
theorem Jl {p:κ×V}{r:List (κ×V)}{k:κ}(e:¬p.1=k):XF (p::r) k=XF r k:=by simp[XF,EV,e]
theorem Jm (k:κ):∀kvs:List (κ×V),(kvs.any λkv=>decide (kv.1=k))=(XF kvs k).isSome
 | []=>rfl
 | p::r=>by
  rw[List.any_cons];by_cases e:p.1=k
  ·simp only[Jk e,Ef e,Bool.true_or,Option.isSome_some]
  ·rw[Jl e,F1 e,Bool.false_or];exact Jm k r
theorem Yw (kvs:List (κ×V))(k:κ)(v:V):(Yq kvs k v).length<=kvs.length+1:=by
 unfold Yq;split
 ·rw[FH];omega
 ·rw[FF,Ea,List.length_nil];omega
theorem Md {kvs:List (κ×V)}{k:κ}(v:V)(h:XF kvs k=none):Yq kvs k v=kvs++[(k,v)]:=by
 unfold Yq;rw[Jm,h];exact FC (by decide)
theorem RelO.isSome_eq {o:Option V}{u:Option Value}(r:RelO o u):o.isSome=u.isSome:=by
 cases o with
 | none=>cases u with
  | none=>rfl
  | some _=>exact(show False from r).elim
 | some _=>cases u with
  | none=>exact(show False from r).elim
  | some _=>rfl
theorem KV.val {kvs:List (κ×V)}{vs:List (κ×Value)}(r:KV kvs vs)(k:κ):RelO (XF kvs k) (valueAt vs k):=by
 unfold KV at r
 induction r with
 | nil=>exact True.intro
 | @cons p q ps qs h t ih=>
  obtain⟨h1,h2⟩:=h;by_cases e:p.1=k
  ·have e':q.1=k:=h1.symm.trans e;have b:valueAt (q::qs) k=some q.2:=by simp[valueAt,EV,e']
   rw[Jk e,b];exact h2
  ·have e':¬q.1=k:=λz=>e (h1.trans z)
   have b:valueAt (q::qs) k=valueAt qs k:=by simp[valueAt,EV,e']
   rw[Jl e,b];exact ih
theorem KV.any {kvs:List (κ×V)}{vs:List (κ×Value)}(r:KV kvs vs)(k:κ):(kvs.any λkv=>decide (kv.1=k))=vs.any λkv=>decide (kv.1=k):=by
 unfold KV at r
 induction r with
 | nil=>rfl
 | cons h t ih=>rw[List.any_cons,List.any_cons,ih,h.1]
theorem KV.repl {kvs:List (κ×V)}{vs:List (κ×Value)}(r:KV kvs vs)(k:κ){y:V}{u:Value}(ry:RelV y u) :
  KV (kvs.map λkv=>if kv.1=k then(kv.1,y) else kv) (vs.map λkv=>if kv.1=k then(kv.1,u) else kv):=by
 unfold KV at r ⊢
 induction r with
 | nil=>exact .nil
 | @cons p q ps qs h t ih=>
  rw[El,El];refine .cons ?_ ih;obtain⟨h1,h2⟩:=h;by_cases e:p.1=k
  ·rw[FD e,FD (h1.symm.trans e)];exact⟨h1,ry⟩
  ·rw[FC e,FC (λz=>e (h1.trans z))];exact⟨h1,h2⟩
theorem KV.put {kvs:List (κ×V)}{vs:List (κ×Value)}(r:KV kvs vs)(k:κ){y:V}{u:Value}(ry:RelV y u):KV (Yq kvs k y) (stored vs k u):=by
 unfold Yq stored;rw[r.any k];by_cases e:(vs.any λkv=>decide (kv.1=k))=true
 ·rw[FD e,FD e];exact r.repl k ry
 ·rw[FC e,FC e];exact Paired.snoc r ⟨rfl,ry⟩
theorem KV.keys {kvs:List (κ×V)}{vs:List (κ×Value)}(r:KV kvs vs):kvs.map (·.1)=vs.map (·.1):=by
 unfold KV at r
 induction r with
 | nil=>rfl
 | cons h t ih=>rw[El,El,ih,h.1]
theorem KV.length {kvs:List (κ×V)}{vs:List (κ×Value)}(r:KV kvs vs):kvs.length=vs.length:=Paired.length r
end
theorem Kq {k:Key}(r:RelV (kV k) u):(QY P w).is k u=true:=by
 cases k with
 | inl i=>obtain⟨t,e⟩:=(show ∃t,u=Value.int i t from r);subst e;exact VX P w i t
 | inr x=>obtain⟨t,e⟩:=(show ∃t,u=Value.str x t from r);subst e;exact VW P w x t
theorem Kr {P:Program}{w:World}:∀{ks:List Key}{us:List Value},Vals (ks.map kV) us->ItemsAre (QY P w) ks us
 | [],_,r=>by rw[List.map_nil] at r;cases r;exact .nil
 | k::ks,_,r=>by
  rw[El] at r;cases r with
  | cons h t=>exact .cons (Kq h) (Kr t)
abbrev KT (H:Hp):List (List Key×V)->List (List Key×Addr×Value)->Prop:=Paired λp q=>p.1=q.1/\H q.2.1=some (.tup (p.1.map kV))/\RelV p.2 q.2.2
theorem KT.val {kvs:List (List Key×V)}{xs:List (List Key×Addr×Value)}(r:KT H kvs xs)(k:List Key):RelO (XF kvs k) ((atKey xs k).map (·.2)):=by
 induction r with
 | nil=>exact True.intro
 | @cons p q ps qs h t ih=>
  obtain⟨h1,_,h2⟩:=h;by_cases e:p.1=k
  ·have e':q.1=k:=h1.symm.trans e;have b:atKey (q::qs) k=some q.2:=by simp[atKey,EV,e']
   rw[Jk e,b];exact h2
  ·have e':¬q.1=k:=λz=>e (h1.trans z)
   have b:atKey (q::qs) k=atKey qs k:=by simp[atKey,EV,e']
   rw[Jl e,b];exact ih
theorem KT.repl {kvs:List (List Key×V)}{xs:List (List Key×Addr×Value)}(r:KT H kvs xs)(k:List Key){y:V}{u:Value}(ry:RelV y u) :
  KT H (kvs.map λkv=>if kv.1=k then(kv.1,y) else kv) (xs.map (putAt k u)):=by
 induction r with
 | nil=>exact .nil
 | @cons p q ps qs h t ih=>
  rw[El,El];refine .cons ?_ ih;obtain⟨h1,h2,h3⟩:=h;unfold putAt;by_cases e:p.1=k
  ·rw[FD e,FD (h1.symm.trans e)];exact⟨h1,h2,ry⟩
  ·rw[FC e,FC (λz=>e (h1.trans z))];exact⟨h1,h2,h3⟩
theorem KT.put {kvs:List (List Key×V)}{xs:List (List Key×Addr×Value)}(r:KT H kvs xs)(k:List Key){b:Addr}{y:V}{u:Value}(hb:H b=some (.tup (k.map kV)))(ry:RelV y u) :
  KT H (Yq kvs k y) (storedH xs k b u):=by
 have e:(kvs.any λkv=>decide (kv.1=k))=(atKey xs k).isSome:=by
  rw[Jm,(r.val k).isSome_eq,Option.isSome_map]
 unfold Yq storedH;rw[e];by_cases q:(atKey xs k).isSome=true
 ·rw[FD q,FD q];exact r.repl k ry
 ·rw[FC q,FC q];exact Paired.snoc r ⟨rfl,hb,ry⟩
theorem KT.keeps {kvs:List (List Key×V)}{xs:List (List Key×Addr×Value)}(r:KT H kvs xs)(ht:∀b ys,H b=some (.tup ys)->H' b=some (.tup ys)):KT H' kvs xs:=
 Paired.mapP r λ_ _ z=>⟨z.1,ht _ _ z.2.1,z.2.2⟩
section
variable {P:Program} {w:World} {H:Hp} {h:Heap} {a:Addr}
theorem BX {u:HO}(ok:HOk P w H h)(e:Rd H a u):ObjOk P w H h a u:=e.ok ok
theorem MW (ok:HOk P w H h)(e:Rd H a (.dK kvs)):kvs.length<=sizeLine/\(a==sysModules)=false/\∃vs,KV kvs vs/\h.DictOf (QY P w) a vs:=
 show ObjOk P w H h a (.dK kvs) from BX ok e
theorem Re (ok:HOk P w H h)(e:H a=some (.dK kvs)):kvs.length<=sizeLine/\(a==sysModules)=false/\∃vs,KV kvs vs/\h.DictOf (QY P w) a vs:=MW ok (.inl e)
theorem UY {ks:List Key}(ok:HOk P w H h)(e:H a=some (.tup (ks.map kV))):(tupleKind (QY P w)).is h ks a:=by
 obtain⟨_,its,r,o,h1,h2,n,h3⟩:=(show ObjOk P w H h a (.tup (ks.map kV)) from ok a _ e)
 exact⟨o,its.toArray,n,h1,h2,h3,by simpa using Kr r⟩
theorem MV {kvs:List (List Key×V)}(ok:HOk P w H h)(e:Rd H a (.dT kvs)):kvs.length<=sizeLine/\(a==sysModules)=false /\
  ∃xs,KT H kvs xs/\h.DictOfH (tupleKind (QY P w)) a xs:=by
 obtain⟨z,y,xs,r,o,es,ep,h1,h2,h3,h4,h5⟩:=(show ObjOk P w H h a (.dT kvs) from BX ok e)
 refine⟨z,y,xs,r,o,es,ep,h1,h2,h3,h4,λx hx=>?_,h5⟩;have all:∀{l:List (List Key×V)} {m:List (List Key×Addr×Value)},KT H l m->∀x∈m,(tupleKind (QY P w)).is h x.1 x.2.1:=by
  intro l m q
  induction q with
  | nil=>intro x hx;exact nomatch hx
  | @cons p q ps qs hq t ih=>
   intro x hx;rcases FP.mp hx with e|hx
   ·subst e;exact UY ok (by rw [<-hq.1];exact hq.2.1)
   ·exact ih x hx
 exact all r x hx
theorem HB {kvs:List (List Key×V)}(ok:HOk P w H h)(e:H a=some (.dT kvs)):kvs.length<=sizeLine/\(a==sysModules)=false /\
  ∃xs,KT H kvs xs/\h.DictOfH (tupleKind (QY P w)) a xs:=MV ok (.inl e)
end
def DGet (H:Hp)(a:Addr)(y:V)(r:Option V):Prop:=
 (∃kvs k,Rd H a (.dK kvs)/\y=kV k/\r=XF kvs k)∨∃kvs k b,Rd H a (.dT kvs)/\y=.ref b/\H b=some (.tup (k.map kV))/\r=XF kvs k
def DPut (H:Hp)(a:Addr)(y v:V)(H':Hp):Prop:=
 (∃kvs k,H a=some (.dK kvs)/\y=kV k/\kvs.length<sizeLine/\H'=upd H a (.dK (Yq kvs k v))) ∨
 ∃kvs k b,H a=some (.dT kvs)/\y=.ref b/\H b=some (.tup (k.map kV))/\kvs.length<sizeLine/\H'=upd H a (.dT (Yq kvs k v))
theorem DGet.k {H:Hp}{a:Addr}{kvs:List (Key×V)}{k:Key}(e:H a=some (.dK kvs)):DGet H a (kV k) (XF kvs k):=.inl ⟨kvs,k,.inl e,rfl,rfl⟩
theorem DPut.k {H:Hp}{a:Addr}{kvs:List (Key×V)}{k:Key}{v:V}(e:H a=some (.dK kvs))(hl:kvs.length<sizeLine):DPut H a (kV k) v (upd H a (.dK (Yq kvs k v))):=.inl ⟨kvs,k,e,rfl,hl,rfl⟩
section
variable {X:Cx} {pins:List (Addr×Obj)} {σ:St} {H:Hp} {s:Shared} {a:Addr} {y v:V} {u r:Value} {o:Option V} {A:Around} {E:Value->Shared->Prop}
theorem Inv.big (I:Inv X pins σ H s):sysModules<s.heap.objs.size:=by
 have h:mainGlobals<s.heap.objs.size:=(I.mod.glob.keeps I.bk).lt;exact Nat.lt_trans (by decide) h
theorem NC {Q:Value->Shared->Prop}(hu:A.units+1<cLine)(I:Inv X pins σ H s)(g:DGet H a y (some v))(ry:RelV y u)(h:∀w' s',Inv X pins σ H s'->RelV v w'->Q w' s') :
  wpAny (model X.prog X.w) A (getItem (.ref a) u) Q E s:=by
 rcases g with ⟨kvs,k,e,ey,l⟩|⟨kvs,k,b,e,ey,eb,l⟩
 ·subst ey;obtain⟨z,hd,vs,rel,dd⟩:=MW I.hok e;obtain⟨w',hw,rw'⟩:=RelO.some_of (v:=v) (o:=valueAt vs k) (by rw[l];exact rel.val k);exact wpAny_getItem_of (Kq ry) dd.mapOf hw (h w' _ (I.tok _) rw')
 ·subst ey;cases(show u=Value.ref b from ry);obtain⟨z,hd,xs,rel,dd⟩:=MV I.hok e;obtain⟨w',hw,rw'⟩:=RelO.some_of (v:=v) (o:=(atKey xs k).map (·.2)) (by rw[l];exact rel.val k);obtain⟨p,hp,hp2⟩:=F6.mp hw;refine wpAny_getItem_heap (tupleKind_room_in1 hu) (UY I.hok eb) dd hp ?_;rw[hp2];exact h w' _ (I.tok _) rw'
theorem Vo {h':Heap}{ob:HO}(I:Inv X pins σ H s)(mu:Mut (H a))(hs:Heap.SameBut a s.heap h')(he:∃q,h'.get? a=some q)(new:ObjOk X.prog X.w (upd H a ob) h' a ob) :
  Inv X pins σ (upd H a ob) { s with heap:=h',toks:=t' }:=
 I.write (x:=a) (e:=a) mu (.inl rfl) (λb q hb z=>(hs.2 b hb).trans z) he new
theorem MX {h':Heap}{vs:List (Key×Value)}(z:kvs.length<=sizeLine)(hd:(a==sysModules)=false)(rel:KV kvs vs)(dd:h'.DictOf (QY P w) a vs) :
  ObjOk P w H' h' a (.dK kvs):=⟨z,hd,vs,rel,dd⟩
theorem NB {Q:Unit->Shared->Prop}(hu:A.units+1<cLine)(I:Inv X pins σ H s)(g:DPut H a y v H')(ry:RelV y u)(rv:RelV v r)(h:∀s',Inv X pins σ H' s'->Q () s') :
  wpAny (model X.prog X.w) A (setItem (.ref a) u r) Q E s:=by
 rcases g with ⟨kvs,k,e,ey,l,eH⟩|⟨kvs,k,b,e,ey,eb,l,eH⟩
 ·subst ey eH;obtain ⟨z,hd,vs,rel,dd⟩:=Re I.hok e;have hz:vs.length<=sizeLine:=by rw [<-rel.length];exact z
  have hl:(Yq kvs k v).length<=sizeLine:=by have:=Yw kvs k v;omega
  refine wpAny_setItem_pairs (hsz:=hz) (Kq ry) dd λh' dd' hs=>h _ ?_
  have he:∃q,h'.get? a=some q:=let ⟨q,_,_,hq,_⟩:=dd';⟨q,hq⟩;exact Vo I (by rw[e];exact True.intro) hs he (MX hl hd (rel.put k rv) dd')
 ·subst ey eH;cases (show u=Value.ref b from ry);obtain ⟨z,hd,xs,rel,dd⟩:=HB I.hok e;have hz:xs.length<=sizeLine:=by rw [<-Paired.length rel];exact z
  have hl:(Yq kvs k v).length<=sizeLine:=by have:=Yw kvs k v;omega
  refine wpAny_setItem_heap (hsz:=hz) (tupleKind_room_in1 hu) (UY I.hok eb) dd λh' dd' hs=>h _ ?_
  obtain⟨q,es,ep,hq,h2,h3,h4,_,h5⟩:=dd';refine Vo I (by rw[e];exact True.intro) hs ⟨q,hq⟩ ⟨hl,hd,_,(rel.put k eb rv).keeps λc ys ec=>?_,q,es,ep,hq,h2,h3,h4,h5⟩;rw[Qq (Kn ec e (λz=>nomatch z))];exact ec
end
def Tp (i:Expr):Prop:=∀ov iv,subscripted i false ov iv=operate [ov,iv] (getItem ov iv)
theorem Gg {value slice:Expr}{id:String}{Q:Value->Shared->Prop} 
  (hl:typeLookup (.type T) "__getitem__"=pure (some (.builtin id))) (hs:Tp slice)
  (h:wpAny (model prog w) A (eval value env) (λo s₁=>wpAny (model prog w) A (eval slice env) (λi s₂=>s₂.TypeIs o T/\wpAny (model prog w) A (getItem o i) Q E s₂) E s₁) E s) :
  wpAny (model prog w) A (eval (.Subscript value slice pos) env) Q E s:=by
 refine Subscript_ (Ed h (λo s₁ h₁=>Ed h₁ (λi s₂ h₂=>?_) λ_ _ x=>x) λ_ _ x=>x);obtain⟨hT,h₂⟩:=h₂;unfold subscriptTail;refine FG ?_;rw[getitemInPython_of_ne hT.not_modules];refine FG (wpAny_specialOf hT hl ?_);have fin:wpAny (model prog w) A (subscripted slice false o i) (λr s₃=>wpAny (model prog w) A (letTemporaryGo value o r >>= λ_=>pure r) Q E s₃) E s₂:=by
  rw[hs o i];exact wpAny_operating (Ed h₂ (λr s₃ h₃=>FG (wpAny_letTemporaryGo (FM h₃))) λ_ _ x=>x)
 first
  | exact FM (FG fin)
  | exact FG (FM (FG fin))
  | exact FG fin
theorem Ub {a:Addr}{o:Option V}(I:Inv X pins σ H s)(g:DGet H a y o):s.TypeIs (.ref a) "dict":=by
 rcases g with ⟨kvs,k,e,_,_⟩|⟨kvs,k,b,e,_,_,_⟩
 ·obtain⟨_,_,vs,_,dd⟩:=MW I.hok e;exact dd.typeIs
 ·obtain⟨_,_,xs,_,dd⟩:=MV I.hok e;exact dd.typeIs
def Wa (td ty:TE):TE:=λσ H Q=>td σ H λx H1=>ty σ H1 λy H2=>∃a v,x=.ref a/\DGet H2 a y (some v)/\Q v H2
def BW (td ty tv:TE):TS:=λD σ H=>tv σ H λv H1=>td σ H1 λx H2=>ty σ H2 λy H3=>∃a H4,x=.ref a/\DPut H3 a y v H4/\D.nx σ H4
section
variable {X:Cx} {o i e value:Expr} {pos pos' tpos:Pos} {td ty tv:TE}
theorem Zg (hu:X.A.units+1<cLine)(ho:PE X o td)(hi:PE X i ty)(hs:Tp i):PE X (.Subscript o i pos) (Wa td ty):=by
 intro pins s σ H Q I h;refine Gg PySem.F.slot_dict_getitem.lookup hs (thn (ho pins s σ H _ I h) λu s1 ⟨x,H1,I1,rx,q1⟩=>thn (hi pins s1 σ H1 _ I1 q1) λiv s2 ⟨y,H2,I2,ry,a,v,ex,g,q2⟩=>?_);subst ex;obtain rfl:u=Value.ref a:=rx;exact⟨Ub I2 g,NC hu I2 g ry λw' s3 I3 rw'=>⟨v,H2,I3,rw',q2⟩⟩
theorem LK (hu:X.A.units+1<cLine)(ho:PE X o td)(hi:PE X i ty)(hv:PE X value tv)(hs:swapsWith value (some (.Subscript o i pos')) pos.line X.env=pure false) :
  PS X (.Assign [.Subscript o i pos'] value pos) (BW td ty tv):=by
 intro pins s σ H D I h;refine wpAny_Assign_Subscript (thn (hv pins s σ H _ I h) λr s1 ⟨v,H1,I1,rv,q1⟩=>thn (ho pins s1 σ H1 _ I1 q1) λu s2 ⟨x,H2,I2,rx,q2⟩=>thn (hi pins s2 σ H2 _ I2 q2) λiv s3 ⟨y,H3,I3,ry,a,H4,ex,g,q3⟩=>?_) hs;subst ex;obtain rfl:u=Value.ref a:=rx;exact NB hu I3 g ry rv λs4 I4=>⟨σ,H4,I4,q3⟩
end
theorem MY (h:Heap)(hb:sysModules<h.objs.size):ObjOk P w H (h.push { cls:=.type "dict",data:=.dict #[] }) h.objs.size (.dK []):=
 ⟨F7 _,beq_eq_false_iff_ne.mpr (Ey (FU hb)),[],.nil,Heap.DictOf.new h⟩
def KH:List (TE×TE)->St->Hp->(List (V×V)->Hp->Prop)->Prop
 | [],_,H,Q=>Q [] H
 | (tk,tv)::r,σ,H,Q=>tk σ H λx H1=>tv σ H1 λy H2=>KH r σ H2 λps H3=>Q ((x,y)::ps) H3
abbrev VV:List (V×V)->List (Value×Value)->Prop:=Paired λp q=>RelV p.1 q.1/\RelV p.2 q.2
def PPs (X:Cx)(pos:Pos)(keys:List (Option Expr))(values:List Expr)(trs:List (TE×TE)):Prop:=
 ∀(pins:List (Addr×Obj)) (s:Shared) (σ:St) (H:Hp) (Q:List (V×V)->Hp->Prop),Inv X pins σ H s->KH trs σ H Q ->
  wpAny (model X.prog X.w) X.A (evalPairs (pairTrees keys values X.env pos)) (λvs s'=>∃ps H',Inv X pins σ H' s'/\VV ps vs/\Q ps H') X.xe s
theorem LL:PPs X pos [] [] []:=λpins s σ H Q I h=>pairTrees_nil_walk ⟨[],H,I,.nil,h⟩
theorem VL {k v:Expr}{ks:List (Option Expr)}{vs:List Expr}{tk tv:TE}{trs:List (TE×TE)}(hk:PE X k tk)(hv:PE X v tv)(hr:PPs X pos ks vs trs) :
  PPs X pos (some k::ks) (v::vs) ((tk,tv)::trs):=λpins s σ H Q I h=>
 pairTrees_cons_walk (thn (hk pins s σ H _ I h) λu s1 ⟨x,H1,I1,rx,q1⟩=>thn (hv pins s1 σ H1 _ I1 q1) λw2 s2 ⟨y,H2,I2,ry,q2⟩=>
  thn (hr pins s2 σ H2 _ I2 q2) λws s3 ⟨ps,H3,I3,rel,q3⟩=>⟨(x,y)::ps,H3,I3,.cons ⟨rx,ry⟩ rel,q3⟩)
def WN (kvs more:List (Key×V)):List (Key×V):=more.foldl (λacc kv=>Yq acc kv.1 kv.2) kvs
theorem KV.merge:∀{more:List (Key×V)}{rs:List (Key×Value)}{kvs:List (Key×V)}{vs:List (Key×Value)},KV more rs->KV kvs vs->KV (WN kvs more) (merged vs rs):=by
 intro more rs kvs vs r;unfold KV at r
 induction r generalizing kvs vs with
 | nil=>intro q;exact q
 | @cons p q ps qs h t ih=>
  intro r0;have e:KV (Yq kvs p.1 p.2) (stored vs q.1 q.2):=by
   have:=r0.put p.1 h.2;rw [<-h.1];exact this
  exact ih e
theorem YN:∀(more kvs:List (Key×V)),(WN kvs more).length<=kvs.length+more.length
 | [],kvs=>by show kvs.length<=kvs.length+0;omega
 | p::r,kvs=>by
  have h1:=YN r (Yq kvs p.1 p.2);have h2:=Yw kvs p.1 p.2;show(WN (Yq kvs p.1 p.2) r).length<=_;rw[Ea];omega
theorem JR {P:Program}{w:World}:∀{kvs:List (Key×V)}{ws:List (Value×Value)},VV (kvs.map λkv=>(kV kv.1,kv.2)) ws->∃rs,Carries (QY P w) ws rs/\KV kvs rs
 | [],_,r=>by rw[List.map_nil] at r;cases r;exact⟨[],True.intro,.nil⟩
 | p::kvs,_,r=>by
  rw[El] at r;cases r with
  | @cons a b as bs h t=>
   obtain⟨rs,c,q⟩:=JR (P:=P) (w:=w) t;obtain⟨b1,b2⟩:=b;exact⟨(p.1,b2)::rs,⟨Kq h.1,rfl,c⟩,.cons ⟨rfl,h.2⟩ q⟩
def SI (trs:List (TE×TE)):TE:=λσ H Q=>∀p,H p=none->KH trs σ (upd H p (.dK [])) λps H2=>H2 p=some (.dK [])/\∃kvs:List (Key×V),ps=kvs.map (λkv=>(kV kv.1,kv.2))/\kvs.length<=15/\Q (.ref p) (upd H2 p (.dK (WN [] kvs)))
theorem LY {keys:List (Option Expr)}{values:List Expr}{trs:List (TE×TE)}(h:PPs X pos keys values trs)(hall:keys.all (·.isSome)=true)(hl:keys.length=values.length)(h0:keys≠[])
  (h15:keys.length<=15):PE X (.Dict keys values pos) (SI trs):=by
 intro pins s σ H Q I q;have hn:=I.hok.fresh (FE s.heap.objs.size);have I1:=I.laid (a:=s.heap.objs.size) (o:=.dK []) (h':=s.heap.push { cls:=.type "dict",data:=.dict #[] }) (t':=s.toks) (λ_ _ q=>FT _ q) (FE _) (MY s.heap I.big);refine wpAny_Dict_walk (knd:=QY X.prog X.w) hall hl h0 h15 (thn (h pins _ σ _ _ I1 (q _ hn)) λws s2 ⟨ps,H2,I2,rel,e,kvs,ep,lk,q2⟩=>?_);subst ep;obtain⟨rs,c,rk⟩:=JR (P:=X.prog) (w:=X.w) rel;obtain⟨z,hd,vs0,r0,dd⟩:=Re I2.hok e;cases r0;refine⟨rs,c,dd,λh' dd' hs=>⟨.ref s.heap.objs.size,_,?_,rfl,q2⟩⟩;have hz:(WN [] kvs).length<=sizeLine:=by
  have h1:=YN kvs [];rw[List.length_nil] at h1;rw[FN];omega
 have he:∃q,h'.get? s.heap.objs.size=some q:=let ⟨q,_,_,hq,_⟩:=dd';⟨q,hq⟩;exact Vo I2 (by rw[e];exact True.intro) hs he (MX hz hd (rk.merge .nil) dd')
end L2
namespace L2
open PySem PyProof.Rows
end L2
namespace L2
open PySem PyProof.Rows
section
variable {X:Cx} {e o value:Expr} {ta tv:TE} {f:Str} {pos pos':Pos}
theorem QB (K:W.Frag)(h:X.K=K)(he:PE X e ta)(hb:attributeBase e f X.env (eval e X.env)=eval e X.env:=by rfl):PE X (.Attribute e f pos) (Lq K ta f):=by subst h;exact Po he hb
theorem QH (K:W.Frag)(h:X.K=K)(ha:PE X o ta)(hv:PE X value tv)(hs:swapsWith value (some (.Attribute o f pos')) pos.line X.env=pure false:=by rfl):PS X (.Assign [.Attribute o f pos'] value pos) (Ly K ta tv f):=by subst h;exact Pj ha hv hs
end
def SS (K:W.Frag):V->List V->Hp->VK->Prop:=λx vs H Q=>∃(z:Str) (p:Addr) (ys:List Str),x=.str z/\vs=[.ref p]/\SqL K H p (ys.map V.str)/\(ys.map (·.length)).sum+ys.length*z.length<=16777216/\Q (.str (Txt.join z ys)) H
theorem Uv {ys:List Str}:∀{us:List Value},Vals (ys.map V.str) us->StrsAre us ys:=by
 induction ys with
 | nil=>intro us r;rw[List.map_nil] at r;cases r;exact .nil
 | cons y ys ih=>
  intro us r;rw[El] at r;cases r with
  | cons hv r=>
   obtain⟨t,rfl⟩:=hv;exact .cons _ _ (ih r)
theorem Gv (K:W.Frag){X:Cx}(h:X.K=K):MtR X "str.join" (SS K):=by
 subst h;intro pins s σ H x xs v us Q I rx rs q;obtain⟨z,p,ys,rfl,rfl,hq,hz,q⟩:=q;obtain⟨t,rfl⟩:=rx;obtain⟨u,rfl,r1⟩:=Xj rs;obtain rfl:=r1.ref_of;obtain⟨its,rv,pl,_⟩:=I.list hq;exact join_list pl.isList (by simpa using Uv rv) hz λt' k=>⟨.str _,H,I.tok _,⟨_,rfl⟩,q⟩
def SN:List V->Hp->VK->Prop:=λxs H Q=>(∃i,xs=[.int i]/\i.natAbs.log2<1920/\Q (.str (toString i)) H)∨(∃z,xs=[.str z]/\Q (.str z) H)
theorem NG:CallR X (.type "str") (λxs H Q=>∃z,xs=[.str z]/\Q (.str z) H):=by
 intro pins s σ H xs us Q I r h;obtain⟨z,rfl,q⟩:=h;obtain⟨u,rfl,t,rfl⟩:=Xj r;exact PySem.P.str_of_str ⟨.str z,H,I,⟨_,rfl⟩,q⟩
theorem ZJ:CallR X (.type "str") SN:=call_str_int.or NG
structure Vw (P:Program)(w:World)(K:W.Frag)(mg:Str->Option Value)(base:Heap)(k:Nat)(C:Addr)(m:Str)(ps:List Str)(sp:Sp):Prop where
 ex:∃(f:Addr) (fd:FuncData),FnOk P w K mg base CX0 k f fd ps sp/\Binds K fd ps []/\Lg K C m f
structure JY (P:Program)(w:World)(K:W.Frag)(mg:Str->Option Value)(base:Heap)(k:Nat)(C:Addr)(ps:List Str)(sp:Sp):Prop where
 ex:∃(f:Addr) (fd:FuncData),FnOk P w K mg base CX0 k f fd ps sp/\Binds K fd ps []/\Mk K C f
structure IsC (K:W.Frag)(C:Addr):Prop where
 ha:W.findIn K (.ref C) "__class__"=some (some (.builtin "object.__class__"))
 hn:W.specialIn K (.builtin "object.__class__") "__get__"=some (some (.builtin "getset_descriptor.__get__"))
 htk:W.takesIn K (.builtin "object.__class__")=some true
 hm:W.mroIn K C (.type "object")=some true
theorem IsC.ty {a:Addr}{fs:List (Str×V)}(h:IsC K C)(c:Cls K C)(e:H a=some (.ins C dx fs)):TyOf K H (.ref a) (.ref C):=.ins e c h.ha h.hn h.htk h.hm
section
variable {X:Cx} {k:Nat} {C:Addr} {m x:Str} {ps:List Str} {sp:Sp} {p pos apos:Pos} {o e:Expr} {es:List Expr} {t:TA} {ta:TE}
theorem UH (G:Vw X.prog X.w X.K X.mg X.base k C m ps sp)(hr:Room k X.A)(c:Cls X.K C)(he:PE X o ta)(ha:PA X (e::es) t)
  (hst:starEach (e::es) X.env=(false,eval e X.env)::starEach es X.env:=by rfl) (hpl:(backTo pos (starEach es X.env)).any (·.1)=false:=by rfl)
  (ht:eval (.Call (.Attribute o m apos) (e::es) [] pos) X.env=(do
   let ov <-eval o X.env
   standAt apos.atName
   let (f,first) <-holding [ov] (getMethod ov m pl)
   callWith pos f first (backTo pos (starEach (e::es) X.env)) (backToKw pos (keywordEach [] X.env))):=by rfl) :
  PE X (.Call (.Attribute o m apos) (e::es) [] pos) (VA C m sp [] E0 ta t):=by
 obtain⟨f,fd,F,b,M⟩:=G.ex;exact LV he c M F hr b .nil Kl ha hst hpl ht
theorem K2 (G:Vw X.prog X.w X.K X.mg X.base k C m ps sp)(hr:Room k X.A)(c:Cls X.K C)(he:PE X o ta)
  (ht:eval (.Call (.Attribute o m apos) [] [] pos) X.env=(do
   let ov <-eval o X.env
   standAt apos.atName
   let (f,first) <-holding [ov] (getMethod ov m pl)
   callWith pos f first (backTo pos (starEach [] X.env)) (backToKw pos (keywordEach [] X.env))):=by rfl) :
  PE X (.Call (.Attribute o m apos) [] [] pos) (VA C m sp [] E0 ta Uu):=by
 obtain⟨f,fd,F,b,M⟩:=G.ex;exact Ml he c M F hr b .nil Kl ht
theorem YY (G:JY X.prog X.w X.K X.mg X.base k C ps sp)(hr:Room (k+1) X.A)(hg:Gl X x)(hm:X.mg x=some (.ref C))(ha:PA X (e::es) t)(hdb:(x==("__debug__":Str))=false:=by decide)
  (he:starEach (e::es) X.env=(false,eval e X.env)::starEach es X.env:=by rfl) (hpl:(backTo pos (starEach es X.env)).any (·.1)=false:=by rfl):PE X (.Call (.Name x p) (e::es) [] pos) (YM C sp [] E0 t):=by
 obtain⟨f,fd,F,b,M⟩:=G.ex;exact Gr M F hr hg hm b .nil Kl ha hdb he hpl
end
theorem Q7 {f:Str}{fs:List (Str×V)}(hp:H p=some (.ins C dx fs))(c:Cls K C)(n:NoAttr K C f)(l:fs.lookup f=some v)(q:Q v H)(e:σ[i]?=some (some (.ref p)):=by rfl):Lq K (X7 i) f σ H Q:=by
 show asVar σ[i]? _;rw[e];exact⟨p,C,dx,fs,v,rfl,hp,c,n,l,q⟩
theorem X6 {j:Nat}{f:Str}{fs:List (Str×V)}{D:Q6}(hp:H p=some (.ins C dx fs))(c:Cls K C)(n:NoAttr K C f)(l:fs.length<1000)(q:D.nx σ (upd H p (.ins C dx (QO f v fs))))(e:σ[i]?=some (some (.ref p)):=by rfl)(e':σ[j]?=some (some v):=by rfl):Ly K (X7 i) (X7 j) f D σ H:=by
 show asVar σ[j]? _;rw[e'];show asVar σ[i]? _;rw[e];exact⟨p,C,dx,fs,rfl,hp,c,n,l,q⟩
def BY:R2:=λx y H Q=>∃z n,x=.str z/\y=.int n/\PySem.MulOk z n/\Q (.str (Txt.mul z n)) H
theorem L6:OpR X (binaryOp .Mult) BY:=by
 intro pins s σ H x y v u Q I rx ry h;obtain⟨z,n,rfl,rfl,hz,q⟩:=h;obtain⟨t,rfl⟩:=rx;obtain⟨t',rfl⟩:=ry;exact SB.mul hz λt' tk=>⟨.str (Txt.mul z n),H,I.tok _,⟨_,rfl⟩,q⟩
def sMul:R2:=λx y H Q=>match x,y with
 | .int i,.int j=>CMulB i j/\Q (.int (i*j)) H
 | .str z,.int n=>PySem.MulOk z n/\Q (.str (Txt.mul z n)) H
 | _,_=>False
theorem sMul.out (x y:V)(H:Hp)(Q:VK)(h:sMul x y H Q):rI CMulB (λi j=>.int (i*j)) x y H Q∨BY x y H Q:=by
 unfold sMul at h;split at h
 ·exact .inl ⟨_,_,rfl,rfl,h⟩
 ·exact .inr ⟨_,_,rfl,rfl,h⟩
 ·exact h.elim
theorem Wf:OpR X (binaryOp .Mult) sMul:=(op_mulB.or L6).imp sMul.out
theorem GR {m:Str}{sp:Sp}{ta:TA}{fs:List (Str×V)}(hp:H p=some (.ins C dx fs))(l:fs.lookup m=none)(q:ta σ H λvs H2=>sp (.ref p::(vs++[])) H2 Q E0)(e:σ[i]?=some (some (.ref p)):=by rfl):VA C m sp [] E0 (X7 i) ta σ H Q:=by
 show asVar σ[i]? _;rw[e];exact⟨p,dx,fs,rfl,hp,l,q⟩
theorem WX {x:V}{D:Addr}{t:Value}{b:Bool}(ty:TyOf K H x t)(e:W.kitOne K t (.ref D)=some b)(q:Q (.bl b) H):Gn K [x,.ref D] H Q:=.inl (.inl ⟨x,.ref D,t,b,.ref D,rfl,rfl,λ_ h=>h,ty,e,q⟩)
theorem PV {k:Key}(h:JF k u=true):RelV (kV k) u:=by
 rcases Q5 h with ⟨i,t,rfl,rfl⟩|⟨x,t,rfl,rfl⟩
 ·exact⟨t,rfl⟩
 ·exact⟨t,rfl⟩
def DOb (P:Program)(w:World)(o:Obj)(vs:List (Key×Value))(ep:Nat):Prop:=∃es,o.ExactDict/\o.data=.dict es ep/\KeysOf (QY P w) es/\Pairs (QY P w) es.toList vs/\(vs.map (·.1)).Nodup
section
variable {P:Program} {w:World} {A:Around} {R:Result->Shared->Prop} {I:Addr} {fp wr:List Addr} {G:Array GenState->Array GenState->Prop} {n:Nat} {T:Nat->Value->Prop} {St:Nat->Shared->Prop}
def met (zs:List Str)(i:Nat)(k:Str):Bool:=decide (k∈zs.take i)
theorem JJ (z:Str)(t:Tok):Value.isStrOf z (.str z t)=true:=by simp[Value.isStrOf]
theorem PK (nd:zs.Nodup){i:Nat}{z:Str}(h:zs[i]?=some z):met zs i z=false:=by
 unfold met;refine F1 λhm=>?_
 obtain⟨j,hj,e⟩:=List.mem_iff_getElem.mp hm;rw[Ep] at hj;rw[List.getElem_take] at e;have e1:zs[j]?=some z:=by rw[FI (by omega),e]
 have:=(List.getElem?_inj (by omega) nd).mp (e1.trans h.symm);omega
theorem MB (h:zs[i]?=some z)(k:Str):(met zs i k||decide (k=z))=met zs (i+1) k:=by
 unfold met;rw[Et,h];simp only[Option.toList_some,Ec,FQ,Bool.decide_or]
theorem NU (W:WalksS P w A.in1 I fp wr G n T St)(S:Addr)(hS:S∉fp)(zs:List Str)(nd:zs.Nodup)(hn:zs.length=n)(hT:∀i v,T i v->∃z t,zs[i]?=some z/\v=.str z t)(hb:n+1<scanBound):∀(k i:Nat) (s:Shared),n-i=k->i<=n->St i s->s.heap.SetOf (strKind P w) S (met zs i) i ->
  (∀s',Moved (S::wr) G s s'->s'.heap.SetOf (strKind P w) S (met zs n) n->R (.ok (.ret .none)) s')->codeAny (model P w) A (.builtin "set.update.loop" ⟨[.ref S,.ref I],[]⟩) R s:=by
 have hSw:S∉wr:=λz=>hS (W.sub _ z)
 have sub:∀b∈wr,b∈S::wr:=λb z=>F5 _ z
 intro k
 induction k with
 | zero=>
  intro i s hk hi st hs hR;obtain rfl:i=n:=by omega
  refine codeAny_builtin F.entry_set_update_loop ?_;rw[Around.under_plainId F.plain_set_update_loop _];refine FG (m:=pyNext (.ref I)) (W.done s _ _ st λs' mv=>?_);refine(show wpAny _ A.in1 (ret Value.none) _ _ s' from FM (hR s' (mv.mono sub) ?_));obtain⟨o,es,ep,t,ho,r⟩:=hs;exact⟨o,es,ep,t,mv.heap S _ hSw ho,r⟩
 | succ k ih=>
  intro i s hk hi st hs hR;have lt:i<n:=by omega
  refine codeAny_builtin F.entry_set_update_loop ?_;rw[Around.under_plainId F.plain_set_update_loop _];refine FG (m:=pyNext (.ref I)) (W.item i s _ _ lt st λv s' hv st' mv=>?_);obtain⟨z,t,hz,rfl⟩:=hT i v hv;have hs':s'.heap.SetOf (strKind P w) S (met zs i) i:=by
   obtain⟨o,es,ep,tb,ho,r⟩:=hs;exact⟨o,es,ep,tb,mv.heap S _ hSw ho,r⟩
  show wpAny _ A.in1 (holding [Value.str z t] (setAdd S (.str z t)) >>= _) _ _ s';refine FG (wpAny_holding ?_);unfold setAdd;refine wpAny_holding ?_;refine FG ((strKind P w).pyHash (k:=z) (JJ z t) ?_);have ab:met zs i z=false:=PK nd hz;refine wpAny_setAddHashed_of (knd:=strKind P w) (s:={ s' with toks:=s'.toks+1 }) (k:=z) (JJ z t) rfl hs' (by omega) λh' sb s2=>?_
  have si:h'.SetOf (strKind P w) S (met zs (i+1)) (i+1):=by
   rw[ab] at s2;refine SetOf_congr s2 (λk'=>MB hz k') rfl
  refine FM ⟨plainId_quiet F.plain_set_update_loop _,ih (i+1) _ (by omega) lt (W.frame _ s' _ _ st' (ET _) λb hb' o e=>?_) si λs'' mv' hs''=>?_⟩
  ·rw [sb.2 b (fun z:b=S=>hS (by rw [<-z];exact hb'))];exact e
  ·refine hR s'' (Moved.trans W.gtrans ((mv.mono sub).then_heap (ET _) λb o hb' e=>?_) mv') hs'';rw[sb.2 b (λz:b=S=>hb' (by rw[z];exact Eb))];exact e
end
section
variable {P:Program} {w:World} {A:Around} {E:Value->Shared->Prop} {s:Shared}
def Ka (led:Bool):Obj:={ cls:=.type "set",dict:=none,data:=.set #[] 0 (.fresh 0 0 led) }
theorem NI {its:Array Value}{Q:Value->Shared->Prop}(hh:A.handled=none)(hl:s.heap.IsList l its)(nd:zs.Nodup)(hn:zs.length=its.size)(hi:∀(i:Nat) v,its[i]?=some v->∃z t,zs[i]?=some z/\v=.str z t)(hb:its.size+1<scanBound)
  (h:∀(h':Heap) (tk:Nat),h'.SetOf (strKind P w) s.heap.objs.size (met zs its.size) its.size->(∀b o,b<s.heap.objs.size->s.heap.get? b=some o->h'.get? b=some o)->Q (.ref s.heap.objs.size) { s with heap:=h',toks:=tk }) :
  wpAny (model P w) A (call (.type "set") [.ref l]) Q E s:=by
 obtain⟨c,tl,hmro⟩:=F.called_set.mro;have hmade:=F.called_set.made;have hsub:=F.called_set.sub;refine wpAny_call (codeAny_of_tree (show wpAny _ _ (callAny (.type "set") _) _ _ _ from ?_));refine FM ⟨Code.quiet_builtin _ (by decide +kernel),codeAny_builtin F.entry_type_call ?_⟩;rw[Around.under_plain (weight_type_call_type "set" [.ref l] []) rfl];have h1:=F.called_set.notType;have h2:=F.called_set.canCreate;have hct:=F.typeCall_set_1 (.ref l)
 repeat (any_goals (first|assumption|wp_step))
 refine EK (code_set_new_1 (.ref l) (E:=E) (Q₁:=λobj s1=>∃led:Bool,obj=.ref s.heap.objs.size/\s1={ s with heap:=s.heap.push (Ka led) }) λled=>⟨led,rfl,rfl⟩) λr s1 hr=>?_
 match r,hr with
 | .error e,hr=>exact hr
 | .ok .next,hr|.ok .brk,hr|.ok .cont,hr=>exact hr.elim
 | .ok (.ret obj),hr=>
  obtain⟨led,rfl,rfl⟩:=hr;have hS:(s.heap.push (Ka led)).get? s.heap.objs.size=some (Ka led):=Ee _ rfl;have hT:Shared.TypeIs { s with heap:=s.heap.push (Ka led) } (.ref s.heap.objs.size) "set":=⟨_,hS,rfl⟩
  have hli:=F.called_set.init.lookup;have hbi:=F.called_set.init.bind (.ref s.heap.objs.size)
  repeat (any_goals (first|assumption|wp_step))
  refine EK (codeAny_call_builtin (R:=wants (λr s2=>r=.none/\∃h' tk,s2={ s with heap:=h',toks:=tk }/\h'.SetOf (strKind P w) s.heap.objs.size (met zs its.size) its.size/\∀b o,b<s.heap.objs.size->s.heap.get? b=some o->h'.get? b=some o) E) F.called_set.init.plain F.entry_set_init (check_set_init_1 hT ?_)) λr2 s2 hr2=>?_
  ·obtain⟨⟨oc,od,ot,os⟩,hol,rfl,nl,rfl⟩:=hl;have hol':(s.heap.push (Ka led)).get? l=some { cls:=.type "list",dict:=od,data:=.seq its nl,slots:=os }:=FT _ hol;have e1:=F.sub_list_set;have e2:=F.sub_list_frozenset;have e3:(Value.type "list" == Value.type "dict")=false:=by decide
   have hl1:(s.heap.push (Ka led)).IsList l its:=⟨_,hol',rfl,nl,rfl⟩
   unfold Builtin.«set.__init__» noKeywords Builtin.Frozenset.updateFrom;generalize hp:pyIter=pI
   wp_walk
   subst hp;refine wpAny_pyIter_list hl1 (FG (wpAny_runValue ?_));have ls:l<s.heap.objs.size:=FJ hol;have ne:l≠(s.heap.push (Ka led)).objs.size:=by rw[Heap.size_push];exact FU (Nat.lt_succ_of_lt ls)
   have nf:s.heap.objs.size∉[(s.heap.push (Ka led)).objs.size,l]:=by rw[Heap.size_push];simp only[FP,List.not_mem_nil,or_false,not_or];exact⟨FU (EG _),Df ls⟩
   refine NU ((Walks.list (show A.in1.in1.in1.handled=none by simp[hh]) _ l ne its).toS) s.heap.objs.size nf zs nd hn hi hb (its.size-0) 0 _ (by omega) (F7 _) ⟨⟨_,Ee _ rfl,rfl,rfl⟩,(hl1.push _)⟩ ?_ ?_
   ·have g:((s.heap.push (Ka led)).push { cls:=.type "list_iterator",data:=.fields #[.ref l,.int 0 0] }).get? s.heap.objs.size=some (Ka led):=FT _ hS;exact SetOf_congr ((setObjOf_fresh (knd:=strKind P w) led).setOf g (by unfold scanBound;omega)) (λ_=>by unfold met;simp) rfl
   ·rintro ⟨h',g',d',tk',os'⟩ mv hS';have eg:g'=s.gens:=mv.gens;have ed:d'=s.drawn:=mv.drawn;have eo:os'=s.os:=mv.os;subst eg;subst ed;subst eo;refine(show wpAny _ _ _ _ _ _ from FM (show wpAny _ _ (ret Value.none) _ _ _ from FM ⟨rfl,h',tk',rfl,hS',λb o hb' e=>?_⟩));refine mv.heap b o ?_ (FT _ (FT _ e));rw[Heap.size_push];simp only[FP,List.not_mem_nil,or_false,not_or];exact⟨FU hb',FU (Nat.lt_succ_of_lt hb')⟩
  ·match r2,hr2 with
   | .error e,hr2=>exact hr2
   | .ok .next,hr2|.ok .brk,hr2|.ok .cont,hr2=>exact hr2.elim
   | .ok (.ret r),hr2=>
    obtain⟨rfl,h',tk,rfl,hS',hk'⟩:=hr2
    repeat (any_goals (first|assumption|wp_step))
    exact h _ _ hS' hk'
end
def To (a:Addr)(n:Nat):HO:=.ext λh=>∃o es ep t,h.get? a=some o/\o.ExactSet/\o.data=.set es ep t/\t.fits es.size=true/\es.size=n
def SO (K:W.Frag):List V->Hp->VK->Prop:=λxs H Q=>∃(a:Addr) (zs:List Str),xs=[.ref a]/\SqL K H a (zs.map V.str)/\zs.Nodup/\zs.length<=100/\∀p,H p=none->Q (.ref p) (upd H p (To p zs.length))
theorem NH (K:W.Frag){X:Cx}(h:X.K=K)(hc:X.calm=true):CallR X (.type "set") (SO K):=by
 subst h;intro pins s σ H xs us Q I rs q;obtain⟨a,zs,rfl,hL,nd,hl,q⟩:=q;obtain⟨u,rfl,r1⟩:=Xj rs;obtain rfl:=r1.ref_of;obtain⟨its,rv,pl,hz⟩:=I.list hL;have ln:=rv.length;rw[FH] at ln;refine NI (its:=its.toArray) (zs:=zs) (I.ok.hd hc) pl.isList nd (by simp[ln]) (λi v hv=>?_) (by simp only[FV];unfold scanBound;omega) λh' tk hS hk=>?_
 ·have hv':its[i]?=some v:=by simpa using hv
  have hi:=(FZ.mp hv').1;obtain⟨z,hz'⟩:∃z,zs[i]?=some z:=⟨_,FI (by omega)⟩
  obtain⟨w',hw,⟨t,e⟩⟩:=rv.get (x:=.str z) (by rw[F0,hz'];rfl);rw[hv'] at hw;cases hw;exact⟨z,t,hz',e⟩
 ·have fr:H s.heap.objs.size=none:=I.hok.fresh (FE _);obtain⟨o,es,ep,t,h1,h2,h3,h4,h5,h6,h7,h8⟩:=hS;refine⟨.ref s.heap.objs.size,_,I.laid (a:=s.heap.objs.size) (λb u e=>hk b u (FJ e) e) (FE _) ?_,rfl,q _ fr⟩;refine⟨⟨o,es,ep,t,h1,h2,h3,h7,by rw[h8];simp[ln]⟩,⟨o,h1⟩,?_⟩;rintro g1 g2 ⟨o',es',ep',t',k1,k2⟩ k;exact⟨o',es',ep',t',k _ k1,k2⟩
def SR:List V->Hp->VK->Prop:=λxs H Q=>∃(p:Addr) (n:Nat),xs=[.ref p]/\H p=some (To p n)/\n<=100/\Q (.int n) H
theorem NK:CallR X (.builtin "len") SR:=by
 intro pins s σ H xs us Q I rs q;obtain⟨p,n,rfl,hp,hn,q⟩:=q;obtain⟨u,rfl,r1⟩:=Xj rs;obtain rfl:=r1.ref_of;obtain⟨⟨o,es,ep,t,h1,h2,h3,h4,rfl⟩,_⟩:=(show ObjOk X.prog X.w H s.heap p (To p n) from I.hok p _ hp)
 exact call_len_set h1 h2 h3 h4 (by omega) ⟨.int es.size,H,I.tok _,⟨_,rfl⟩,q⟩
end L2
namespace L2
open PySem PySem.Spec PyProof.Rows
end L2
namespace L2
open PySem PySem.W PyProof.Rows
structure Fz (n:Nat)(lt:Nat->Nat->Bool):Prop where
 tot:∀i j,i<n->j<n->i≠j->lt i j=!lt j i
 tr:∀i j k,i<n->j<n->k<n->lt i j=true->lt j k=true->lt i k=true
section
variable {n:Nat} {lt:Nat->Nat->Bool} {p:Array Nat}
variable (L:Fz n lt)
include L
end
def ltS (a b:Str):Prop:=a.cps.toList<b.cps.toList
instance (a b:Str):Decidable (ltS a b):=inferInstanceAs (Decidable (a.cps.toList<b.cps.toList))
end L2
namespace L2
open PySem PyProof.Rows
abbrev TJ:=Str->St->Hp->VK->Prop
end L2
namespace L2
open PySem PySem.Spec PyProof.Rows
end L2
namespace L2
open PySem PySem.Spec PyProof.Rows
structure Cj {α:Type}(t:Sem α):Prop where
 out:∀(M:Model) (Γ:PySem.Ctx) (Q1 Q2:α->Pos->Shared->Prop) (E1 E2:Value->Pos->Shared->Prop) (p:Pos) (s:Shared),Sem.wp M Γ t Q1 E1 p s->Sem.wp M Γ t Q2 E2 p s ->
  Sem.wp M Γ t (λa p s=>Q1 a p s/\Q2 a p s) (λe p s=>E1 e p s/\E2 e p s) p s
section
variable {α β:Type}
theorem Q3 {a:α}:Cj (pure a:Sem α):=⟨λ_ _ _ _ _ _ _ _ h1 h2=>⟨h1,h2⟩⟩
theorem XE {x:String}:Cj (unsupported x:Sem α):=⟨λ_ _ _ _ _ _ _ _ h1 _=>h1.elim⟩
theorem QM {m:Sem α}{f:α->Sem β}(h:Cj m)(hf:∀a,Cj (f a)):Cj (m >>= f):=⟨λM Γ Q1 Q2 E1 E2 p s h1 h2=>by
 have e:=λQ E=>Sem.wp_bind M Γ m f Q E p s
 have h1':=(e Q1 E1).mp h1;have h2':=(e Q2 E2).mp h2;exact(e _ _).mpr (Sem.wp_mono M Γ m (λa p' s' ⟨z1,z2⟩=>(hf a).out M Γ Q1 Q2 E1 E2 p' s' z1 z2) (λ_ _ _ z=>z) p s (h.out M Γ _ _ _ _ p s h1' h2'))⟩
theorem Vr {a:Addr}:Cj (load a):=⟨λ_ _ _ _ _ _ _ _ ⟨o,e,h1⟩ ⟨o',e',h2⟩=>by
 rw[e] at e';cases e';exact⟨o,e,h1,h2⟩⟩
theorem Ks {a:Addr}{f:Obj->Obj}:Cj (update a f):=⟨λ_ _ _ _ _ _ _ _ ⟨e,h1⟩ ⟨_,h2⟩=>⟨e,h1,h2⟩⟩
theorem Ug {o:Obj}:Cj (alloc o):=⟨λ_ _ _ _ _ _ _ _ h1 h2=>⟨h1,h2⟩⟩
theorem JP:Cj stack:=⟨λ_ _ _ _ _ _ _ _ h1 h2=>⟨h1,h2⟩⟩
end
theorem Cj.any {t:Sem α}(h:Cj t){M:Model}{A:Around}{Q1 Q2:α->Shared->Prop}{E1 E2:Value->Shared->Prop}{s:Shared}(h1:wpAny M A t Q1 E1 s)(h2:wpAny M A t Q2 E2 s):wpAny M A t (λa s=>Q1 a s/\Q2 a s) (λe s=>E1 e s/\E2 e s) s:=
 λΓ p hΓ=>h.out M Γ _ _ _ _ p s (h1 Γ p hΓ) (h2 Γ p hΓ)
theorem Ue {v:Value}:Cj (fieldsOf v):=by
 unfold fieldsOf;split
 ·refine QM Vr λo=>?_
  split
  ·exact Q3
  ·exact XE
 ·exact XE
theorem Wq {v:Value}:Cj (field v i):=by
 unfold field;refine QM Ue λvs=>?_
 split
 ·exact Q3
 ·exact XE
theorem JO {a:Addr}{v:Value}:Cj (updateField a i v):=by
 unfold updateField;refine QM Vr λo=>?_
 split
 ·split
  ·exact Ks
  ·exact XE
 ·exact XE
theorem YA {v x:Value}:Cj (setField v i x):=by
 unfold setField;split
 ·exact JO
 ·exact XE
theorem cj_setFlight {e:Value}{f:Option Addr}:Cj (setFlight e f):=by
 unfold setFlight;refine QM Wq λtb=>?_
 split
 ·exact YA
 ·exact Q3
theorem NF {l:List Env}:Cj (behindIsImport env l):=by
 unfold behindIsImport;split
 ·exact Q3
 ·split
  ·exact Q3
  ·exact QM Wq λ_=>Q3
theorem M4:Cj underTheClaimsCaller:=by
 unfold underTheClaimsCaller;exact QM JP λ_=>Q3
theorem BD {b:Bool}{l:List Env}:Cj (keptBack env b l):=by
 unfold keptBack;split
 ·split
  ·exact Q3
  ·exact QM M4 λ_=>Q3
 ·exact Q3
theorem Ud:∀{l:List Env},Cj (readyFrames l)
 | []=>Q3
 | env::outer=>by
  have ih:=Ud (l:=outer);unfold readyFrames;split
  ·refine QM Vr λo=>?_
   split
   ·exact Q3
   ·exact QM NF λ_=>QM BD λ_=>QM Ks λ_=>ih
  ·exact XE
theorem U6:Cj (PySem.frameOf env):=by
 unfold PySem.frameOf frameEnvs;refine QM (QM JP λ_=>Q3) λl=>?_
 refine QM ?_ λr=>?_
 ·unfold frameObject;split
  ·exact Q3
  ·exact QM Ud λ_=>Q3
 ·split
  ·exact Q3
  ·exact XE
theorem M5 {b:Bool}:Cj (entryPlaceOf f b):=by
 unfold entryPlaceOf;refine QM JP λacts=>?_
 split<;>exact Q3
theorem Vq {ty:String}{l:List Value}:Cj (newFields ty l):=by
 unfold newFields newObj newObjAsIs;dsimp only;split
 ·exact QM XE λ_=>QM Ug λ_=>Q3
 ·exact QM Ug λ_=>Q3
theorem M6 {a b c d e:Value}{l:List Value}:Cj (EntryCells.newEntry a b c d e l):=Vq
theorem cj_noteFrame {e:Value}:Cj (noteFrame e env):=by
 unfold noteFrame;split
 ·refine QM Wq λhd=>?_
  have rest:∀{b:Bool} {f:Addr},Cj (do
    let a <-PySem.frameOf env
    let pl <-entryPlaceOf f b
    let x <-EntryCells.newEntry hd a Value.none (rawInt ↑f) Value.none pl
    setField e 1 x):=λ{b f}=>QM U6 λ_=>QM M5 λ_=>QM M6 λ_=>YA
  dsimp only;split
  ·refine QM Wq λfl=>?_
   split
   ·exact Q3
   ·exact QM YA λ_=>rest
  ·exact rest
 ·exact XE
theorem cj_leaving {e:Value}:Cj (leaving env e):=QM cj_noteFrame λ_=>cj_setFlight
def F3 (e:Addr)(h:Heap):Prop:=∃o vs T oT ts,h.get? e=some o/\o.data=.fields vs/\vs[2]?=some .none/\vs[1]?=some (.ref T)/\T≠e/\h.get? T=some oT/\oT.data=.fields ts/\3<ts.size
theorem Hk {o:Obj}{vs:Array Value}{f:Array Value->Array Value}(h:o.data=.fields vs):(Obj.mapFields f o).data=.fields (f vs)/\(Obj.mapFields f o).isFreed=false:=by
 obtain⟨c,d,dt,sl⟩:=o;cases h;exact⟨rfl,rfl⟩
section
variable {M:Model} {A:Around} {E:Value->Shared->Prop} {s:Shared} {e:Addr} {Q:Unit->Shared->Prop}
theorem YJ {fr:Option Addr}(x:F3 e s.heap)(q:∀h',F3 e h'->Q () { s with heap:=h' }):wpAny M A (setFlight (.ref e) fr) Q E s:=by
 obtain⟨o,vs,T,oT,ts,h1,h2,h3,h4,h5,h6,h7,h8⟩:=x;unfold setFlight;refine FG (wpAny_field h1 h2 h4 ?_);rw[FD (by rfl)];refine wpAny_setField h6 h7 h8 (q _ ?_);obtain⟨m1,m2⟩:=Hk (f:=λx_1=>x_1.setIfInBounds 3 (fr.elim Value.none λf=>rawInt ↑f)) h7;refine⟨o,vs,T,_,_,?_,h2,h3,h4,h5,Di _ h6 m2,m1,by simpa using h8⟩;exact Dc _ h5 h1
theorem GG {hd:Value}{b:Bool}(hf:A.frames=some (env::outer))(ff:s.heap.FunFrames base (env::outer))(hL:env.frame=some L){o:Obj}{vs:Array Value}(h1:s.heap.get? e=some o)(h2:o.data=.fields vs)(h3:vs[2]?=some .none)
  (q:∀h',F3 e h'->Q () { s with heap:=h' }):wpAny M A (do
    let a <-PySem.frameOf env
    let pl <-entryPlaceOf L b
    let x <-EntryCells.newEntry hd a Value.none (rawInt ↑L) Value.none pl
    setField (.ref e) 1 x) Q E s:=by
 refine FG (wpAny_frameOf_fun hf ff hL λh' so=>?_);obtain⟨sl,k1⟩:=so.2.2 e o h1;refine FG (wpAny_entryPlaceOf λpl hp=>FG ?_);unfold EntryCells.newEntry newFields;refine wpAny_newObj_type ?_ ?_
 ·have k2:∀ob:Obj,(h'.push ob).get? e=some { cls:=o.cls,dict:=o.dict,data:=o.data,slots:=sl }:=λob=>FT _ k1
  have h12:1<vs.size:=by
   have:=(Array.getElem?_eq_some_iff.mp h3).1;omega
  refine wpAny_setField (k2 _) h2 h12 (q _ ?_);obtain⟨m1,m2⟩:=Hk (o:={ cls:=o.cls,dict:=o.dict,data:=o.data,slots:=sl }) (f:=λx_1=>x_1.setIfInBounds 1 (Value.ref h'.objs.size)) h2;have ne:h'.objs.size≠e:=λz=>absurd (FJ k1) (by rw[z];exact FY _)
  refine⟨_,_,h'.objs.size,_,_,Di _ (k2 _) m2,m1,?_,?_,ne,Dc _ ne.symm (Ee _ rfl),rfl,?_⟩
  ·rw[Array.getElem?_setIfInBounds_ne (by decide)];exact h3
  ·rw[Array.getElem?_setIfInBounds_self_of_lt h12]
  ·rw[FV,FF];show 3<5+_;omega
 ·show([hd,Value.ref L,Value.none,rawInt ↑L,Value.none]++_).toArray.size<=sizeLine+2;rcases hp with rfl|⟨_,_,_,_,_,_,_,rfl⟩
  ·show 11<=sizeLine+2
   decide
  ·show 11<=sizeLine+2
   decide
theorem MT (hf:A.frames=some (env::outer))(ff:s.heap.FunFrames base (env::outer))(hL:env.frame=some L){o:Obj}{vs:Array Value}(h1:s.heap.get? e=some o)(h2:o.data=.fields vs)(h3:vs[2]?=some .none)(h4:vs[1]?=some .none)
  (q:∀h',F3 e h'->Q () { s with heap:=h' }):wpAny M A (noteFrame (.ref e) env) Q E s:=by
 unfold noteFrame;rw[hL];refine FG (wpAny_field h1 h2 h4 ?_);exact GG hf ff hL h1 h2 h3 q
theorem GH (hf:A.frames=some (env::outer))(ff:s.heap.FunFrames base (env::outer))(hL:env.frame=some L)(x:F3 e s.heap)
  (q:∀h',F3 e h'->Q () { s with heap:=h' }):wpAny M A (noteFrame (.ref e) env) Q E s:=by
 obtain⟨o,vs,T,oT,ts,h1,h2,h3,h4,h5,h6,h7,h8⟩:=id x;unfold noteFrame;rw[hL];refine FG (wpAny_field h1 h2 h4 ?_);dsimp only;rw[FD (by rfl)];refine FG (wpAny_field h6 h7 (Array.getElem?_eq_getElem h8) ?_);split
 ·exact FM (q _ x)
 ·refine FG (wpAny_setField h6 h7 h8 ?_);have k1:(s.heap.update T (Obj.mapFields λx_1=>x_1.setIfInBounds 3 Value.none)).get? e=some o:=Dc _ h5 h1;refine GG (s:={ s with heap:=s.heap.update T (Obj.mapFields λx_1=>x_1.setIfInBounds 3 Value.none) }) hf (Heap.FunFrames.of_keeps (λb ob hb nf=>?_) ff) hL k1 h2 h3 q;have ne:T≠b:=λz=>by
   subst z;rw[h6] at hb;cases hb;exact nf _ h7
  exact⟨ob,Dc _ ne hb,rfl⟩
end
section
variable {X:Cx} {pins:List (Addr×Obj)} {σ:St} {H:Hp} {s:Shared} {h':Heap}
theorem UX {e:Addr}{vs:List Value}{Q:Unit->Shared->Prop}(I:Inv X pins σ H s)(ow:ZS X)(hx:Heap.MadeExcOf s.heap h' e cls vs)
  (q:∀h'',Inv X pins σ H { s with heap:=h'' }->Air X pins H h'' cls e->F3 e h''->Q () { s with heap:=h'' }):wpAny M X.A (leaving X.env (.ref e)) Q E { s with heap:=h' }:=by
 have I1:Inv X pins σ H { s with heap:=h' }:=I.kept (t':=s.toks) hx.keeps;obtain⟨t,he,_,_⟩:=hx.there;have fs:=ZV (ex:=[e]) I1;have fr:=I1.ok.frames;rw[ow.2.1] at fs fr;have w1:=Nm (M:=M) (E:=λ_ _=>False) (Q:=λ_ s'=>∃h'',s'={ s with heap:=h'' }/\Inv X pins σ H { s with heap:=h'' }/\Air X pins H h'' cls e) I ow hx λh'' J a=>⟨h'',rfl,J,a⟩
 have w2:wpAny M X.A (leaving X.env (.ref e)) (λ_ s'=>F3 e s'.heap) (λ_ _=>False) { s with heap:=h' }:=
  FG (MT fr fs ow.2.2 he rfl rfl rfl λh2 x=>YJ (s:={ s with heap:=h2 }) x λh3 y=>y)
 refine Ed (cj_leaving.any w1 w2) (λ_ s' ⟨⟨h'',e1,J,a⟩,f⟩=>?_) λ_ _ z=>z.1.elim
 subst e1;exact q h'' J a f
theorem Nl {e:Addr}{Q:Unit->Shared->Prop}(I:Inv X pins σ H s)(ow:ZS X)(a:Air X pins H s.heap cls e)(x:F3 e s.heap)
  (q:∀h'',Inv X pins σ H { s with heap:=h'' }->Air X pins H h'' cls e->F3 e h''->Q () { s with heap:=h'' }):wpAny M X.A (leaving X.env (.ref e)) Q E s:=by
 have fs:=ZV (ex:=[]) I;have fr:=I.ok.frames;rw[ow.2.1] at fs fr;have w1:=ME (M:=M) (E:=λ_ _=>False) (Q:=λ_ s'=>∃h'',s'={ s with heap:=h'' }/\Inv X pins σ H { s with heap:=h'' }/\Air X pins H h'' cls e) I ow a λh'' J a=>⟨h'',rfl,J,a⟩
 have w2:wpAny M X.A (leaving X.env (.ref e)) (λ_ s'=>F3 e s'.heap) (λ_ _=>False) s:=
  FG (GH fr fs ow.2.2 x λh2 x=>YJ (s:={ s with heap:=h2 }) x λh3 y=>y)
 refine Ed (cj_leaving.any w1 w2) (λ_ s' ⟨⟨h'',e1,J,a⟩,f⟩=>?_) λ_ _ z=>z.1.elim
 subst e1;exact q h'' J a f
end
def CXn (P:Program)(w:World):CXT:=λouter H s E e s'=>
 ∃ea cls H',e=.ref ea/\s'.os=s.os/\AllBare s'.gens/\Un (frs outer) [] H H' s.heap s'.heap/\HOk P w H' s'.heap/\Rg H' s'.heap s.heap cls ea/\F3 ea s'.heap/\E cls none H'
section
variable {X:Cx} {pins:List (Addr×Obj)} {σ:St} {H:Hp} {s s':Shared} {E:XK} {e:Value}
theorem CXn.here (I:Inv X pins σ H s)(hx:X.ex=[])(c:CXn X.prog X.w X.stack H s E e s'):∃ea cls H',e=.ref ea/\Inv X pins σ H' s'/\Air X pins H' s'.heap cls ea/\F3 ea s'.heap/\E cls none H':=by
 obtain⟨ea,cls,H',h1,h2,h3,h4,h5,h6,f,q⟩:=c;have c':CXr X.prog X.w X.stack H s (λc' n' H2=>c'=cls/\H2=H'/\e=.ref ea) e s':=⟨ea,cls,H',h1,h2,h3,h4,h5,h6,rfl,rfl,h1⟩
 obtain⟨ea',cls',H2,e1,I2,a,rfl,rfl,e2⟩:=CXr.here I hx c';rw[e1] at e2;cases e2;exact⟨_,_,_,e1,I2,a,f,q⟩
end
section
variable {P:Program} {w:World} {K:W.Frag} {mg:Str->Option Value} {base:Heap} {N:List Str} {qual:Str} {sc:Scope} {f:Addr} {cd:Value} {A:Around} {outer:List Env} {s0:Shared} {H0:Hp} {E:XK}
theorem M1 {e:Addr}(I:Inv (Wm (CXn P w) P w K mg base N qual sc f cd A outer s0 H0 E) pins σ H s)(a:Air (Wm (CXn P w) P w K mg base N qual sc f cd A outer s0 H0 E) pins H s.heap cls e)(x:F3 e s.heap)(q:E cls none H):CXn P w outer H0 s0 E (.ref e) s:=by
 obtain⟨oe,vs,T,oT,ts,a0,h1,h2,h3,h4,h6,h7,h8,h9,l1,l2⟩:=a;exact⟨e,cls,H,rfl,I.os,I.bare,I.base,I.hok,⟨oe,vs,T,oT,ts,a0,h1,h2,h3,h4,h6,h7,h8,h9,⟨l1.1,l1.2.1⟩,⟨l2.1,l2.2.1⟩⟩,x,q⟩
theorem Yt {E':XK}(hE:∀cls H,E' cls none H->E cls none H):Xu (CXn P w) (Wm (CXn P w) P w K mg base N qual sc f cd A outer s0 H0 E) E':=by
 intro pins σ H s e s' I c;obtain⟨ea,cls,H',rfl,I',a,x,q⟩:=CXn.here I rfl c;exact Nl I' Mp a x λh'' I2 a2 x2=>M1 I2 a2 x2 (hE _ _ q)
theorem XZ:Lf (Wm (CXn P w) P w K mg base N qual sc f cd A outer s0 H0 E) E:=λ_ _ _ _ _ _ _ _ I hx q=>UX I Mp hx λ_ I2 a2 x2=>M1 I2 a2 x2 q
end
theorem Pq:Xu (CXn X.prog X.w) X E0:=λ_ _ _ _ _ _ _ h=>by
 obtain⟨_,_,_,_,_,_,_,_,_,_,q⟩:=h;exact False.elim q
structure Wx (P:Program)(w:World)(K:W.Frag)(mg:Str->Option Value)(base:Heap)(k:Nat)(name:Str)(ps:List Str)(sp:Sp):Prop where
 ex:∃(f:Addr) (fd:FuncData),FnOk P w K mg base (CXn P w) k f fd ps sp/\Binds K fd ps []/\W.keepIn K (.ref f)=true/\mg name=some (.ref f)
def XPn (X:Cx)(pins:List (Addr×Obj))(σ:St)(E:XK)(ev:Value)(s':Shared):Prop:=∃ea cls H',ev=.ref ea/\Inv X pins σ H' s'/\Air X pins H' s'.heap cls ea/\F3 ea s'.heap/\E cls none H'
def PN (X:Cx)(e:Expr)(t:TX):Prop:=
 ∀(pins:List (Addr×Obj)) (s:Shared) (σ:St) (H:Hp) (Q:VK) (E:XK),Inv X pins σ H s->t σ H Q E->wpAny (model X.prog X.w) X.A (eval e X.env) (EP X pins σ Q) (XPn X pins σ E) s
def PSN (X:Cx)(sts:List Stmt)(t:Q6->XK->St->Hp->Prop):Prop:=
 ∀(pins:List (Addr×Obj)) (s:Shared) (σ:St) (H:Hp) (D:Q6) (E:XK),Inv X pins σ H s->t D E σ H->wpAny (model X.prog X.w) X.A (execs sts X.env) (SP X pins D) (XPn X pins σ E) s
section
variable {X:Cx} {k:Nat} {f:Addr} {fd:FuncData} {ps:List Str} {sp:Sp} {x name:Str} {p pos:Pos} {e:Expr} {es:List Expr} {t:TA} {E:XK}
theorem ZD (C:Wx X.prog X.w X.K X.mg X.base k name ps sp)(hr:Room k X.A)(hg:Gl X name)(hx:Xu (CXn X.prog X.w) X E)(ha:PA X (e::es) t)(hdb:(name==("__debug__":Str))=false:=by decide)
  (he:starEach (e::es) X.env=(false,eval e X.env)::starEach es X.env:=by rfl) (hpl:(backTo pos (starEach es X.env)).any (·.1)=false:=by rfl) :
  PE X (.Call (.Name name p) (e::es) [] pos) (Gf sp [] E t):=by
 obtain⟨f,fd,F,b,kp,m⟩:=C.ex;exact Gs F hr hg m kp b .nil hx ha hdb he hpl
theorem LI (C:Wx X.prog X.w X.K X.mg X.base k name ps sp)(hr:Room k X.A)(hx0:X.ex=[])(hg:Gl X name)(ha:PA X.nox (e::es) t)
  (hdb:(name==("__debug__":Str))=false:=by decide) (he:starEach (e::es) X.env=(false,eval e X.env)::starEach es X.env:=by rfl) (hpl:(backTo pos (starEach es X.env)).any (·.1)=false:=by rfl) :
  PN X (.Call (.Name name p) (e::es) [] pos) (Ur sp t):=by
 obtain⟨f,fd,F,hb,hk,hm⟩:=C.ex;intro pins s σ H Q E I h;refine ES (X4 I hg hm ?_ hdb);refine W.callWith_K (h₀:=X.base) I.ok.mod.kin hk (Ed (ha pos pins s σ H _ (I.wish _) h) (λus s1 ⟨vs,H1,I1,r,q⟩=>⟨I1.kIn,?_⟩) λ_ _ z=>False.elim z) he hpl;have I1:=I1.unwish;have hl:(us++[]).length=ps.length:=by rw[EH,<-r.length];exact F.len _ _ _ _ q
 have hb1:=hb s1 us I1.kIn hl;rw[EH] at hb1;refine wpAny_call (EK (F.run X.A X.stack s1 H1 ⟨us,[]⟩ us vs Q E hr I1.env0 hb1 r q) λr s' hq=>?_);cases r with
 | error e=>exact CXn.here I1 hx0 hq
 | ok fl=>
  cases fl with
  | ret u=>exact I1.after hq
  | next=>exact False.elim hq
  | brk=>exact False.elim hq
  | cont=>exact False.elim hq
variable {tx:TX}
theorem LJ {y:Str}{pos':Pos}(hN:X.N.Nodup)(hi:X.N[i]?=some y)(hx:Loc X.env.scope y)(he:PN X e tx)(hs:swapsWith e (some (.Name y pos')) pos.line X.env=pure false:=by rfl)(hf:X.fn y=true∨X.env.scope.names.lookup y=some .local:=by first|exact .inl rfl|exact .inr rfl|assumption) :
  PSN X [.Assign [.Name y pos'] e pos] (sxA i tx):=by
 intro pins s σ H D E I h;refine wpAny_execs_cons (wpAny_Assign_Name (thn (he pins s σ H _ E I h) λv s1 ⟨x,H1,I1,r1,q1⟩=>?_) hs);exact Ye I1 hN hi hx r1 (λs2 I2=>ER ⟨_,H1,I2,q1⟩) hf
end
section
variable {P:Program} {w:World} {K:W.Frag} {mg:Str->Option Value} {base:Heap}
theorem Fun.okN {N:List Str}{k:Nat}{sp:Sp}(F:Fun K x qual st f fd)(S:Qu N ps (Qh st))(len:∀vs H Q E,sp vs H Q E->vs.length=ps.length)
  (hbody:∀(cdv:Value) (A:Around) (outer:List Env) (s:Shared) (H:Hp) (vs:List V) (Q:VK) (E:XK),Room k (A.deeper (envOfC qual (Qh st) s.heap.objs.size f cdv))->sp vs H Q E ->
   ∃t,PSs (Wm (CXn P w) P w K mg base N qual (Qh st) f cdv A outer s H E) (Qx st) t/\t { nx:=λ_ H'=>Q .non H',rt:=Q } (start N vs) H):FnOk P w K mg base (CXn P w) (k+1) f fd ps sp:=by
 obtain⟨oc,od,kV,doc,pm,an,cdv,ct,osl,rfl,lk,hcd⟩:=F.ex;exact MP lk hcd S len λA outer s H vs Q E hr hsp=>hbody cdv A outer s H vs Q E hr hsp
end
end L2
namespace L2
open PySem PySem.Spec PyProof.Rows PySem.W Builtin Builtin.ObjectAttr Builtin.Getset_descriptor
def NY (K:W.Frag)(C:Addr)(tb:Q6->XK->St->Hp->Prop)(ts:Addr->TS):TS:=λD σ H=>tb D (λcls _ H1=>W.exmOne K cls (.ref C)=some true/\∀e,H1 e=none->ts e D σ H1) σ H
section
variable {X:Cx} {body suite:List Stmt} {b₀:Stmt} {x n:Str} {C:Addr} {np hp pos:Pos} {tb:Q6->XK->St->Hp->Prop} {ts:Addr->TS}
theorem BE {name:Option Str}{Q:Flow->Shared->Prop}(I:Inv X pins σ H s)(ow:ZS X)(hg:Gl X x)(hm:X.mg x=some (.ref C))(a:Air X pins H s.heap cls ea)(f3:F3 ea s.heap)(hmatch:W.exmOne X.K cls (.ref C)=some true)
  (h:∀h6,Inv X pins σ H { s with heap:=h6 }->Air X pins H h6 cls ea->F3 ea h6->codeAny (model X.prog X.w) (X.A.mark (some (.ref ea))) (.handlers (.ref ea) [.ExceptHandler none name (b₀::suite) hp] X.env) (λr s₂=>match r with
     | .ok f=>(match name with
      | none=>Q f s₂
      | some n=>wpAny (model X.prog X.w) X.A (do bindName X.env n .none;unbindBehindTheSuite X.env n hp) (λ_ s₃=>Q f s₃) X.xe s₂)
     | .error x=>cameBackBy (model X.prog X.w) X.A X.env X.xe x s₂) { s with heap:=h6 }) (hd:(x==("__debug__":Str))=false:=by decide) :
  wpAny (model X.prog X.w) X.A (noteFrame (.ref ea) X.env) (λ_ s₂=>wpAny (model X.prog X.w) X.A (setFlight (.ref ea) none) (λ_ s₃=>wpAny (model X.prog X.w) X.A (handleBy (.ref ea) X.env [.ExceptHandler (some (.Name x np)) name (b₀::suite) hp]) Q X.xe s₃) X.xe s₂) X.xe s:=by
 obtain⟨T,a0,hex,hexf,tr⟩:=a.two;have fs:=ZV (ex:=[ea,T]) I;have fr:=I.ok.frames;rw[ow.2.1] at fs fr;have w1:=wpAny_looks_onW (M:=model X.prog X.w) (A:=X.A) (E:=λ_ _=>False) (s:=s) (base:=Y2 X s.heap [ea,T]) (Q:=λ_ s'=>∃h4,s'={ s with heap:=h4 }/\(Y2 X s.heap [ea,T]).HeldW (X.env::X.outer) ea cls a0 X.env.locals h4/\s.heap.UpToSlots h4) fr ow.2.2 ⟨YI,Wj (by simp),fs,tr⟩ λh4 hh4 up4=>⟨h4,rfl,hh4,up4⟩
 have w2:wpAny (model X.prog X.w) X.A (noteFrame (.ref ea) X.env) (λ_ s'=>F3 ea s'.heap) (λ_ _=>False) s:=GH fr fs ow.2.2 f3 λh2 x=>x
 refine Ed (cj_noteFrame.any w1 w2) (λ_ s' ⟨⟨h4,e4,hh4,up4⟩,f4⟩=>?_) λ_ _ z=>z.1.elim
 subst e4;have v1:=wpAny_landsW (M:=model X.prog X.w) (A:=X.A) (E:=λ_ _=>False) (s:={ s with heap:=h4 }) (base:=Y2 X s.heap [ea,T]) (Q:=λ_ s'=>∃h5,s'={ s with heap:=h5 }/\(Y2 X s.heap [ea,T]).FlyingW (X.env::X.outer) ea cls a0 h5/\h4.UpToSlots h5) hh4 λh5 fl5 up5=>⟨h5,rfl,fl5,up5⟩
 have v2:wpAny (model X.prog X.w) X.A (setFlight (.ref ea) none) (λ_ s'=>F3 ea s'.heap) (λ_ _=>False) { s with heap:=h4 }:=YJ (s:={ s with heap:=h4 }) f4 λh2 x=>x
 refine Ed (cj_setFlight.any v1 v2) (λ_ s' ⟨⟨h5,e5,fl5,up5⟩,f5⟩=>?_) λ_ _ z=>z.1.elim
 subst e5;have I5:Inv X pins σ H { s with heap:=h5 }:=Wt I hex hexf fl5.1 (up4.trans up5);have l5:=fl5.2.2.1;rw [<-ow.2.1] at l5;have a5:Air X pins H h5 cls ea:=Ji I ow.1 hex (by simp) l5 fl5.2.2.2;refine wpAny_handleBy_cons (codeAny_handlers_test (X4 (X:=X.hand ea) (I5.hand ea) hg hm ?_ hd)) (by intro q;cases q);obtain ⟨oe,vs,T5,oT,tts,a05,e1,e2,_⟩:=id a5;have LT:W.Looks (model X.prog X.w) h5 (typeOf (.ref ea)) cls:=e2.1 ▸ (W.Looks.ld e1).andThen .now;exact W.exm_one I5.kIn LT hmatch _ _ _ _ (fun _ _ z=>z) (h h5 I5 a5 f5)
theorem Vh {Q:Unit->Shared->Prop}(I:Inv X pins σ H s)(ow:ZS X)(a:Air X pins H s.heap cls ea)(f3:F3 ea s.heap)
  (q:∀h',Inv X pins σ H { s with heap:=h' }->Air X pins H h' cls ea->F3 ea h'->Q () { s with heap:=h' }):wpAny M A (setFlight (.ref ea) none) Q E s:=by
 have w1:=VY (M:=M) (A:=A) (E:=λ_ _=>False) (Q:=λ_ s'=>∃h',s'={ s with heap:=h' }/\Inv X pins σ H { s with heap:=h' }/\Air X pins H h' cls ea) I ow a λh' J b=>⟨h',rfl,J,b⟩
 have w2:wpAny M A (setFlight (.ref ea) none) (λ_ s'=>F3 ea s'.heap) (λ_ _=>False) s:=YJ f3 λh2 x=>x
 refine Ed (cj_setFlight.any w1 w2) (λ_ s' ⟨⟨h5,e5,J,b⟩,f5⟩=>?_) λ_ _ z=>z.1.elim
 subst e5;exact q h5 J b f5
theorem Me (ow:ZS X)(hg:Gl X x)(hm:X.mg x=some (.ref C))(hb:PSN X body tb)(hs:∀e,PSs (X.hand e) (b₀::suite) (ts e))(hd:(x==("__debug__":Str))=false:=by decide) :
  PS X (.Try body [.ExceptHandler (some (.Name x np)) none (b₀::suite) hp] [] [] pos) (NY X.K C tb ts):=by
 intro pins s σ H D I h;refine wpAny_Try_except (Ed (hb pins s σ H D _ I h) (λf s1 q=>?_) λev s1 ⟨ea,cls,H1,hev,I1,a1,f1,hmatch,q⟩=>?_)
 ·cases f with
  | next=>exact ER q
  | ret v=>exact q
  | brk=>exact q
  | cont=>exact q
 ·subst hev;refine BE I1 ow hg hm a1 f1 hmatch (λh5 I5 a5 f5=>codeAny_handlers_suite (Vh I5 ow a5 f5 λh6 I6 a6 f6=>?_)) hd;obtain⟨oe,vs,T6,oT,tts,a06,e1,e2,e3,_,_,_,_,_,l1,_⟩:=id a6;exact Ed (hs ea pins _ σ H1 D (I6.hand ea) (q ea l1.1)) (λf s' z=>z.unhand I6.ok) λ_ _ z=>False.elim z
end
end L2
namespace L2
open PySem PySem.Spec PyProof.Rows PySem.W Builtin
end L2
namespace L2
open PySem PySem.Spec PyProof.Rows
def Zq (z:Str):Prop:=(z.cps.all λx=>decide (x<128))=true
def Its (z:Str):It:=⟨λi _=>i<z.cps.size,λi H x H'=>H'=H/\∃c,z.cps[i]?=some c/\x=.str ⟨#[c]⟩,λi _=>z.cps.size<=i⟩
theorem NX {t:Tok}(it:Addr):Um P w K tg (Its z) [it] it (λi h=>h.IsStrIter it "str_ascii_iterator" z t i) where
 mem:=by simp
 obj:=λi h st b hb=>by
  have e:b=it:=by simpa using hb
  subst e;obtain⟨o,e,c,d⟩:=st;exact⟨o,e,λv z=>by rw[d] at z;cases z⟩
 keep:=λi h h' ⟨o,e,c,d⟩ k=>⟨o,k it (by simp) o e,c,d⟩
 item:=by
  intro X hP hw hK hc i pins s σ H E I hf st hg;subst hP hw hK;have hg:i<z.cps.size:=hg;obtain⟨f0,f1,f2,f3,f4,f5⟩:=hf it (by simp);refine wpAny_pyNext_ascii_item (c:=z.cps[i]) st (by simp[hg]) λh' st' sb=>?_
  have I1:Inv X pins σ H { s with heap:=h',toks:=s.toks+1 }:=I.turned (t':=s.toks+1) (λb o hb e=>(sb.2 b hb).trans e) f0 f1 f3 f4 f5;obtain⟨o,e,c,d⟩:=id st';exact⟨_,rfl,V4 (s:={ s with heap:=h',toks:=s.toks+1 }) e c d (by decide) ⟨.str ⟨#[z.cps[i]]⟩,H,I1,⟨_,rfl⟩,⟨rfl,z.cps[i],by simp[hg],rfl⟩,st',λb hb=>(hf b hb).1⟩⟩
 done:=by
  intro X hP hw hK hc i pins s σ H E I hf st hg;subst hP hw hK;have hg:z.cps.size<=i:=hg;obtain⟨f0,f1,f2,f3,f4,f5⟩:=hf it (by simp);exact wpAny_pyNext_ascii_end (I.ok.hd hc) st (by simp[hg]) λh' eb=>⟨rfl,I.turned (t':=s.toks) (λb o hb e=>eb b o hb e) f0 f1 f3 f4 f5⟩
 self:=λA i s Q E st h=>wpAny_pyIter_striter_ascii st h
def P3 (tl:TE):TI:=λσ H R=>tl σ H λx H1=>∃z,x=.str z/\Zq z/\R (Its z) H1
theorem Mi {l:Expr}(hl:PE X l tl):PI X tg l (P3 tl):=by
 intro pins s σ H R I h;refine thn (hl pins s σ H _ I h) λv s1 ⟨x,H1,I1,r1,q1⟩=>?_
 obtain⟨z,e,ha,q⟩:=q1;subst e;obtain⟨t,rfl⟩:=r1;refine wpAny_pyIter_ascii ha ?_;refine⟨s1.heap.objs.size,[s1.heap.objs.size],_,_,H1,rfl,I1.kept (t':=s1.toks) λb o e=>FT _ e,NX (z:=z) (t:=t) _,⟨_,Ee _ rfl,rfl,rfl⟩,λb hb=>?_,q⟩;have e:b=s1.heap.objs.size:=by simpa using hb
 subst e;exact I1.fpOk (FE _) (I1.hok.fresh (FE _))
theorem NR:P3 tl σ H R=tl σ H λx H1=>∃z,x=.str z/\Zq z/\R (Its z) H1:=rfl
theorem Rf (Pv:Nat->List V->St->Hp->Prop)(h0:Pv 0 [] σ0 H)(hn:z.cps.size<=1000)
  (hs:∀i c acc σ H,z.cps[i]?=some c->acc.length<=i->Pv i acc σ H->g (.str ⟨#[c]⟩) σ H λσ2 H2=>tt σ2 H2 λb H3=>if b=true then te σ2 H3 λv H4=>CN Pv z.cps.size i (acc++[v]) σ2 H4 else CN Pv z.cps.size i acc σ2 H3)
  (hd:∀acc σ H,Pv z.cps.size acc σ H->∀p,H p=none->Q (.ref p) (upd H p (.lst acc))):Up (Its z) g tt te σ0 H Q:=by
 refine⟨λi m acc σ H=>m=z.cps.size-i/\i<=z.cps.size/\acc.length<=i/\Pv i acc σ H,⟨z.cps.size,by simp,F7 _,FE _,h0⟩,?_⟩;rintro i m acc σ H ⟨rfl,hi,ha,p⟩;by_cases hlt:i<z.cps.size
 ·refine .inr ⟨hlt,YD (by omega),λx H' y=>?_⟩;obtain⟨rfl,c,hc,rfl⟩:=y;exact hs i c acc σ _ hc ha p
 ·have e:i=z.cps.size:=by omega
  subst e;exact .inl ⟨FE _,hd acc σ H p⟩
theorem P1:∀c<128,Txt.contains (Str.ofString "abcdefghijklmnopqrstuvwxyz") ⟨#[c]⟩=(decide (97<=c)&&decide (c<=122)):=by decide +kernel
def SZ:List V->Hp->VK->Prop:=λxs H Q=>∃x n,xs=[.str x]/\intText? x=some n/\x.length<=640/\Q (.int n) H
theorem NN:CallR X (.type "int") SZ:=by
 intro pins s σ H xs us Q I r h;obtain⟨x,n,rfl,hn,hl,q⟩:=h;obtain⟨u,rfl,t,rfl⟩:=Xj r;exact W.KIN.call_text hn hl ⟨.int n,H,I.tok _,⟨_,rfl⟩,q⟩
def SQ:V->List V->Hp->VK->Prop:=λx xs H Q=>∃z y,x=.str z/\xs=[.str y]/\(y.length==0)=false/\z.length<=sizeLine/\∀p,H p=none->Q (.ref p) (upd H p (.tup [.str (Txt.partition z y).1,.str (Txt.partition z y).2.1,.str (Txt.partition z y).2.2]))
theorem Ve:MtR X "str.partition" SQ:=by
 intro pins s σ H x xs v us Q I rx rs q;obtain⟨z,y,rfl,rfl,hy,hz,q⟩:=q;obtain⟨t,rfl⟩:=rx;obtain⟨_,rfl,u,rfl⟩:=Xj rs;refine call_meets PySem.F.slot_str_partition (typeIs_str _ _ _) PySem.F.entry_str_partition (PySem.F.args_str_partition_2 _ _) (meets_str_partition z y t u hy hz) ?_;have q':=q;unfold Txt.partition at q';revert q';cases Builtin.Str.occurrences z y 0 z.length 1 with
 | nil=>
  intro q';refine⟨.ref s.heap.objs.size,_,I.laid (t':=s.toks+1) (o:=.tup [.str z,.str Str.empty,.str Str.empty]) (λb o e=>FT _ e) (FE _) ?_,rfl,q' _ (I.hok.fresh (FE _))⟩;exact⟨by rw[FN];exact(by decide:3<=16777216),_,.cons ⟨_,rfl⟩ (.cons ⟨_,rfl⟩ (.cons ⟨_,rfl⟩ .nil)),_,Ee s.heap rfl,rfl,0,rfl⟩
 | cons i r=>
  intro q';refine⟨.ref s.heap.objs.size,_,I.laid (t':=s.toks+1+1) (o:=.tup [.str (Builtin.Str.strSub z 0 i),.str y,.str (Builtin.Str.strSub z (i+y.length) z.length)]) (λb o e=>FT _ e) (FE _) ?_,rfl,q' _ (I.hok.fresh (FE _))⟩;exact⟨by rw[FN];exact(by decide:3<=16777216),_,.cons ⟨_,rfl⟩ (.cons ⟨_,rfl⟩ (.cons ⟨_,rfl⟩ .nil)),_,Ee s.heap rfl,rfl,0,rfl⟩
def Pa:V->List V->Hp->VK->Prop:=λx xs H Q=>∃z y,x=.str z/\xs=[.str y]/\(y.length==0)=false/\z.length<=sizeLine/\(Txt.split z y).length<=sizeLine/\∀p,H p=none->Q (.ref p) (upd H p (.lst ((Txt.split z y).map V.str)))
theorem Kg:∀(ys:List Str) (k:Nat),Vals (ys.map V.str) (strsFrom k ys)
 | [],_=>.nil
 | _::ys,k=>.cons ⟨_,rfl⟩ (Kg ys (k+1))
theorem JC:MtR X "str.split" Pa:=by
 intro pins s σ H x xs v us Q I rx rs q;obtain⟨z,y,rfl,rfl,hy,hz,hn,q⟩:=q;obtain⟨t,rfl⟩:=rx;obtain⟨_,rfl,u,rfl⟩:=Xj rs;have one:Txt.split z y=[z]->EP X pins σ Q (.ref s.heap.objs.size) { s with heap:=s.heap.push { cls:=.type "list",data:=.seq [Value.str z t].toArray } }:=λe=>by
  rw[e] at q;refine⟨.ref s.heap.objs.size,_,I.laid (t':=s.toks) (o:=.lst [.str z]) (λb o e=>FT _ e) (FE _) ?_,rfl,q _ (I.hok.fresh (FE _))⟩;exact⟨by rw[FN];exact(by decide:1<=16777216),_,_,.cons ⟨_,rfl⟩ .nil,Ee s.heap rfl⟩
 cases h1:(decide (z.length<y.length)||decide (Builtin.Str.strKind z<Builtin.Str.strKind y))
 ·cases hf:(Builtin.Str.occurrences z y 0 z.length (z.length+1)).isEmpty
  ·have e:Txt.split z y=Builtin.Str.partsBetween z (Builtin.Str.occurrences z y 0 z.length (z.length+1)) y.length:=(FC (ne_true_of_eq_false h1)).trans (FC (ne_true_of_eq_false hf));refine call_meets F.slot_str_split (typeIs_str _ _ _) F.entry_str_split (F.args_str_split_2 _ _) (meets_str_split_sep z y t u h1 hy hf hz (by rw [<-e];exact hn)) ?_;rw [<-e];refine ⟨.ref s.heap.objs.size,_,I.laid (t':=s.toks+(Txt.split z y).length) (o:=.lst ((Txt.split z y).map V.str)) (fun b o e=>FT _ e) (FE _) ?_,rfl,q _ (I.hok.fresh (FE _))⟩;exact ⟨by rw [FH];exact hn,_,_,Kg _ _,Ee s.heap rfl⟩
  ·exact call_meets F.slot_str_split (typeIs_str _ _ _) F.entry_str_split (F.args_str_split_2 _ _) (meets_str_split_not_found z y t u h1 hy hf) (one ((FC (ne_true_of_eq_false h1)).trans (FD hf)))
 ·exact call_meets F.slot_str_split (typeIs_str _ _ _) F.entry_str_split (F.args_str_split_2 _ _) (meets_str_split_cannot_occur z y t u h1) (one (FD h1))
def He:V->List V->Hp->VK->Prop:=λx xs H Q=>∃z y,x=.str z/\xs=[.str y]/\Q (.bl (Txt.endswith z y)) H
theorem VU:MtR X "str.endswith" He:=by
 intro pins s σ H x xs v us Q I rx rs q;obtain⟨z,y,rfl,rfl,q⟩:=q;obtain⟨t,rfl⟩:=rx;obtain⟨_,rfl,u,rfl⟩:=Xj rs;exact SC.endswith ⟨.bl _,H,I,rfl,q⟩
theorem RV (K:W.Frag){X:Cx}(h:X.K=K):SlR X (Pb K):=by subst h;exact RU
def KDs (w:World)(K:W.Frag)(a:Addr)(kvs:List (Key×V)):Prop:=∃o vs ep,K.lookup a=some o/\(∀P,DOb P w o vs ep)/\KV kvs vs/\(a==sysModules)=false
structure KDic (w:World)(K:W.Frag)(mg:Str->Option Value)(n:Str)(a:Addr)(kvs:List (Key×V)):Prop where
 m:mg n=some (.ref a)
 s:KDs w K a kvs
def KTs (K:W.Frag)(a:Addr)(xs:List V):Prop:=∀H,SqT K H a xs
theorem kts_of {a:Addr}{its:Array Value}{k:Nat}{sl:Array (Option Value)}(l:K.lookup a=some ⟨.type "tuple",od,.seq its k,sl⟩)(hz:its.size<=sizeLine)(r:Vals xs its.toList):KTs K a xs:=
 λH=>.inr ⟨_,_,_,l,rfl,rfl,hz,r⟩
theorem Mn {n:Str}{a:Addr}(k:KDic X.w X.K X.mg n a kvs)(hg:Gl X n:=by rfl)(hd:(n==("__debug__":Str))=false:=by decide):PE X (.Name n pos) (tC (.ref a)):=ZO (v:=.ref a) hg k.m rfl hd
theorem KDic.at {n:Str}{a:Addr}(k:KDic X.w X.K X.mg n a kvs)(I:Inv X pins σ H s):(a==sysModules)=false/\∃o vs ep,s.heap.get? a=some o/\DOb X.prog X.w o vs ep/\KV kvs vs/\s.heap.DictAt (QY X.prog X.w) a vs ep:=by
 obtain⟨_,o,vs,ep,hk,hd,r,hs⟩:=k;have g:=I.kIn a o hk;obtain⟨es,o1,o2,o3,o4,o5⟩:=hd X.prog;exact⟨hs,o,vs,ep,g,⟨es,o1,o2,o3,o4,o5⟩,r,o,es,g,o1,o2,o3,o4,o5⟩
def Ge (kvs:List (Key×V))(ty:TE):TE:=λσ H Q=>ty σ H λy H1=>∃k v,y=kV k/\XF kvs k=some v/\Q v H1
def Gd (kvs:List (Key×V))(ty:TE):TE:=λσ H Q=>ty σ H λy H1=>∃k,y=kV k/\Q (.bl (!(XF kvs k).isSome)) H1
section
variable {X:Cx} {i:Expr} {pos npos:Pos} {ty:TE} {n:Str} {a:Addr} {kvs:List (Key×V)}
theorem We (k:KDic X.w X.K X.mg n a kvs)(hi:PE X i ty)(hs:Tp i)(hg:Gl X n:=by rfl)(hd:(n==("__debug__":Str))=false:=by decide):PE X (.Subscript (.Name n npos) i pos) (Ge kvs ty):=by
 intro pins s σ H Q I h;refine Gg PySem.F.slot_dict_getitem.lookup hs (thn (Mn (pos:=npos) k hg hd pins s σ H (λx H1=>x=.ref a/\H1=H) I ⟨rfl,rfl⟩) λu s1 ⟨x,H1,I1,rx,ex,eH⟩=>?_);subst ex;subst eH;obtain rfl:u=Value.ref a:=rx;refine thn (hi pins s1 σ H1 _ I1 h) λiv s2 ⟨y,H2,I2,ry,kk,v,ey,l,q2⟩=>?_
 subst ey;obtain ⟨hs',o,vs,ep,g,_,rel,dd⟩:=k.at I2;have dd:=dd.dictOf;obtain ⟨w',hw,rw'⟩:=RelO.some_of (v:=v) (o:=valueAt vs kk) (by rw [<-l];exact rel.val kk);exact ⟨dd.typeIs,wpAny_getItem_of (Kq ry) dd.mapOf hw ⟨v,H2,I2.tok _,rw',q2⟩⟩
theorem G5 (k:KDic X.w X.K X.mg n a kvs)(hi:PE X i ty)(hg:Gl X n:=by rfl)(hd:(n==("__debug__":Str))=false:=by decide):PC X .NotIn i (.Name n npos) (Gd kvs ty):=by
 intro pins s σ H Q I h;refine thn (hi pins s σ H _ I h) λiv s1 ⟨y,H1,I1,ry,kk,ey,q1⟩=>thn (Mn (pos:=npos) k hg hd pins s1 σ H1 (λx H2=>x=.ref a/\H2=H1) I1 ⟨rfl,rfl⟩) λu s2 ⟨x,H2,I2,rx,ex,eH⟩=>?_
 subst ex;subst eH;subst ey;obtain rfl:u=Value.ref a:=rx;obtain ⟨hs',o,vs,ep,g,_,rel,dd⟩:=k.at I2;refine wpAny_notIn_of (Kq ry) hs' dd.dictOf.mapOf ?_;rw [<-(rel.val kk).isSome_eq];exact ⟨.bl _,H2,I2.tok _,rfl,q1⟩
end
def ItK (kvs:List (Key×V)):It:=⟨λi _=>i<kvs.length,λi H x H'=>H'=H/\∃kv,kvs[i]?=some kv/\x=kV kv.1,λi _=>kvs.length<=i⟩
theorem GU {d:Addr}{o:Obj}{vs:List (Key×Value)}{ep:Nat}(hob:DOb P w o vs ep)(rel:KV kvs vs)(hk:K.lookup d=some o) :
  Um P w K tg (ItK kvs) [it] it (λi h=>h.IsKeyIter it d i vs.length ep) where
 mem:=by simp
 obj:=λi h st b hb=>by
  have e:b=it:=by simpa using hb
  subst e;obtain⟨q,e,c,dd⟩:=st;exact⟨q,e,λv z=>by rw[dd] at z;cases z⟩
 keep:=λi h h' ⟨q,e,r⟩ k=>⟨q,k it (by simp) q e,r⟩
 item:=by
  intro X hP hw hK hc i pins s σ H E I hf st hi;subst hP hw hK;have hi:i<kvs.length:=hi;obtain⟨es,o1,o2,o3,o4,o5⟩:=hob;obtain⟨f0,f1,f2,f3,f4,f5⟩:=hf it (by simp);have gd:s.heap.get? d=some o:=I.kIn d o hk;have hm:s.heap.DictAt (QY X.prog X.w) d vs ep:=⟨o,es,gd,o1,o2,o3,o4,o5⟩
  have hl:=rel.length;obtain⟨⟨k,u⟩,hx⟩:∃kv,vs[i]?=some kv:=⟨_,FI (by omega)⟩
  have hkv:(kvs.map (·.1))[i]?=some k:=by rw[rel.keys,F0,hx];rfl
  rw[F0] at hkv;obtain⟨kv,hkv2,rfl⟩:=F6.mp hkv;refine wpAny_pyNext_dict_item st hm hx λkey h' hk st' sb=>?_
  have I1:Inv X pins σ H { s with heap:=h' }:=I.turned (t':=s.toks) (λb o hb e=>(sb.2 b hb).trans e) f0 f1 f3 f4 f5;obtain⟨q,e,c,dd⟩:=id st';exact⟨key,rfl,V4 (s:={ s with heap:=h' }) e c dd (by decide) ⟨kV kv.1,H,I1,PV hk,⟨rfl,kv,hkv2,rfl⟩,st',λb hb=>(hf b hb).1⟩⟩
 done:=by
  intro X hP hw hK hc i pins s σ H E I hf st hi;subst hP hw hK;have hi:kvs.length<=i:=hi;obtain⟨es,o1,o2,o3,o4,o5⟩:=hob;obtain⟨f0,f1,f2,f3,f4,f5⟩:=hf it (by simp);have gd:s.heap.get? d=some o:=I.kIn d o hk;have hm:s.heap.DictAt (QY X.prog X.w) d vs ep:=⟨o,es,gd,o1,o2,o3,o4,o5⟩
  have hl:=rel.length;exact wpAny_pyNext_dict_end (I.ok.hd hc) st hm (ED (by omega)) λh' eb=>⟨rfl,I.turned (t':=s.toks) (λb o hb e=>eb b o hb e) f0 f1 f3 f4 f5⟩
 self:=λ_ _ _ _ _ st h=>wpAny_pyIter_keyiter st h
def Hq (kvs:List (Key×V)):TI:=λ_ H R=>R (ItK kvs) H
theorem LS {n:Str}{a:Addr}(k:KDic X.w X.K X.mg n a kvs)(hg:Gl X n:=by rfl)(hd:(n==("__debug__":Str))=false:=by decide):PI X tg (.Name n pos) (Hq kvs):=by
 intro pins s σ H R I h;refine thn (Mn (pos:=pos) k hg hd pins s σ H (λx H2=>x=.ref a/\H2=H) I ⟨rfl,rfl⟩) λv s1 ⟨x,H1,I1,r1,ex,eH⟩=>?_
 subst ex;subst eH;cases r1;obtain⟨hs,o,vs,ep,gd,hob,rel,hm⟩:=k.at I1;obtain⟨_,o',vs',ep',hk,hd',rel',_⟩:=k;have e:=I1.kIn a o' hk;rw[gd] at e;cases e;refine wpAny_pyIter_dict hs hm ?_;have hn:H1 s1.heap.objs.size=none:=I1.hok.fresh (FE _);refine⟨s1.heap.objs.size,[s1.heap.objs.size],_,_,_,rfl,I1.kept (t':=s1.toks) λb o e=>FT _ e,GU hob rel hk,⟨_,Ee _ rfl,rfl,rfl⟩,λb hb=>?_,h⟩;have e:b=s1.heap.objs.size:=by simpa using hb
 subst e;exact I1.fpOk (FE _) hn
theorem Fh {D:Q6}(Pv:Nat->St->Hp->Prop)(h0:Pv 0 σ H)
  (hs:∀i kv σ H,kvs[i]?=some kv->Pv i σ H->g (kV kv.1) σ H λσ2 H2=>tb { D with nx:=Pv (i+1),ct:=Pv (i+1),bk:=D.nx } σ2 H2) (hd:∀σ H,Pv kvs.length σ H->D.nx σ H):Uo (ItK kvs) g tb D σ H:=by
 refine⟨λi m σ H=>m=kvs.length-i/\i<=kvs.length/\Pv i σ H,⟨kvs.length,by simp,F7 _,h0⟩,?_⟩;rintro i m σ H ⟨rfl,hi,p⟩;rcases Nat.lt_or_ge i kvs.length with hlt|hge
 ·refine .inr ⟨hlt,Pv (i+1),λσ' H' p'=>⟨kvs.length-(i+1),by omega,rfl,hlt,p'⟩,?_⟩;rintro x H' ⟨rfl,kv,hk,rfl⟩;exact hs i kv σ _ hk p
 ·have e:i=kvs.length:=by omega
  subst e;exact .inl ⟨hge,hd σ H p⟩
theorem Td {o:Obj}(l:List (Str×Tok×Value)){ep:Nat}(ho:o.ExactDict)(hd:o.data=.dict (l.map λe=>(⟨hashStr w e.1,.str e.1 e.2.1,e.2.2⟩:DictEntry)).toArray ep)(nd:(l.map (·.1)).Nodup)(P:Program) :
  DOb P w o (l.map λe=>(Sum.inr e.1,e.2.2)) ep:=by
 refine⟨_,ho,hd,?_,?_,?_⟩
 ·intro e he;have he:e∈l.map λe=>(⟨hashStr w e.1,.str e.1 e.2.1,e.2.2⟩:DictEntry):=by simpa using he
  obtain⟨x,_,rfl⟩:=EB.mp he;exact⟨.inr x.1,WR x.1 x.2.1,rfl⟩
 ·clear hd nd;simp only[]
  induction l with
  | nil=>exact .nil
  | cons x l ih=>exact .cons (WR x.1 x.2.1) rfl ih
 ·rw[List.map_map];have:((λkv:Key×Value=>kv.1) ∘ λe:Str×Tok×Value=>((Sum.inr e.1:Key),e.2.2))=(λx:Str=>(Sum.inr x:Key)) ∘ λe:Str×Tok×Value=>e.1:=rfl
  rw[show(Prod.fst ∘ λe:Str×Tok×Value=>((Sum.inr e.1:Key),e.2.2))=(λx:Str=>(Sum.inr x:Key)) ∘ λe:Str×Tok×Value=>e.1 from rfl,<-List.map_map];exact List.Pairwise.map _ (λa b h e=>h (Sum.inr.inj e)) nd
theorem kds_of {a:Addr}{l:List (Str×Tok×Value)}{es:Array DictEntry}{ep:Nat}(h:K.lookup a=some ⟨.type "dict",none,.dict es ep,#[]⟩)
  (e:es=(l.map λe=>(⟨hashStr w e.1,.str e.1 e.2.1,e.2.2⟩:DictEntry)).toArray) (nd:(l.map (·.1)).Nodup) (r:KV kvs (l.map λe=>(Sum.inr e.1,e.2.2))) (hs:(a==sysModules)=false):KDs w K a kvs:=
 ⟨_,_,_,h,λP=>Td l ⟨rfl,rfl,rfl⟩ (by rw[e]) nd P,r,hs⟩
theorem HD {a b:Addr}{ys:List V}(Pv:Nat->List V->St->Hp->Prop)(hz:xs.length=ys.length)(h0:Pv 0 [] σ0 H)(hl:∀i acc σ H,Pv i acc σ H->SqL K H a xs/\SqL K H b ys)(hn:xs.length<=1000)
  (hs:∀i x y acc σ H p,xs[i]?=some x->ys[i]?=some y->acc.length<=i->Pv i acc σ H->H p=none->g (.ref p) σ (upd H p (.tup [x,y])) λσ2 H2=>tt σ2 H2 λb H3=>if b=true then te σ2 H3 λv H4=>CN Pv xs.length i (acc++[v]) σ2 H4 else CN Pv xs.length i acc σ2 H3)
  (hd:∀acc σ H,Pv xs.length acc σ H->∀p,H p=none->Q (.ref p) (upd H p (.lst acc))):Up (Itz K a b) g tt te σ0 H Q:=by
 refine⟨λi m acc σ H=>m=xs.length-i/\i<=xs.length/\acc.length<=i/\Pv i acc σ H,⟨xs.length,by simp,F7 _,FE _,h0⟩,?_⟩;rintro i m acc σ H ⟨rfl,hi,ha,p⟩;obtain⟨q1,q2⟩:=hl i acc σ H p;by_cases hlt:i<xs.length
 ·refine .inr ⟨⟨xs,ys,xs[i],ys[i]'(by omega),q1,q2,by simp[hlt],FI _⟩,YD (by omega),λx H' y=>?_⟩;obtain⟨p',x',y',rfl,hp,rfl,hx,hy⟩:=y;exact hs i x' y' acc σ _ p' (hx xs q1) (hy ys q2) ha p hp
 ·have e:i=xs.length:=by omega
  subst e;exact .inl ⟨⟨xs,ys,q1,q2,.inl (FE _)⟩,hd acc σ H p⟩
theorem SJ (x y:Str):Txt.split x y≠[]:=by
 unfold Txt.split;split
 ·simp
 ·split
  ·simp
  ·rw[StrLaws.partsBetween_eq];obtain⟨p,r,e⟩:=StrLaws.partsFrom_ne x y.length 0 (Builtin.Str.occurrences x y 0 x.length (x.length+1));rw[e];simp
theorem M3 {c:Nat}:∀{x y a b:List Nat},c∉x->c∉y->x++c::a=y++c::b->x=y/\a=b
 | [],[],_,_,_,_,h=>⟨rfl,(List.cons.inj h).2⟩
 | [],d::y,_,_,_,hy,h=>absurd (FP.mpr (.inl (List.cons.inj h).1)) hy
 | d::x,[],_,_,hx,_,h=>absurd (FP.mpr (.inl (List.cons.inj h).1.symm)) hx
 | d::x,e::y,a,b,hx,hy,h=>by
  obtain⟨h1,h2⟩:=List.cons.inj h;obtain⟨h3,h4⟩:=M3 (λm=>hx (F5 _ m)) (λm=>hy (F5 _ m)) h2;exact⟨by rw[h1,h3],h4⟩
theorem KJ {y:Str}(h:x.cps.toList=y.cps.toList):x=y:=by
 obtain⟨xs⟩:=x;obtain⟨ys⟩:=y
 congr 1
 exact Array.toList_inj.mp h
theorem Wr (a b:Str):(a++b).cps.toList=a.cps.toList++b.cps.toList:=by
 show(a.cps++b.cps).toList=_;rw[Array.toList_append]
theorem Mr (x z:Str)(c:Nat):(x++⟨#[c]⟩++z).cps.toList=x.cps.toList++c::z.cps.toList:=by
 rw[Wr,Wr,List.append_assoc];rfl
theorem V2 {c:Nat}:∀{a b:List Str},a≠[]->b≠[]->(∀z∈a,c∉z.cps.toList)->(∀z∈b,c∉z.cps.toList)->Str.join ⟨#[c]⟩ a=Str.join ⟨#[c]⟩ b->a=b
 | [],_,h,_,_,_,_=>absurd rfl h
 | _,[],_,h,_,_,_=>absurd rfl h
 | [x],[y],_,_,_,_,e=>by have e:x=y:=e;rw[e]
 | [x],y::y2::r,_,_,hx,_,e=>by
  have e:x=y++⟨#[c]⟩++Str.join ⟨#[c]⟩ (y2::r):=e;exact absurd (by rw[e,Mr];exact Eo _ Eb) (hx x Eb)
 | x::x2::r,[y],_,_,_,hy,e=>by
  have e:x++⟨#[c]⟩++Str.join ⟨#[c]⟩ (x2 :: r)=y:=e;exact absurd (by rw [<-e,Mr];exact Eo _ Eb) (hy y Eb)
 | x::x2::r,y::y2::r2,_,_,hx,hy,e=>by
  have e:x++⟨#[c]⟩++Str.join ⟨#[c]⟩ (x2::r)=y++⟨#[c]⟩++Str.join ⟨#[c]⟩ (y2::r2):=e;have e:=congrArg (λs:Str=>s.cps.toList) e;simp only[Mr] at e;obtain⟨h1,h2⟩:=M3 (hx x Eb) (hy y Eb) e;have h3:=V2 (a:=x2::r) (b:=y2::r2) (by simp) (by simp) (λz hz=>hx z (F5 _ hz)) (λz hz=>hy z (F5 _ hz)) (KJ h2);rw[KJ h1,h3]
theorem Uw {c:Nat}{ws:List Str}(h0:ws≠[])(h:∀z∈ws,c∉z.cps.toList):Txt.split (Txt.join ⟨#[c]⟩ ws) ⟨#[c]⟩=ws:=by
 refine V2 (SJ _ _) h0 (StrLaws.split_free _ c) h ?_;rw[StrLaws.join_split];exact StrLaws.glued_eq_join _ _
theorem MI (sep:Str)(ws:List Str):(Txt.join sep ws).length<=(ws.map (·.length)).sum+ws.length*sep.length:=by
 show(Builtin.Str.glued sep ws).length<=_;rw[StrLaws.glued_eq_join];exact StrLaws.join_length_le sep ws
theorem LW {k:Nat}{sp:Sp}{p:Pos}(G:JY X.prog X.w X.K X.mg X.base k C ps sp)(hr:Room (k+1) X.A)(hg:Gl X x)(hm:X.mg x=some (.ref C))(hdb:(x==("__debug__":Str))=false:=by decide):PE X (.Call (.Name x p) [] [] pos) (YM C sp [] E0 Uu):=by
 obtain⟨f,fd,F,b,M⟩:=G.ex;exact Mm M F hr hg hm b .nil Kl hdb
end L2
namespace L2
open PySem PySem.W PyProof.Rows
end L2
namespace L2
open PySem PyProof.Rows PySem.Calls PySem.W
structure FunD (K:W.Frag)(x qual:Str)(st:Stmt)(f:Addr)(fd:FuncData):Prop where
 ex:∃(oc:Value) (od:Option Addr) (dV kV doc pm:Value) (an:Option Addr) (cdv ct:Value) (osl:Array (Option Value)),
  fd=W.fnOf x qual (QC st) (Qx st) (Qh st) dV kV doc pm an cdv ct/\K.lookup f=some ⟨oc,od,.func fd,osl⟩/\W.codeIn K cdv qual=true
 kp:W.keepIn K (.ref f)=true
section
variable {P:Program} {w:World} {K:W.Frag} {mg:Str->Option Value} {base:Heap}
theorem FunD.ok {N:List Str}{k:Nat}{sp:Sp}(F:FunD K x qual st f fd)(S:Qu N ps (Qh st))(len:∀vs H Q E,sp vs H Q E->vs.length=ps.length)
  (hbody:∀(cdv:Value) (A:Around) (outer:List Env) (s:Shared) (H:Hp) (vs:List V) (Q:VK) (E:XK),Room k (A.deeper (envOfC qual (Qh st) s.heap.objs.size f cdv))->sp vs H Q E ->
   ∃t,PSs (Wm CX0 P w K mg base N qual (Qh st) f cdv A outer s H E).nox (Qx st) t/\t { nx:=λ_ H'=>Q .non H',rt:=Q } (start N vs) H):FnOk P w K mg base CX0 (k+1) f fd ps sp:=by
 obtain⟨oc,od,dV,kV,doc,pm,an,cdv,ct,osl,rfl,lk,hcd⟩:=F.ex;refine MP lk hcd S len λA outer s H vs Q E hr hsp=>?_
 obtain⟨t,h,q⟩:=hbody cdv A outer s H vs Q E hr hsp;exact⟨t,h.nox,q⟩
theorem Bt {osl:Array (Option Value)}{dV kV:Value}(l:K.lookup f=some ⟨oc,od,.func (W.fnOf x qual (QC st) (Qx st) (Qh st) dV kV doc pm an cdv ct),osl⟩)
  (c:W.codeIn K cdv qual=true) (k:W.keepIn K (.ref f)=true):FunD K x qual st f (W.fnOf x qual (QC st) (Qx st) (Qh st) dV kV doc pm an cdv ct):=⟨⟨oc,od,dV,kV,doc,pm,an,cdv,ct,osl,rfl,l,c⟩,k⟩
end
abbrev V10:=V->V->V->V->V->V->V->V->V->V->Hp->VK->Prop
def Tn (φ:V10):Sp:=λvs H Q _=>∃a b c d e f g h i j,vs=[a,b,c,d,e,f,g,h,i,j]/\φ a b c d e f g h i j H Q
def Sp10M (φ:V10):Sp:=λvs H Q _=>match vs with|[a,b,c,d,e,f,g,h,i,j]=>φ a b c d e f g h i j H Q|_=>False
theorem Sp10M.imp {φ:V10}(vs:List V)(H:Hp)(Q:VK)(E:XK)(h:Sp10M φ vs H Q E):Tn φ vs H Q E:=by
 unfold Sp10M at h;split at h
 ·exact⟨_,_,_,_,_,_,_,_,_,_,rfl,h⟩
 ·exact h.elim
theorem Rh {φ:V10}{f g i j:V}{E:XK}:Sp10M φ [a,b,c,d,e,f,g,h,i,j] H Q E=φ a b c d e f g h i j H Q:=rfl
theorem Rn {N:List Str}{f g i j:V}:start N [a,b,c,d,e,f,g,h,i,j]=some a::some b::some c::some d::some e::some f::some g::some h::some i::some j::List.replicate (N.length-10) none:=rfl
end L2
namespace L2
open PySem PySem.Spec PyProof.Rows
def B0 (K:W.Frag):R2:=λx y H Q=>∃p r xs ys,x=.ref p/\y=.ref r/\SqL K H p xs/\SqL K H r ys/\xs.length≠ys.length/\Q (.bl false) H
theorem L7 (hu:X.A.units+64<cLine):OpR X (compareOp .Eq) (B0 X.K):=by
 intro pins s σ H x y v u Q I rx ry h;obtain⟨p,r,xs,ys,rfl,rfl,h1,h2,hl,q⟩:=h;obtain rfl:=rx.ref_of;obtain rfl:=ry.ref_of;obtain⟨its,rI,pt,_⟩:=I.list h1;obtain⟨its',rI',pt',_⟩:=I.list h2;have z1:its.length=xs.length:=rI.length.symm;have z2:its'.length=ys.length:=rI'.length.symm;exact SeqAt.eq_list_lengthsAt pt.isList pt'.isList (by simp;omega) (by omega) ⟨.bl _,H,I,rfl,q⟩
def RX (K:W.Frag):R2:=λx y H Q=>sEq K x y H Q∨B0 K x y H Q
theorem Vn (K:W.Frag){X:Cx}(h:X.K=K)(hu:X.A.units+64<cLine):OpR X (compareOp .Eq) (RX K):=(eqM K h hu).or (by subst h;exact L7 hu)
end L2
namespace L2
open PySem PySem.Spec PyProof.Rows PySem.W Builtin Builtin.ObjectAttr Builtin.Getset_descriptor
end L2
namespace L2
open PySem PySem.Spec PyProof.Rows
structure Lh (P:Program)(w:World)(K:W.Frag)(mg:Str->Option Value)(base:Heap)(k:Nat)(C:Addr)(ps:List Str)(dvs:List V)(sp:Sp):Prop where
 ex:∃(f:Addr) (fd:FuncData) (ds:List Value),FnOk P w K mg base CX0 k f fd ps sp/\Binds K fd ps ds/\Vals dvs ds/\Mk K C f
theorem LX {k:Nat}{sp:Sp}{p:Pos}{e:Expr}{t:TA}{dvs:List V}(G:Lh X.prog X.w X.K X.mg X.base k C ps dvs sp)(hr:Room (k+1) X.A)(hg:Gl X x)(hm:X.mg x=some (.ref C))(ha:PA X (e::es) t)(hdb:(x==("__debug__":Str))=false:=by decide)
  (he:starEach (e::es) X.env=(false,eval e X.env)::starEach es X.env:=by rfl) (hpl:(backTo pos (starEach es X.env)).any (·.1)=false:=by rfl):PE X (.Call (.Name x p) (e::es) [] pos) (YM C sp dvs E0 t):=by
 obtain⟨f,fd,ds,F,b,hd,M⟩:=G.ex;exact Gr M F hr hg hm b hd Kl ha hdb he hpl
theorem G4 {S:Setting}{a:Addr}{o:Obj}(l:K.lookup a=some o){e k}:W.peek K S (Sem.load a e k:Sem α)=W.peek K S (k o):=by
 simp only[W.peek];rw[l]
theorem Uj {ds:List Value}{da:Addr}{o:Obj}(l:K.lookup da=some o)(n:Nat)(hn:ps.length=n+ds.length)(h:∀us:List Value,us.length=n->∃e k,bindArgs fd ⟨us,[]⟩=Sem.load da e k/\∀S,W.peek K S (k o)=some (ps.zip (us++ds))):Binds K fd ps ds:=λs us kIn hl=>by
 rw[FF] at hl;obtain⟨e,k,e1,e2⟩:=h us (by omega);exact W.kp_binds kIn λS=>by rw[e1,G4 l];exact e2 S
end L2
namespace My
open PySem PyProof.Rows L2
local macro_rules | `(tactic| walk_at "r1") => `(tactic| first | dsimp only [T8, T7, T4, T3, T2, Rn, List.length_cons, List.length_nil, List.replicate, Nat.reduceSub, Nat.reduceAdd, Tr, Ri, HN, HJ, TR, HM, Tw, HL, Rl, Rk, TN, TL, TQ, TM, TH, TC, TK, TF, Rj, Li, Tv, Tu, Tt, Ts, Rh, TB, Tz, x_c, HS, HP, Sx, HQ, Se, Rp, Lm, TZ, Rm, RC, Ln, Sz, HR, Sd, Ss, Rq, T9, BN, RG, Sr, Ll, Sy, Rv, Sb, Sf, RH, RJ, HV, TY, Sk, Lk, T1, TU, List.getElem?_cons_zero, List.getElem?_cons_succ, List.set_cons_zero, List.set_cons_succ, List.nil_append, List.cons_append, List.append_nil, if_true, if_false, reduceCtorEq, Int.reduceEq, Int.cast_ofNat_Int, Int.reduceLT, Int.reduceLE, not_true, Bool.not_true, Bool.not_false, Bool.not_eq_true'] | simp only [HU, Lj, HW, Ro, TV, So, RA, Bool.false_eq_true, Bool.true_eq_false, not_false_eq_true, decide_eq_true_eq, decide_eq_false_iff_not, Bool.not_eq_true', if_true, if_false, not_true, reduceCtorEq, Int.reduceEq, Int.reduceLT, Int.reduceLE, Bool.not_true, Bool.not_false])
local macro_rules | `(tactic| walk_at "rd") => `(tactic| (walk_at "r1"; repeat walk_at "r1"))
local macro_rules | `(tactic| walk_at "go") => `(tactic| repeat (first | refine RB (by assumption) rfl ?_ | refine ZE (by assumption) rfl ?_ | refine QX (by assumption) rfl ?_ | refine Rx (by assumption) ?_ | refine QT (by assumption) ?_ | refine Jj (TyOf.int _) (by rfl) ?_ | refine Sm (by assumption) ?_ | refine Jj (TyOf.bl _) (by rfl) ?_ | walk_at "rd"))
structure Adr where
 dummy:Unit:=()
 iI:Addr
 iJ:Addr
 aG:Addr
 iK:Addr
 aC:Addr
 aJ:Addr
 aK:Addr
 iL:Addr
 b9:Addr
 aL:Addr
 aU:Addr
 iM:Addr
 aM:Addr
 aN:Addr
 aH:Addr
 bR:Addr
 bS:Addr
 bT:Addr
 bM:Addr
 bU:Addr
variable {t:Adr}
abbrev yK (K:W.Frag)(a b:Addr)(c:Bool):Prop:=W.kitOne K (.ref a) (.ref b)=some c
def JH:List (Key×V):=[(Sum.inr "kind",.str "NAME"),(Sum.inr "base",.str "AMOUNT"),(Sum.inr "each",.str "AMOUNT LOW HIGH"),(Sum.inr "rent",.str "RATE MOST"),(Sum.inr "from",.str "MANY LOW HIGH"),(Sum.inr "upto",.str "MANY LOW HIGH"),(Sum.inr "pay",.str "RATE LOW HIGH"),(Sum.inr "counts",.str "NAME RATE"),(Sum.inr "off",.str "LIMIT RATE"),(Sum.inr "until",.str "LIMIT"),(Sum.inr "round",.str "UNIT WAY"),(Sum.inr "cap",.str "LIMIT EACH NAME")]
def JG:List (Key×V):=[(Sum.inr "base",.str "parts"),(Sum.inr "each",.str "parts"),(Sum.inr "rent",.str "parts"),(Sum.inr "from",.str "terms"),(Sum.inr "upto",.str "terms"),(Sum.inr "pay",.str "pays"),(Sum.inr "counts",.str "counts"),(Sum.inr "off",.str "offs"),(Sum.inr "until",.str "untils"),(Sum.inr "round",.str "rounds")]
def kd_LONGEST:List (Key×V):=[(Sum.inr "parts",.int 6),(Sum.inr "terms",.int 6),(Sum.inr "pays",.int 4),(Sum.inr "offs",.int 6),(Sum.inr "untils",.int 1),(Sum.inr "rounds",.int 1)]
structure Tx (w:World)(K:W.Frag)(mg:Str->Option Value)(t:Adr):Prop where
 cH:mg "abs"=none
 cI:mg "all"=none
 gD:mg "enumerate"=none
 gF:mg "int"=none
 aV:mg "isinstance"=none
 aB:mg "len"=none
 aO:mg "list"=none
 gG:mg "max"=none
 bH:mg "range"=none
 gH:mg "set"=none
 bA:mg "str"=none
 cJ:mg "tuple"=none
 gI:mg "zip"=none
 iN:mg "HelpError"=some (.ref t.iI)
 iO:mg "Unknown"=some (.ref t.iJ)
 aW:mg "NoWord"=some (.ref t.aG)
 iP:mg "NoRow"=some (.ref t.iK)
 cK:mg "Kind"=some (.ref t.aC)
 cL:mg "Cap"=some (.ref t.aJ)
 cM:mg "Office"=some (.ref t.aK)
 iQ:mg "Part"=some (.ref t.iL)
 cN:mg "Base"=some (.ref t.b9)
 cP:mg "Each"=some (.ref t.aL)
 cQ:mg "Rent"=some (.ref t.aU)
 iR:mg "Term"=some (.ref t.iM)
 cR:mg "From"=some (.ref t.aM)
 cT:mg "Upto"=some (.ref t.aN)
 gK:mg "Reader"=some (.ref t.aH)
 bB:W.excIn K t.aG HF "ValueError.__new__"=true
 gL:JX mg "LETTERS" (.str "abcdefghijklmnopqrstuvwxyz")
 gM:JX mg "LONGEST_NAME" (.int 8)
 gP:JX mg "OLDEST" (.int 150)
 cU:JX mg "MOST_COINS" (.int 1000000000)
 gQ:JX mg "FIGURES" (.str "0123456789")
 gR:JX mg "MOST_FIGURES" (.int 10)
 bY:JX mg "MOST_OF_RATES" (.int 9999)
 bR:BM K mg "AGES" t.bR [.str "LOW",.str "HIGH"]
 gS:JX mg "MOST_HEADS" (.int 60)
 bS:BM K mg "WAYS" t.bS [.str "down",.str "up",.str "near"]
 bT:KDic w K mg "FORMS" t.bT JH
 bM:KDic w K mg "LISTS" t.bM JG
 bU:KDic w K mg "LONGEST" t.bU kd_LONGEST
 gU:JX mg "MOST_KINDS" (.int 8)
 gV:JX mg "MOST_CAPS" (.int 4)
 gW:yK K t.aC t.aC true
 gX:yK K t.aJ t.aJ true
 gY:yK K t.aK t.aK true
 gZ:yK K t.b9 t.b9 true
 hG:yK K t.aL t.aL true
 hJ:yK K t.aU t.aU true
 hV:yK K t.aM t.aM true
 hX:yK K t.aN t.aN true
 aD:Cls K t.aC
 hZ:IsC K t.aC
 cV:NoAttr K t.aC "title"
 bZ:NoAttr K t.aC "parts"
 c7:NoAttr K t.aC "terms"
 cW:NoAttr K t.aC "pays"
 cX:NoAttr K t.aC "counts"
 cY:NoAttr K t.aC "offs"
 c8:NoAttr K t.aC "limit"
 c9:NoAttr K t.aC "unit"
 cZ:NoAttr K t.aC "way"
 bE:Cls K t.aJ
 i0:IsC K t.aJ
 d2:NoAttr K t.aJ "limit"
 d5:NoAttr K t.aJ "each"
 cA:NoAttr K t.aJ "titles"
 bI:Cls K t.aK
 i7:IsC K t.aK
 cB:NoAttr K t.aK "kinds"
 cD:NoAttr K t.aK "caps"
 cE:Cls K t.b9
 i8:IsC K t.b9
 d6:NoAttr K t.b9 "amount"
 bJ:Cls K t.aL
 i9:IsC K t.aL
 d7:NoAttr K t.aL "amount"
 d8:NoAttr K t.aL "low"
 d9:NoAttr K t.aL "high"
 bN:Cls K t.aU
 iA:IsC K t.aU
 dA:NoAttr K t.aU "rate"
 dB:NoAttr K t.aU "most"
 bK:Cls K t.aM
 iB:IsC K t.aM
 dC:NoAttr K t.aM "many"
 dE:NoAttr K t.aM "low"
 dF:NoAttr K t.aM "high"
 bL:Cls K t.aN
 iC:IsC K t.aN
 dG:NoAttr K t.aN "many"
 dH:NoAttr K t.aN "low"
 dI:NoAttr K t.aN "high"
 aE:Cls K t.aH
 iS:IsC K t.aH
 bF:NoAttr K t.aH "drafts"
 bO:NoAttr K t.aH "caps"
 bV:NoAttr K t.aH "asked_for"
local macro_rules | `(tactic| walk_at "sc") => `(tactic| exact ⟨rfl, rfl, rfl, by decide +kernel, rfl, by decide +kernel, by decide +kernel⟩)
theorem GZ {φ}(vs:List V)(H:Hp)(Q:VK)(E:XK)(h:Rp1 φ vs H Q E):vs.length=1:=by
 obtain⟨_,rfl,_⟩:=h;rfl
theorem RY {φ}(vs:List V)(H:Hp)(Q:VK)(E:XK)(h:Rp2 φ vs H Q E):vs.length=2:=by
 obtain⟨_,_,rfl,_⟩:=h;rfl
theorem YT {φ}(vs:List V)(H:Hp)(Q:VK)(E:XK)(h:Sp1 φ vs H Q E):vs.length=1:=by
 obtain⟨_,rfl,_⟩:=h;rfl
theorem SK {φ}(vs:List V)(H:Hp)(Q:VK)(E:XK)(h:Tn φ vs H Q E):vs.length=10:=by
 obtain⟨_,_,_,_,_,_,_,_,_,_,rfl,_⟩:=h;rfl
theorem YS {φ}(vs:List V)(H:Hp)(Q:VK)(E:XK)(h:Sp2 φ vs H Q E):vs.length=2:=by
 obtain⟨_,_,rfl,_⟩:=h;rfl
theorem KM {φ}(vs:List V)(H:Hp)(Q:VK)(E:XK)(h:Sp3 φ vs H Q E):vs.length=3:=by
 obtain⟨_,_,_,rfl,_⟩:=h;rfl
theorem GW {φ}(vs:List V)(H:Hp)(Q:VK)(E:XK)(h:Sp4 φ vs H Q E):vs.length=4:=by
 obtain⟨_,_,_,_,rfl,_⟩:=h;rfl
theorem UC:Qu ["thing"] ["thing"] (Qh XO):=by walk_at "sc"
theorem sc_common_divisor:Qu ["one","other","rest"] ["one","other"] (Qh Zh):=by walk_at "sc"
theorem YK:Qu ["text"] ["text"] (Qh Q8):=by walk_at "sc"
theorem sc_whole_read:Qu ["text","most","number"] ["text","most"] (Qh ZL):=by walk_at "sc"
theorem sc_rate_read:Qu ["text","written","top","bottom"] ["text"] (Qh Z2):=by walk_at "sc"
theorem KQ:Qu ["text"] ["text"] (Qh Z4):=by walk_at "sc"
theorem UA:Qu ["sort"] ["sort"] (Qh XG):=by walk_at "sc"
theorem sc_unit_read:Qu ["word","unit"] ["word"] (Qh Z1):=by walk_at "sc"
theorem VF:Qu ["word"] ["word"] (Qh Xk):=by walk_at "sc"
theorem KP:Qu ["sort","word"] ["sort","word"] (Qh ZZ):=by walk_at "sc"
theorem sc_words_read:Qu ["form","words","sorts"] ["form","words"] (Qh ZK):=by walk_at "sc"
theorem WB:Qu ["self","title","parts","terms","pays","counts","offs","limit","unit","way"] ["self","title","parts","terms","pays","counts","offs","limit","unit","way"] (Qh QG):=by walk_at "sc"
theorem W4:Qu ["self","limit","each","titles"] ["self","limit","each","titles"] (Qh Zs):=by walk_at "sc"
theorem YV:Qu ["self","kinds","caps"] ["self","kinds","caps"] (Qh Ze):=by walk_at "sc"
theorem WE:Qu ["self","amount"] ["self","amount"] (Qh Zo):=by walk_at "sc"
theorem WD:Qu ["self","amount","low","high"] ["self","amount","low","high"] (Qh Zn):=by walk_at "sc"
theorem WA:Qu ["self","rate","most"] ["self","rate","most"] (Qh Zl):=by walk_at "sc"
theorem WC:Qu ["self","many","low","high"] ["self","many","low","high"] (Qh Zm):=by walk_at "sc"
theorem Wz:Qu ["self","many","low","high"] ["self","many","low","high"] (Qh Zk):=by walk_at "sc"
theorem sc_form_of:Qu ["words","form","further"] ["words"] (Qh XQ):=by walk_at "sc"
theorem sc_values_of:Qu ["words","form","values"] ["words"] (Qh Z0):=by walk_at "sc"
theorem VG:Qu ["sort","values"] ["sort","values"] (Qh Xl):=by walk_at "sc"
theorem sc_new_draft:Qu ["title","draft","name"] ["title"] (Qh Z3):=by walk_at "sc"
theorem UD:Qu ["draft","sort","values"] ["draft","sort","values"] (Qh XR):=by walk_at "sc"
theorem sc_kind_of:Qu ["draft","limit","rounding"] ["draft"] (Qh XN):=by walk_at "sc"
theorem YU:Qu ["self"] ["self"] (Qh Zd):=by walk_at "sc"
theorem X8:Qu ["self"] ["self"] (Qh QZ):=by walk_at "sc"
theorem Jq:Qu ["self","sort","values"] ["self","sort","values"] (Qh ZA):=by walk_at "sc"
theorem sc_Reader_caps_none_twice:Qu ["self","titles","capped","cap"] ["self","titles"] (Qh QN):=by walk_at "sc"
theorem Jp:Qu ["self","sort","values"] ["self","sort","values"] (Qh Zz):=by walk_at "sc"
theorem sc_Reader_office_told:Qu ["self","title"] ["self"] (Qh Q0):=by walk_at "sc"
theorem sc_read:Qu ["rows","reader","place","row","words","values"] ["rows"] (Qh Jr):=by walk_at "sc"
theorem GY:Qu ["_law_script","_law_k"] ["_law_script","_law_k"] (Qh Yo):=by walk_at "sc"
theorem sc_l_mixed:Qu ["_law_cell_here","_law_k","_law_prime"] ["_law_cell_here","_law_k"] (Qh XJ):=by walk_at "sc"
theorem sc_l_common:Qu ["_law_one","_law_other"] ["_law_one","_law_other"] (Qh Xm):=by walk_at "sc"
theorem sc_l_made:Qu ["_law_top","_law_bottom","_law_common_here"] ["_law_top","_law_bottom"] (Qh Ym):=by walk_at "sc"
theorem sc_l_name:Qu ["_law_cell_here","_law_letters","_law_size","_law_at","_law_text","_law_k"] ["_law_cell_here"] (Qh Yl):=by walk_at "sc"
theorem sc_l_rate:Qu ["_law_cell_here","_law_k","_law_top","_law_bottom"] ["_law_cell_here","_law_k"] (Qh Yi):=by walk_at "sc"
theorem UB:Qu ["_law_rate_here"] ["_law_rate_here"] (Qh XI):=by walk_at "sc"
theorem sc_l_ages:Qu ["_law_cell_here","_law_low"] ["_law_cell_here"] (Qh Yp):=by walk_at "sc"
theorem sc_l_amount:Qu ["_law_cell_here","_law_k","_law_number"] ["_law_cell_here","_law_k"] (Qh Xn):=by walk_at "sc"
theorem sc_l_pool:Qu ["_law_cell_here","_law_most","_law_pool_here","_law_k","_law_title"] ["_law_cell_here","_law_most"] (Qh Yj):=by walk_at "sc"
theorem sc_l_part:Qu ["_law_cell_here","_law_amount_here","_law_low","_law_high","_law_way"] ["_law_cell_here"] (Qh Yk):=by walk_at "sc"
theorem sc_l_term:Qu ["_law_cell_here","_law_low","_law_high","_law_many"] ["_law_cell_here"] (Qh Yg):=by walk_at "sc"
theorem sc_l_words:Qu ["_law_row","_law_words_here","_law_one"] ["_law_row"] (Qh XH):=by walk_at "sc"
theorem sc_l_limit:Qu ["_law_offs","_law_cell_here","_law_step"] ["_law_offs","_law_cell_here"] (Qh XM):=by walk_at "sc"
theorem sc_l_put:Qu ["_law_last","_law_pool_here","_law_cell_here","_law_way","_law_low","_law_high","_law_title","_law_limit_here","_law_unit"] ["_law_last","_law_pool_here","_law_cell_here"] (Qh Wb):=by walk_at "sc"
theorem sc_l_cap:Qu ["_law_caps","_law_pool_here","_law_cell_here","_law_gone","_law_cap_here","_law_free","_law_at","_law_names"] ["_law_caps","_law_pool_here","_law_cell_here"] (Qh Wc):=by walk_at "sc"
theorem sc_l_kind:Qu ["_law_kinds","_law_pool_here","_law_cell_here","_law_there","_law_free","_law_title"] ["_law_kinds","_law_pool_here","_law_cell_here"] (Qh Yn):=by walk_at "sc"
theorem sc_l_rows:Qu ["_law_cells","_law_pool_here","_law_kinds","_law_caps","_law_rows_here","_law_cell_here","_law_row"] ["_law_cells","_law_pool_here","_law_kinds","_law_caps"] (Qh Yh):=by walk_at "sc"
theorem sc_l_lacking:Qu ["_law_rows_here","_law_pool_here","_law_kinds","_law_cell_here","_law_k","_law_last","_law_title"] ["_law_rows_here","_law_pool_here","_law_kinds","_law_cell_here"] (Qh Z5):=by walk_at "sc"
theorem KR:Qu ["_law_found","_law_part_here"] ["_law_found","_law_part_here"] (Qh Z7):=by walk_at "sc"
theorem sc_l_is_term:Qu ["_law_found","_law_term_here","_law_good"] ["_law_found","_law_term_here"] (Qh Z6):=by walk_at "sc"
theorem sc_l_is_kind:Qu ["_law_found","_law_kind_here","_law_title","_law_parts","_law_terms","_law_pays","_law_counts","_law_offs","_law_limits","_law_rounds","_law_k"] ["_law_found","_law_kind_here"] (Qh Z8):=by walk_at "sc"
theorem sc_l_is_office:Qu ["_law_found","_law_kinds","_law_caps","_law_k","_law_one"] ["_law_found","_law_kinds","_law_caps"] (Qh Zy):=by walk_at "sc"
theorem sc_law:Qu ["_law_script","_law_pool_here","_law_kinds","_law_caps","_law_rows_here","_law_handed","_law_found"] ["_law_script"] (Qh WY):=by walk_at "sc"
section
variable {P:Program} {w:World} {K:W.Frag} {mg:Str->Option Value} {base:Heap} {t:Adr}
seal PSs PS PE PA PI
def VE (K:W.Frag):Sp:=Sp1 λx H Q=>∃(a:Addr) (ns:List Int),x=.ref a/\SqL K H a (ns.map V.int)/\ns.length<=63/\∀H',Q (.bl true) H'
theorem VD {a:Addr}{ns:List Int}(hl:ns.length<=63)(_:BL H)(hS:SqL K H a (ns.map V.int)):VE K [.ref a] H (λv _=>v=.bl true) λ_ _ _=>False:=⟨_,rfl,a,ns,rfl,hS,hl,λ_=>rfl⟩
inductive φgcd (x:V)(y:V)(H:Hp)(Q:VK):Prop
 | mk (a b:Int) (h1:x=.int a) (h2:y=.int b) (h3:0<=a) (h4:0<=b) (h5:Q (.int (Int.gcd a b)) H):φgcd x y H Q
inductive φgcdA (x:V)(y:V)(H:Hp)(Q:VK):Prop
 | mk (a b:Int) (h1:x=.int a) (h2:y=.int b) (h3:Q (.int (Int.gcd a b)) H):φgcdA x y H Q
inductive φfrac (x:V)(y:V)(H:Hp)(Q:VK):Prop
 | mk (t b:Int) (h1:x=.int t) (h2:y=.int b) (h3:b≠0) (h4:Bd 9000 b) (h5:∀p,H p=none->Q (.ref p) (upd H p (.tup [.int (Yc t b),.int (Yd t b)]))):φfrac x y H Q
def cl (ns:List Int)(k:Int):Int:=ns.getD k.toNat 0
inductive φcell (K:W.Frag)(x:V)(y:V)(H:Hp)(Q:VK):Prop
 | mk (a:Addr) (ns:List Int) (k:Int) (h1:x=.ref a) (h2:y=.int k) (h3:SqL K H a (ns.map V.int)) (h4:0<=k) (h5:Q (.int (cl ns k)) H):φcell K x y H Q
theorem Wg (T:Tx w K mg t)(F:Fun K "common_divisor" "common_divisor" Zh f fd):FnOk P w K mg base CX0 1 f fd ["one","other"] (Sp2 φgcd):=by
 refine F.ok sc_common_divisor YS (λcdv A outer s H vs Q E hr h=>?_);obtain⟨_,_,rfl,a,b,rfl,rfl,ha,hb,q⟩:=h;refine⟨_,((Qc (VJ Er (Qj (neM K rfl hr.units) (pu 1) Qd (Qk _)) (Qc (Qw (i:=2) sc_common_divisor.nd rfl (Or.inl rfl) (Qr QD (pu 0) (pu 1)))
   (Qc (Qw (i:=0) sc_common_divisor.nd rfl (Or.inl rfl) (pu 1))
   (Qf (Qw (i:=1) sc_common_divisor.nd rfl (Or.inl rfl) (pu 2))))))
   (Qf (Ql (pu 0))))),?_⟩
 walk_at "rd";refine⟨λm σ' H'=>∃(a' b':Int) (r:Option V),σ'=[some (.int a'),some (.int b'),r]/\H'=H/\0<=a'/\0<=b'/\b'.toNat=m/\Int.gcd a' b'=Int.gcd a b,⟨_,a,b,none,rfl,rfl,ha,hb,rfl,rfl⟩,?_⟩;rintro m _ _ ⟨a',b',r,rfl,rfl,ha',hb',rfl,hg⟩;walk_at "rd";by_cases hz:b'=0
 ·subst hz;rw [FC (by simp)];have e:(Int.gcd a' 0:Int)=a':=V5 ha';rw [hg] at e;rw [<-e];exact q
 ·rw[FD (by simp[hz])];refine⟨λσ' H'=>∃m',m'<b'.toNat/\∃(a'' b'':Int) (r:Option V),σ'=[some (.int a''),some (.int b''),r]/\H'=_/\0<=a''/\0<=b''/\b''.toNat=m'/\Int.gcd a'' b''=Int.gcd a b,λ_ _ h=>h,?_⟩;refine⟨by omega,(a' % b').toNat,?_,b',a' % b',_,rfl,rfl,hb',F9 _ hz,rfl,?_⟩
  ·have:=Ej a' (b:=b') (by omega);have:=F9 a' hz;omega
  ·rw[V6 ha' (by omega)];exact hg
def W6 (c:Nat):Bool:=decide (97<=c)&&decide (c<=122)
def Vj:V->Bool
 | .str z=>decide (1<=z.length)&&decide (z.length<=8)&&z.cps.toList.all W6
 | _=>false
inductive Thg (H:Hp):V->Prop
 | non:Thg H .non
 | bl (b:Bool):Thg H (.bl b)
 | int (i:Int):Thg H (.int i)
 | str (z:Str) (ha:Zq z) (hl:z.length<=1000):Thg H (.str z)
 | lst (p:Addr) (xs:List V) (h:H p=some (.lst xs)):Thg H (.ref p)
 | tup (p:Addr) (xs:List V) (h:H p=some (.tup xs)):Thg H (.ref p)
inductive φisn (K:W.Frag)(x:V)(H:Hp)(Q:VK):Prop
 | mk (h1:Thg H x) (h2:∀H',Same H H'->Q (.bl (Vj x)) H'):φisn K x H Q
def MpI (z:Str)(H:Hp)(i:Nat)(acc:List V)(σ':L2.St)(H':Hp):Prop:=∃x0,σ'=[x0]/\Same H H'/\acc=((z.cps.toList.take i).map W6).map V.bl
theorem UO (T:Tx w K mg t)(F:Fun K "is_name" "is_name" XO f fd):FnOk P w K mg base CX0 1 f fd ["thing"] (Sp1 (φisn K)):=by
 refine F.ok UC YT (λcdv A outer s H vs Q E hr h=>?_);obtain⟨_,rfl,ht,q⟩:=h;refine⟨_,((Qc (Qy (PW.pt (Xo (Xp (Zu (Qs (Kd K rfl) (by rfl) T.aV boot_isinstance (Qa (pu 0) (Qa (B3 T.bA boot_str) Qb))))) (Xo (Qj (eqM K rfl hr.units) (pu 0) Qn (Qk _)) (Xd (Qj YZ (Qs (Zr K rfl) (by rfl) T.aB FO (Qa (pu 0) Qb)) (XT T.gM) (Qk _)))))) (Qf (Ql Xf)) Qo)
   (Qf (Ql (Qs (Kt K rfl rfl) (by rfl) T.cI boot_all (Qa (Xz (N:=["sign"]) (caps:=[none]) rfl W8 (Mi (pu 0)) (λ_ _ _ _=>QA (i:=0) (show(["sign"]:List Str).Nodup by decide +kernel) rfl (Or.inl rfl) (.inr rfl)) (λ_ _ _ _=>Xh) (λ_ _ _ _=>(Zj (inK K rfl) (pu 0) (XT T.gL) (by with_unfolding_all rfl)))) Qb)))))),?_⟩
 cases ht with
 | non=>
  walk_at "go";refine Jj .non (by rfl) ?_;walk_at "go";exact q _ (Same.refl _)
 | bl b=>
  walk_at "go";exact q _ (Same.refl _)
 | int i=>
  walk_at "go";exact q _ (Same.refl _)
 | lst p xs h=>
  walk_at "go";refine Jj (.lst h) (by rfl) ?_;walk_at "go";exact q _ (Same.refl _)
 | tup p xs h=>
  walk_at "go";refine Jj (.tup h) (by rfl) ?_;walk_at "go";exact q _ (Same.refl _)
 | str z ha hl=>
  walk_at "go";refine Jj (.str z) (by rfl) ?_;walk_at "go";have hsz:z.cps.size=z.length:=rfl;by_cases c0:z=Str.ofString ""
  ·rw[FD c0];have e:Vj (.str z)=false:=by rw[c0];decide +kernel
   rw[e] at q;exact q _ (Same.refl _)
  ·rw[FC c0];have l1:1<=z.length:=by
    rcases Nat.eq_zero_or_pos z.length with e|e
    ·refine absurd ?_ c0;have e':z.cps=#[]:=Array.eq_empty_of_size_eq_zero e;show z=Str.ofString "";obtain⟨cs⟩:=z;cases e';rfl
    ·exact e
   refine⟨_,_,rfl,⟨Zw hl,rfl⟩,?_⟩;walk_at "go";refine Qz (λc=>?_) (λc=>?_)
   ·have e:Vj (.str z)=false:=by
     show(decide (1<=z.length)&&decide (z.length<=8)&&_)=false;rw[F1 (p:=z.length<=8) (by omega),EM,Bool.false_and]
    rw[e] at q;exact q _ (Same.refl _)
   ·simp only[Xi,NR];walk_at "go";refine⟨z,rfl,ha,Rf (MpI z H) ⟨none,rfl,Same.refl _,rfl⟩ (by omega) ?_ ?_⟩
    ·rintro i cc acc _ H2 hv hacc ⟨x0,rfl,g,rfl⟩;have hlt:=(Array.getElem?_eq_some_iff.mp hv).1;have hc:cc<128:=by
      have:=Array.all_eq_true.mp ha i hlt;rw[(Array.getElem?_eq_some_iff.mp hv).2] at this;simpa using this
     simp only[Y6];walk_at "go";refine .inr ⟨_,_,rfl,rfl,?_⟩;have e:=P1 cc hc;unfold Txt.contains at e;rw[FC F4,e];refine CN.mk hlt (by rw[FF,FK];omega) ⟨_,rfl,g,?_⟩;have hv':z.cps.toList[i]?=some cc:=by rw[Array.getElem?_toList];exact hv
     rw[Et,hv',FR,FR];rfl
    ·rintro acc _ H2 ⟨x0,rfl,g,rfl⟩ p hp;have e:Vj (.str z)=(z.cps.toList.map W6).all id:=by
      show(decide (1<=z.length)&&decide (z.length<=8)&&z.cps.toList.all W6)=_;rw[Ef l1,Ef (p:=z.length<=8) (by omega),Bool.true_and,Bool.true_and,List.all_map];rfl
     have et:z.cps.toList.take z.cps.size=z.cps.toList:=Eg (by rw[Array.length_toList];exact FE _);rw[et];have g2:=Qg hp (.lst ((z.cps.toList.map W6).map V.bl));rw[e] at q;exact⟨p,_,rfl,SqL.of Qe,q _ (g.trans g2)⟩
def dig (c:Nat):Bool:=decide (48<=c)&&decide (c<=57)
def zero:Str:=Str.ofString "0"
def isW (z:Str):Bool:=decide (1<=z.length)&&decide (z.length<=10)&&!(decide (z.cps.toList.head?=some 48)&&!decide (z=zero))&&z.cps.toList.all dig
def vl (z:Str):Int:=(NumText.digitsVal z.cps.toList:Nat)
def rdW (z:Str)(m:Int):Option Int:=if isW z=true/\vl z<=m then some (vl z) else none
theorem P0:∀c<128,Txt.contains (Str.ofString "0123456789") ⟨#[c]⟩=(decide (48<=c)&&decide (c<=57)):=by decide +kernel
theorem Bh (h:¬z=Str.ofString ""):1<=z.length:=by
 rcases Nat.eq_zero_or_pos z.length with e|e
 ·refine absurd ?_ h;have e':z.cps=#[]:=Array.eq_empty_of_size_eq_zero e;obtain⟨cs⟩:=z;cases e';rfl
 ·exact e
theorem Tj (ha:Zq z){i c:Nat}(hv:z.cps[i]?=some c):c<128:=by
 have hlt:=(Array.getElem?_eq_some_iff.mp hv).1;have:=Array.all_eq_true.mp ha i hlt;rw[(Array.getElem?_eq_some_iff.mp hv).2] at this;simpa using this
theorem Bl (h:isW z=true):intText? z=some (vl z)/\z.length<=10:=by
 unfold isW at h;simp only[Ew,EW] at h;obtain⟨⟨⟨h1,h2⟩,_⟩,h4⟩:=h;refine⟨intText_digits (λc hc=>?_) (λe=>?_) (by omega),h2⟩
 ·have:=Ex.mp h4 c hc;unfold dig at this;simpa using this
 ·have:z.cps.toList.length=z.length:=Array.length_toList;rw[e] at this;simp at this;omega
inductive φiw (K:W.Frag)(x:V)(H:Hp)(Q:VK):Prop
 | mk (z:Str) (h1:x=.str z) (h2:Zq z) (h3:z.length<=1000) (h4:∀H',Same H H'->Q (.bl (isW z)) H'):φiw K x H Q
theorem char_eq {c:Nat}:((⟨#[c]⟩:Str)=Str.ofString "0")↔c=48:=by
 have e:Str.ofString "0"=⟨#[48]⟩:=by decide +kernel
 rw[e];constructor
 ·intro h;injection h with h;simpa using h
 ·intro h;rw[h]
theorem YL (T:Tx w K mg t)(F:Fun K "is_written_whole" "is_written_whole" Q8 f fd):FnOk P w K mg base CX0 1 f fd ["text"] (Sp1 (φiw K)):=by
 refine F.ok YK YT (λcdv A outer s H vs Q E hr h=>?_);obtain⟨_,rfl,z,rfl,ha,hl,q⟩:=h;refine⟨_,((Qc (Qy (PW.pt (Xo (Qj (eqM K rfl hr.units) (pu 0) Qn (Qk _)) (Xd (Qj YZ (Qs (Zr K rfl) (by rfl) T.aB FO (Qa (pu 0) Qb)) (XT T.gR) (Qk _))))) (Qf (Ql Xf)) Qo)
   (Qc (Qy (PW.pt (ZF (Qj (eqM K rfl hr.units) (Qp (ixK K rfl) (pu 0) Qd (λ_ _=>rfl)) Qn (Qk _)) (Zt (Qj (neM K rfl hr.units) (pu 0) Qn (Qk _))))) (Qf (Ql Xf)) Qo)
   (Qf (Ql (Qs (Kt K rfl rfl) (by rfl) T.cI boot_all (Qa (Xz (N:=["sign"]) (caps:=[none]) rfl W8 (Mi (pu 0)) (λ_ _ _ _=>QA (i:=0) (show(["sign"]:List Str).Nodup by decide +kernel) rfl (Or.inl rfl) (.inr rfl)) (λ_ _ _ _=>Xh) (λ_ _ _ _=>(Zj (inK K rfl) (pu 0) (XT T.gQ) (by with_unfolding_all rfl)))) Qb))))))),?_⟩
 walk_at "go";have hlz:z.cps.toList.length=z.length:=Array.length_toList;by_cases c0:z=Str.ofString ""
 ·rw[FD c0];have e:isW z=false:=by rw[c0];decide +kernel
  rw[e] at q;exact q _ (Same.refl _)
 rw[FC c0];have l1:=Bh c0;refine⟨_,_,rfl,⟨Zw hl,rfl⟩,?_⟩;walk_at "go";refine Qz (λc=>?_) (λc10=>?_)
 ·have e:isW z=false:=by
   unfold isW;rw[F1 (p:=z.length<=10) (by omega),EM,Bool.false_and,Bool.false_and]
  rw[e] at q;exact q _ (Same.refl _)
 obtain⟨cc,hcc⟩:∃cc,z.cps.toList[0]?=some cc:=⟨_,FI (by omega)⟩
 have hhd:z.cps.toList.head?=some cc:=by rw[List.head?_eq_getElem?];exact hcc
 refine .inr (.inr ⟨z,0,cc,rfl,rfl,Zw hl,QW (j:=0) hcc,?_⟩);walk_at "go";have fin:(!(decide (z.cps.toList.head?=some 48)&&!decide (z=zero)))=true->Kh [none] (P3 (X7 0)) (Wk 0) RP (tOp (G2 K false) (X7 0) (tC (V.str (Str.ofString "0123456789")))) [some (V.str z)] H λx H1=>B1 K [x] H1 Q:=λok=>by
  have e:isW z=(z.cps.toList.map dig).all id:=by
   unfold isW;rw[Ef l1,Ef (p:=z.length<=10) (by omega),ok,Bool.true_and,Bool.true_and,Bool.true_and,List.all_map];rfl
  rw[e] at q;simp only[Xi,NR];walk_at "go";refine⟨z,rfl,ha,Rf (λi acc σ' H'=>∃x0,σ'=[x0]/\Same H H'/\acc=((z.cps.toList.take i).map dig).map V.bl) ⟨none,rfl,Same.refl _,rfl⟩ (by show z.length<=1000;omega) ?_ ?_⟩
  ·rintro i cc acc _ H2 hv hacc ⟨x0,rfl,g,rfl⟩;have hlt:=(Array.getElem?_eq_some_iff.mp hv).1;simp only[Y6];walk_at "go";refine .inr ⟨_,_,rfl,rfl,?_⟩;have e:=P0 cc (Tj ha hv);unfold Txt.contains at e;rw[FC F4,e];refine CN.mk hlt (by rw[FF,FK];omega) ⟨_,rfl,g,?_⟩;have hv':z.cps.toList[i]?=some cc:=by rw[Array.getElem?_toList];exact hv
   rw[Et,hv',FR,FR];rfl
  ·rintro acc _ H2 ⟨x0,rfl,g,rfl⟩ p hp;have et:z.cps.toList.take z.cps.size=z.cps.toList:=Eg (by rw[Array.length_toList];exact FE _);rw[et];have g2:=Qg hp (.lst ((z.cps.toList.map dig).map V.bl));exact⟨p,_,rfl,SqL.of Qe,q _ (g.trans g2)⟩
 refine Qz (λe0=>?_) (λe0=>fin ?_)
 ·refine Qz (λe1=>?_) (λe1=>fin ?_)
  ·have e:isW z=false:=by
    unfold isW;rw[hhd,char_eq.mp e0,Ef rfl,F1 (p:=z=zero) e1];simp
   rw[e] at q;exact q _ (Same.refl _)
  ·have e1:z=zero:=Classical.not_not.mp e1;rw[Ef e1];simp
 ·rw[hhd,F1 (p:=some cc=some 48) (λh=>e0 (char_eq.mpr (FX h)))];rfl
inductive φwr (K:W.Frag)(C:Addr)(x y:V)(H:Hp)(Q:VK)(E:XK):Prop
 | mk (z:Str) (m:Int) (h1:x=.str z) (h2:y=.int m) (h3:Zq z) (h4:z.length<=1000) (h5:∀n,rdW z m=some n->∀H',Same H H'->Q (.int n) H') (h6:rdW z m=none->∀H',Same H H'->E (.ref C) none H'):φwr K C x y H Q E
theorem Kc (T:Tx w K mg t)(F:Fun K "whole_read" "whole_read" ZL f fd)(dJ:Cal P w K mg base 1 "is_written_whole" ["text"] (Sp1M (φiw K))):FnOk P w K mg base (CXn P w) 2 f fd ["text","most"] (Rp2 (φwr K t.aG)):=by
 refine F.okN sc_whole_read RY (λcdv A outer s H vs Q E hr h=>?_);obtain⟨_,_,rfl,z,m,rfl,rfl,ha,hl,q1,q2⟩:=h;refine⟨_,((Qc (Qy (Xp (Zu (Qt dJ (hrm hr) rfl (Qa (pu 0) Qb)))) (Qf (ZM XZ rfl rfl T.aW T.bB PySem.F.excBase_ValueError (by decide +kernel) PySem.F.excBase_ValueError (Qa Qn Qb))) Qo)
   (Qc (Qw (i:=2) sc_whole_read.nd rfl (Or.inl rfl) (QE NN (by rfl) T.gF boot_int (Qa (pu 0) Qb)))
   (Qc (Qy (Qj YZ (pu 2) (pu 1) (Qk _)) (Qf (ZM XZ rfl rfl T.aW T.bB PySem.F.excBase_ValueError (by decide +kernel) PySem.F.excBase_ValueError (Qa Qn Qb))) Qo)
   (Qf (Ql (pu 2))))))),?_⟩
 walk_at "go";refine⟨z,rfl,ha,hl,λH1 g1=>?_⟩;walk_at "go";refine Qz (λc=>?_) (λc=>?_)
 ·refine⟨by decide,q2 ?_ _ g1⟩;unfold rdW;rw[FC (λh=>by rw[c] at h;exact absurd h.1 (by decide))]
 have c:=eq_true_of_ne_false c;obtain⟨hi,l10⟩:=Bl c;refine⟨z,_,rfl,hi,by omega,?_⟩;walk_at "go";refine Qz (λc2=>?_) (λc2=>?_)
 ·refine⟨by decide,q2 ?_ _ g1⟩;unfold rdW;rw[FC (λh=>by have:=h.2;omega)]
 ·refine q1 _ ?_ _ g1;unfold rdW;rw[FD ⟨c,by omega⟩]
inductive φnr (K:W.Frag)(C:Addr)(x:V)(H:Hp)(Q:VK)(E:XK):Prop
 | mk (z:Str) (h1:x=.str z) (h3:Zq z) (h4:z.length<=1000) (h5:Vj (.str z)=true->∀H',Same H H'->Q (.str z) H') (h6:Vj (.str z)=false->∀H',Same H H'->E (.ref C) none H'):φnr K C x H Q E
theorem K9 (T:Tx w K mg t)(F:Fun K "name_read" "name_read" Z4 f fd)(dM:Cal P w K mg base 1 "is_name" ["thing"] (Sp1M (φisn K))):FnOk P w K mg base (CXn P w) 2 f fd ["text"] (Rp1 (φnr K t.aG)):=by
 refine F.okN KQ GZ (λcdv A outer s H vs Q E hr h=>?_);obtain⟨_,rfl,z,rfl,ha,hl,q1,q2⟩:=h;refine⟨_,((Qc (Qy (Xp (Zu (Qt dM (hrm hr) rfl (Qa (pu 0) Qb)))) (Qf (ZM XZ rfl rfl T.aW T.bB PySem.F.excBase_ValueError (by decide +kernel) PySem.F.excBase_ValueError (Qa Qn Qb))) Qo)
   (Qf (Ql (pu 0))))),?_⟩
 walk_at "go";refine⟨.str z ha hl,λH1 g1=>?_⟩;walk_at "go";refine Qz (λc=>⟨by decide,q2 c _ g1⟩) (λc=>?_);exact q1 (eq_true_of_ne_false c) _ g1
theorem Zc (a b:Str):(a++b).length=a.length+b.length:=by
 show(a.cps++b.cps).size=_;rw[Array.size_append];rfl
def sla:Str:=⟨#[47]⟩
theorem N3:Str.ofString "/"=sla:=by decide +kernel
def rdR (z:Str):Option (Int×Int):=if 47∈z.cps.toList then
  match rdW (Txt.partition z sla).1 9999,rdW (Txt.partition z sla).2.2 9999 with
  | some a,some b=>if b<2∨¬(Int.gcd a b:Int)=1 then none else some (a,b)
  | _,_=>none
 else(rdW z 9999).map λa=>(a,1)
theorem N2 {j c:Nat}(h:c∈(Builtin.Str.strSub z i j).cps.toList):c∈z.cps.toList:=by
 unfold Builtin.Str.strSub at h;have h:c∈(z.cps.extract i j).toList:=h;rw[Array.toList_extract] at h;exact List.mem_of_mem_drop (List.mem_of_mem_take h)
theorem N1 {j:Nat}:(Builtin.Str.strSub z i j).length<=z.length:=by
 unfold Builtin.Str.strSub;show(z.cps.extract i j).size<=z.cps.size;rw[Array.size_extract];omega
theorem Lb {y:Str}(h:Zq z)(s:∀c∈y.cps.toList,c∈z.cps.toList):Zq y:=by
 show (y.cps.all fun x=>decide (x<128))=true;rw [<-Array.all_toList,Ex];intro c hc;have h:(z.cps.all fun x=>decide (x<128))=true:=h;rw [<-Array.all_toList,Ex] at h;exact h c (s c hc)
theorem BI:Zq Str.empty:=by show _=true;decide +kernel
theorem L4 (h:Zq z):Zq (Txt.partition z sla).1/\Zq (Txt.partition z sla).2.2/\(Txt.partition z sla).1.length<=z.length/\(Txt.partition z sla).2.2.length<=z.length/\((Txt.partition z sla).2.1=if 47∈z.cps.toList then sla else Str.empty)/\(47∉z.cps.toList->(Txt.partition z sla).1=z):=by
 have f:=StrLaws.found_one z 47;have f:(!(Builtin.Str.occurrences z sla 0 z.length 1).isEmpty)=decide (47∈z.cps.toList):=f;unfold Txt.partition;cases e:Builtin.Str.occurrences z sla 0 z.length 1 with
 | nil=>
  rw[e] at f;have nm:47∉z.cps.toList:=by simpa using f.symm
  exact⟨h,BI,FE _,F7 _,by rw[FC nm],λ_=>rfl⟩
 | cons i r=>
  rw[e] at f;have mm:47∈z.cps.toList:=by simpa using f.symm
  exact⟨Lb h λc hc=>N2 hc,Lb h λc hc=>N2 hc,N1,N1,by rw[FD mm],λn=>absurd mm n⟩
inductive φrr (K:W.Frag)(C:Addr)(x:V)(H:Hp)(Q:VK)(E:XK):Prop
 | mk (z:Str) (h1:x=.str z) (h3:Zq z) (h4:z.length<=1000) (h5:∀a b,rdR z=some (a,b)->∀p H',Same H H'->H' p=some (.tup [.int a,.int b])->Q (.ref p) H') (h6:rdR z=none->∀H',Same H H'->E (.ref C) none H'):φrr K C x H Q E
theorem N6 {m n:Int}(h:rdW z m=some n):0<=n/\n<=m:=by
 unfold rdW at h;split at h
 ·rename_i c;have e:=FX h;rw [<-e];exact ⟨Int.natCast_nonneg _,c.2⟩
 ·cases h
theorem K7 (T:Tx w K mg t)(F:Fun K "rate_read" "rate_read" Z2 f fd)(dN:Cal P w K mg base 1 "common_divisor" ["one","other"] (Sp2M φgcd))(aX:Wx P w K mg base 2 "whole_read" ["text","most"] (Rp2M (φwr K t.aG))):FnOk P w K mg base (CXn P w) 3 f fd ["text"] (Rp1 (φrr K t.aG)):=by
 refine F.okN sc_rate_read GZ (λcdv A outer s H vs Q E hr h=>?_);obtain⟨_,rfl,z,rfl,ha,hl,q1,q2⟩:=h;obtain⟨pa,pb,la,lb,_,_⟩:=L4 ha;refine⟨_,((Qc (Qy (Qj (XD K rfl) Qn (pu 0) (by with_unfolding_all rfl)) (Qf (Ql (QU (Qa (ZD aX (hrm hr) rfl (Yt λ_ _ h=>h) (Qa (pu 0) (Qa (XT T.bY) Qb))) (Qa Qd Qb))))) Qo)
   (Qc (Qw (i:=1) sc_rate_read.nd rfl (Or.inl rfl) (QQ K rfl PySem.F.plainAttrs_str PySem.F.slot_str_partition PySem.F.type_str_partition Ve (pu 0) (Qa Qn Qb)))
   (Qc (Qw (i:=2) sc_rate_read.nd rfl (Or.inl rfl) (ZD aX (hrm hr) rfl (Yt λ_ _ h=>h) (Qa (Qp (ixK K rfl) (pu 1) Qd (λ_ _=>rfl)) (Qa (XT T.bY) Qb))))
   (Qc (Qw (i:=3) sc_rate_read.nd rfl (Or.inl rfl) (ZD aX (hrm hr) rfl (Yt λ_ _ h=>h) (Qa (Qp (ixK K rfl) (pu 1) Qd (λ_ _=>rfl)) (Qa (XT T.bY) Qb))))
   (Qc (Qy (PW.pt (Xo (Qj Xr (pu 3) Qd (Qk _)) (Xd (Qj (neM K rfl hr.units) (Qt dN (hrm hr) rfl (Qa (pu 2) (Qa (pu 3) Qb))) Qd (Qk _))))) (Qf (ZM XZ rfl rfl T.aW T.bB PySem.F.excBase_ValueError (by decide +kernel) PySem.F.excBase_ValueError (Qa Qn Qb))) Qo)
   (Qf (Ql (QU (Qa (pu 2) (Qa (pu 3) Qb))))))))))),?_⟩
 walk_at "go";refine .inr ⟨_,_,rfl,rfl,?_⟩;rw[N3];have f:(!(Builtin.Str.occurrences z sla 0 z.length 1).isEmpty)=decide (47∈z.cps.toList):=StrLaws.found_one z 47;rw[f];show asBl (V.bl (!decide (47∈z.cps.toList))) _;walk_at "go";by_cases hs:47∈z.cps.toList
 ·rw[FC (λh=>h hs)];refine⟨by trivial,z,sla,rfl,rfl,by decide,Zw hl,λp hp=>?_⟩;have rr:rdR z=match rdW (Txt.partition z sla).1 9999,rdW (Txt.partition z sla).2.2 9999 with
    | some a,some b=>if b<2∨¬(Int.gcd a b:Int)=1 then none else some (a,b)
    | _,_=>none:=by unfold rdR;rw[FD hs]
  generalize (Txt.partition z sla).1=za at *;generalize (Txt.partition z sla).2.1=zs at *;generalize (Txt.partition z sla).2.2=zb at *;have g1:=Qg hp (.tup [.str za,.str zs,.str zb]);have hT:SqT K (upd H p (.tup [.str za,.str zs,.str zb])) p [.str za,.str zs,.str zb]:=SqT.of Qe;generalize upd H p (.tup [.str za,.str zs,.str zb])=H1 at *;refine ZE hT rfl ⟨za,9999,rfl,rfl,pa,by omega,λa ea H2 g2=>?_,λen H2 g2=>q2 (by rw[rr,en]) _ (g1.trans g2)⟩;refine ZE (g2.sqT hT) rfl ⟨zb,9999,rfl,rfl,pb,by omega,λb eb H3 g3=>?_,λen H3 g3=>q2 (by rw[rr,ea,en]) _ (g1.trans (g2.trans g3))⟩;have g13:=g1.trans (g2.trans g3);rw[ea,eb] at rr;have rr:rdR z=if b<2∨¬(Int.gcd a b:Int)=1 then none else some (a,b):=rr
  walk_at "go";refine Qz (λc=>⟨by decide,q2 (by rw[rr,FD (.inl c)]) _ g13⟩) (λc=>?_);refine⟨a,b,rfl,rfl,(N6 ea).1,(N6 eb).1,?_⟩;walk_at "go";refine Qz (λc2=>⟨by decide,q2 (by rw[rr,FD (.inr c2)]) _ g13⟩) (λc2=>⟨by decide,λp4 hp4=>?_⟩);exact q1 a b (by rw[rr,FC (λh=>h.elim c c2)]) p4 _ (g13.trans (Qg hp4 _)) Qe
 ·rw[FD hs];have rr:rdR z=(rdW z 9999).map λa=>(a,1):=by unfold rdR;rw[FC hs]
  refine⟨z,9999,rfl,rfl,ha,hl,λa ea H2 g2=>⟨by decide,λp hp=>?_⟩,λen H2 g2=>q2 (by rw[rr,en];rfl) _ g2⟩;exact q1 a 1 (by rw[rr,ea];rfl) p _ (g2.trans (Qg hp _)) Qe
def ZI (t b:Int):Str:=if b=1 then Str.ofString (toString t) else Str.ofString (toString t)++sla++Str.ofString (toString b)
theorem Lr {m:Int}(h:m.natAbs<10 ^ 61):(Str.ofString (toString m)).length<=100:=by
 have e:=PySem.int_text_length_le10 (a:=m) (k:=61) (by decide) h;rw[PySem.ofString_length];omega
theorem Fe {m:Int}(h:m.natAbs<10 ^ 61):m.natAbs.log2<1920:=by
 by_cases hz:m.natAbs=0
 ·rw[hz];decide
 ·exact FW ((Nat.log2_lt hz).mpr (show m.natAbs<2 ^ 204 by omega)) (by decide)
theorem Sa {i:Int}(hz:z.length<=1000)(h0:0<=i)(h1:i<z.length)(q:∀c∈z.cps.toList,Q (.str ⟨#[c]⟩) H):rIx K (.str z) (.int i) H Q:=by
 obtain⟨n,rfl⟩:=Ez h0;have hn:n<z.cps.toList.length:=by
  have:z.cps.toList.length=z.length:=by simp[Str.length]
  omega
 exact .inr (.inr ⟨z,n,z.cps.toList[n],rfl,rfl,Zw hz,QW (by simp[hn]),q _ (List.getElem_mem hn)⟩)
theorem YG {n:Int}(h:0<=n):∀c∈(Str.ofString (toString n)).cps.toList,48<=c/\c<=57:=by
 obtain ⟨m,rfl⟩:=Ez h;intro c hc;rw [W.KIN.signs_num] at hc;obtain ⟨ch,hch,e⟩:=EB.mp hc;have r:=PyProof.Rows.digit_range (Nat.isDigit_of_mem_toDigits (by decide) (by decide) hch);rw [<-e];exact r
theorem GO (h:∀c∈z.cps.toList,c<128):Zq z:=by
 show (z.cps.all fun x=>decide (x<128))=true;rw [<-Array.all_toList,Ex];intro c hc;exact Ef (h c hc)
theorem Jh {n:Int}(h:0<=n):Zq (Str.ofString (toString n)):=GO λc hc=>by have:=YG h c hc;omega
theorem GP {a b:Str}(h:Zq a)(h':Zq b):Zq (a++b):=by
 show ((a.cps++b.cps).all fun x=>decide (x<128))=true;rw [<-Array.all_toList,Array.toList_append,List.all_append,Array.all_toList,Array.all_toList];have h:(a.cps.all fun x=>decide (x<128))=true:=h;have h':(b.cps.all fun x=>decide (x<128))=true:=h';rw [h,h'];rfl
theorem BH:Zq sla:=by show _=true;decide +kernel
theorem len_num {n:Int}(h:0<=n)(h':n<1000000000000000):(Str.ofString (toString n)).length<=100:=Lr (by omega)
theorem Yv {n:Int}(h:0<=n)(h':n<1000000000000000):n.natAbs.log2<1920:=Fe (by omega)
theorem VR (s sub:Str)(hi:Nat):∀(l:List Nat) (st:Array Nat×Nat),1<=st.1.size->(forIn l st (StrLaws.occBody s sub hi 1)).run.fst=st.1
 | [],st,h=>rfl
 | a::l,st,h=>by
  rw[List.forIn_cons];unfold StrLaws.occBody;rw[FC (λc=>by have:=c.1.1.1;omega)];exact VR s sub hi l _ h
theorem Km (s sub:Str)(hi:Nat):∀(l:List Nat) (free:Nat),(∀i∈l,free<=i)->(forIn l ((#[]:Array Nat),free) (StrLaws.occBody s sub hi 1)).run.fst.toList=(l.find? λi=>decide (i+sub.length<=hi)&&Builtin.Str.subAt s sub i).toList
 | [],free,_=>rfl
 | a::l,free,hf=>by
  rw[List.forIn_cons];have ha:free<=a:=hf a Eb;by_cases hc:a+sub.length<=hi/\Builtin.Str.subAt s sub a=true
  ·rw[List.find?_cons_of_pos (by rw[Ew,EW];exact hc)];have:StrLaws.occBody s sub hi 1 a ((#[]:Array Nat),free)=pure (ForInStep.yield ((#[]:Array Nat).push a,a+sub.length)):=by
    unfold StrLaws.occBody;rw[FD ⟨⟨⟨by simp,ha⟩,hc.1⟩,hc.2⟩]
   rw[this];show(forIn l ((#[]:Array Nat).push a,a+sub.length) (StrLaws.occBody s sub hi 1)).run.fst.toList=[a];rw[VR s sub hi l _ (by simp)];rfl
  ·rw[List.find?_cons_of_neg (by rw[Ew,EW];exact hc)];have:StrLaws.occBody s sub hi 1 a ((#[]:Array Nat),free)=pure (ForInStep.yield ((#[]:Array Nat),free)):=by
    unfold StrLaws.occBody;rw[FC (λh=>hc ⟨h.1.2,h.2⟩)]
   rw[this];exact Km s sub hi l free λi hi'=>hf i (F5 _ hi')
theorem Mo {a b:Str}(h:47∉a.cps.toList):Txt.partition (a++sla++b) sla=(a,sla,b):=by
 have e:Builtin.Str.occurrences (a++sla++b) sla 0 (a++sla++b).length 1=[a.length]:=by
  rw[StrLaws.occ_eq,Km _ _ _ _ _ (λ_ _=>F7 _)];have lt:(a++sla++b).cps.toList=a.cps.toList++47::b.cps.toList:=by
   show((a.cps++sla.cps)++b.cps).toList=_;rw[Array.toList_append,Array.toList_append,List.append_assoc];rfl
  have la:a.cps.toList.length=a.length:=Array.length_toList;have ll:(a++sla++b).length=a.length+1+b.length:=by rw[Zc,Zc];rfl
  have iff:∀i:Nat,(decide (i+sla.length<=(a++sla++b).length)&&Builtin.Str.subAt (a++sla++b) sla i)=true↔(a++sla++b).cps.toList[i]?=some 47:=λi=>by
   rw[Ew,EW];exact StrLaws.subAt_one _ 47 i
  have:(List.range' 0 ((a++sla++b).length+1-0)).find? (λi=>decide (i+sla.length<=(a++sla++b).length)&&Builtin.Str.subAt (a++sla++b) sla i)=some a.length:=by
   rw[List.find?_eq_some_iff_getElem];refine⟨(iff _).mpr ?_,a.length,by rw[List.length_range'];omega,by rw[List.getElem_range'];omega,λj hj=>?_⟩
   ·rw[lt,Em (by omega),la,Es];rfl
   ·rw[List.getElem_range',E9,FL];intro h;have:=(iff _).mp h;rw[lt,En (by omega)] at this;exact absurd (EE this) ‹47∉a.cps.toList›
  rw[this];rfl
 unfold Txt.partition;rw[e];show(Builtin.Str.strSub (a++sla++b) 0 a.length,sla,Builtin.Str.strSub (a++sla++b) (a.length+sla.length) (a++sla++b).length)=_;have eq:∀{x y:Str},x.cps.toList=y.cps.toList->x=y:=λ{x y} h=>by
  obtain⟨xs⟩:=x;obtain⟨ys⟩:=y
  congr 1
  exact Array.toList_inj.mp h
 have lt:(a++sla++b).cps.toList=a.cps.toList++47::b.cps.toList:=by
  show((a.cps++sla.cps)++b.cps).toList=_;rw[Array.toList_append,Array.toList_append,List.append_assoc];rfl
 have la:a.cps.toList.length=a.length:=Array.length_toList;have lb:b.cps.toList.length=b.length:=Array.length_toList;have ll:(a++sla++b).length=a.length+1+b.length:=by rw[Zc,Zc];rfl
 have e1:Builtin.Str.strSub (a++sla++b) 0 a.length=a:=eq (by
  show((a++sla++b).cps.extract 0 a.length).toList=_;rw[Array.toList_extract,lt];show((a.cps.toList++47::b.cps.toList).drop 0).take (a.length-0)=_;rw[List.drop_zero,Nat.sub_zero,<-la,List.take_left])
 have e2:Builtin.Str.strSub (a++sla++b) (a.length+sla.length) (a++sla++b).length=b:=eq (by
  show ((a++sla++b).cps.extract (a.length+1) (a++sla++b).length).toList=_;rw [Array.toList_extract,lt,ll];show ((a.cps.toList++47 :: b.cps.toList).drop (a.length+1)).take (a.length+1+b.length-(a.length+1))=_;rw [<-la,List.drop_append,List.drop_eq_nil_of_le (by omega),List.nil_append,Nat.add_sub_cancel_left,Nat.add_sub_cancel_left];show (b.cps.toList).take b.length=_;rw [<-lb,List.take_length])
 rw[e1,e2]
theorem MZ:∀(m:Nat),0<m->(Nat.toDigits 10 m).head?≠some '0':=by
 intro m
 induction m using Nat.strongRecOn with
 | _ m ih=>
  intro h0;by_cases h:m<10
  ·rw[Nat.toDigits_of_lt_base h];intro e;have e:=FX e;have:∀d:Nat,d<10->0<d->Nat.digitChar d≠'0':=by decide
   exact this m h h0 e
  ·have hm:m % 10<10:=Nat.mod_lt m (by decide);have t:Nat.toDigits 10 (m / 10)++Nat.toDigits 10 (m % 10)=Nat.toDigits 10 (10*(m / 10)+m % 10):=Nat.toDigits_append_toDigits (by decide) (by omega) hm;rw [Nat.div_add_mod] at t;rw [<-t];have ne:Nat.toDigits 10 (m / 10)≠[]:=fun e=>by
    have h:=W.KIN.val_back (m / 10);rw[e] at h;have:m / 10=0:=h.symm;omega
   have ih':=ih (m / 10) (by omega) (by omega);cases e:Nat.toDigits 10 (m / 10) with
   | nil=>exact absurd e ne
   | cons x r=>rw[e] at ih';exact ih'
theorem Bc {n:Int}(h0:0<=n)(h1:n<=1000000000):isW (Str.ofString (toString n))=true/\vl (Str.ofString (toString n))=n:=by
 have sg:=YG h0;have rd:=W.KIN.num_reads h0 (by omega);obtain⟨m,rfl⟩:=Ez h0;have cs:=W.KIN.signs_num m;have hll:(Str.ofString (toString ((m:Nat):Int))).cps.toList.length=(Str.ofString (toString ((m:Nat):Int))).length:=Array.length_toList;have l10:=W.KT.len_num (n:=((m:Nat):Int)) h0 (by omega);have ne:(Str.ofString (toString ((m:Nat):Int))).cps.toList≠[]:=by
  rw[cs];intro e;have h:=PySem.toDigits_len_ge 10 m;rw[List.map_eq_nil_iff.mp e] at h;exact absurd h (by decide)
 have rd2:=intText_digits (x:=Str.ofString (toString ((m:Nat):Int))) sg ne (F2 l10 (by decide));rw [rd] at rd2;have ev:vl (Str.ofString (toString ((m:Nat):Int)))=m:=(FX rd2).symm;refine ⟨?_,ev⟩;have l1:1<=(Str.ofString (toString ((m:Nat):Int))).length:=by rw [<-hll];exact List.length_pos_iff.mpr ne
 unfold isW;rw[Ef l1,Ef (p:=(Str.ofString (toString ((m:Nat):Int))).length<=10) l10,Bool.true_and,Bool.true_and,Ew];refine⟨?_,Ex.mpr λc hc=>by unfold dig;have:=sg c hc;simp;omega⟩;by_cases hm:m=0
 ·subst hm;have:Str.ofString (toString (((0:Nat):Nat):Int))=zero:=by decide +kernel
  rw[this,Ef rfl];simp
 ·have hh:=MZ m (by omega);have:(Str.ofString (toString ((m:Nat):Int))).cps.toList.head?≠some 48:=by
   rw[cs];cases e:Nat.toDigits 10 m with
   | nil=>simp
   | cons x r=>
    rw[e] at hh;intro h;have h:x.toNat=48:=FX h;refine hh ?_;have:x='0':=Char.toNat_inj.mp h;rw[this];rfl
  rw[F1 this];rfl
theorem Wh {n:Int}(h0:0<=n){m:Int}(h1:n<=m)(h2:m<=1000000000):rdW (Str.ofString (toString n)) m=some n:=by
 obtain⟨a,b⟩:=Bc h0 (by omega);unfold rdW;rw[FD ⟨a,by rw[b];exact h1⟩,b]
theorem Mu {n:Int}(h0:0<=n):47∉(Str.ofString (toString n)).cps.toList:=λh=>by have:=YG h0 47 h;omega
theorem Uy {a b:Int}(ha:0<=a)(ha':a<=9999)(hb:1<=b)(hb':b<=9999)(hg:Int.gcd a b=1):rdR (ZI a b)=some (a,b):=by
 unfold ZI;by_cases h1:b=1
 ·rw[FD h1];unfold rdR;rw[FC (Mu ha),Wh ha ha' (by decide),h1];rfl
 ·rw[FC h1];unfold rdR;have mem:47∈(Str.ofString (toString a)++sla++Str.ofString (toString b)).cps.toList:=by
   show 47∈(((Str.ofString (toString a)).cps++sla.cps)++(Str.ofString (toString b)).cps).toList;rw[Array.toList_append,Array.toList_append];exact EF _ (Eo _ (by decide))
  rw[FD mem,Mo (Mu ha)];show(match rdW (Str.ofString (toString a)) 9999,rdW (Str.ofString (toString b)) 9999 with
   | some a,some b=>if b<2∨¬(Int.gcd a b:Int)=1 then none else some (a,b)
   | _,_=>none)=some (a,b)
  rw[Wh ha ha' (by decide),Wh (by omega) hb' (by decide)];show(if b<2∨¬(Int.gcd a b:Int)=1 then none else some (a,b))=some (a,b);rw[FC (λh=>h.elim (λh=>by omega) (λh=>h (by rw[hg];rfl)))]
theorem NO {a b:Int}(ha:0<=a)(hb:1<=b):Zq (ZI a b):=by
 unfold ZI;split
 ·exact Jh ha
 ·exact GP (GP (Jh ha) BH) (Jh (by omega))
def Vf (z:Str):Int:=if z=Str.ofString "LOW"∨z=Str.ofString "HIGH" then 150 else if z=Str.ofString "MANY" then 60 else 1000000000
inductive φmost (K:W.Frag)(x:V)(H:Hp)(Q:VK):Prop
 | mk (z:Str) (h1:x=.str z) (h2:Q (.int (Vf z)) H):φmost K x H Q
theorem Sq (xs:List Str){H:Hp}{Q:VK}(h:SqT K H p (xs.map V.str))(q:Q (.bl (decide (z∈xs))) H):G2 K false (.str z) (.ref p) H Q:=
 .inl ⟨p,_,rfl,.inr h,rfl,WS xs,by rw[Jd];exact q⟩
theorem NQ (xs:List Str){H:Hp}{Q:VK}(h:SqT K H p (xs.map V.str))(q:Q (.bl (!decide (z∈xs))) H):G2 K true (.str z) (.ref p) H Q:=
 .inl ⟨p,_,rfl,.inr h,rfl,WS xs,by rw[Jd];exact q⟩
theorem UI (T:Tx w K mg t)(F:Fun K "most_of" "most_of" XG f fd):FnOk P w K mg base CX0 1 f fd ["sort"] (Sp1 (φmost K)):=by
 refine F.ok UA YT (λcdv A outer s H vs Q E hr h=>?_);obtain⟨_,rfl,z,rfl,q⟩:=h;refine⟨_,((Qc (Qy (Qj (inK K rfl) (pu 0) (Hf T.bR) (by with_unfolding_all rfl)) (Qf (Ql (XT T.gP))) Qo)
   (Qf (Ql (Jw (Qj (eqM K rfl hr.units) (pu 0) Qn (Qk _)) (XT T.gS) (XT T.cU)))))),?_⟩
 walk_at "go";refine Sq [Str.ofString "LOW",Str.ofString "HIGH"] (T.bR.s H) ?_;walk_at "go";unfold Vf at q;refine Qz (λc=>?_) (λc=>?_)
 ·rw[FD (by simpa using c)] at q;exact q
 ·rw[FC (by simpa using c)] at q;refine Qz (λc=>?_) (λc=>?_)
  ·rw[FD c] at q;exact q
  ·rw[FC c] at q;exact q
def rdU (z:Str):Option Int:=match rdW z 1000000000 with
 | some n=>if n=0 then none else some n
 | none=>none
inductive φur (K:W.Frag)(C:Addr)(x:V)(H:Hp)(Q:VK)(E:XK):Prop
 | mk (z:Str) (h1:x=.str z) (h3:Zq z) (h4:z.length<=1000) (h5:∀n,rdU z=some n->∀H',Same H H'->Q (.int n) H') (h6:rdU z=none->∀H',Same H H'->E (.ref C) none H'):φur K C x H Q E
theorem K6 (T:Tx w K mg t)(F:Fun K "unit_read" "unit_read" Z1 f fd)(aX:Wx P w K mg base 2 "whole_read" ["text","most"] (Rp2M (φwr K t.aG))):FnOk P w K mg base (CXn P w) 3 f fd ["word"] (Rp1 (φur K t.aG)):=by
 refine F.okN sc_unit_read GZ (λcdv A outer s H vs Q E hr h=>?_);obtain⟨_,rfl,z,rfl,ha,hl,q1,q2⟩:=h;refine⟨_,((Qc (Qw (i:=1) sc_unit_read.nd rfl (Or.inl rfl) (ZD aX (hrm hr) rfl (Yt λ_ _ h=>h) (Qa (pu 0) (Qa (XT T.cU) Qb))))
   (Qc (Qy (Qj (eqM K rfl hr.units) (pu 1) Qd (Qk _)) (Qf (ZM XZ rfl rfl T.aW T.bB PySem.F.excBase_ValueError (by decide +kernel) PySem.F.excBase_ValueError (Qa Qn Qb))) Qo)
   (Qf (Ql (pu 1)))))),?_⟩
 walk_at "go";refine⟨z,1000000000,rfl,rfl,ha,hl,λn en H1 g1=>?_,λen H1 g1=>q2 (by unfold rdU;rw[en]) _ g1⟩;walk_at "go";refine Qz (λc=>⟨by decide,q2 (by unfold rdU;rw[en];exact FD c) _ g1⟩) (λc=>q1 n (by unfold rdU;rw[en];exact FC c) _ g1)
def JI (z:Str):Bool:=decide (z∈[Str.ofString "down",Str.ofString "up",Str.ofString "near"])
inductive φwy (K:W.Frag)(C:Addr)(x:V)(H:Hp)(Q:VK)(E:XK):Prop
 | mk (z:Str) (h1:x=.str z) (h5:JI z=true->Q (.str z) H) (h6:JI z=false->E (.ref C) none H):φwy K C x H Q E
theorem VN (T:Tx w K mg t)(F:Fun K "way_read" "way_read" Xk f fd):FnOk P w K mg base (CXn P w) 1 f fd ["word"] (Rp1 (φwy K t.aG)):=by
 refine F.okN VF GZ (λcdv A outer s H vs Q E hr h=>?_);obtain⟨_,rfl,z,rfl,q1,q2⟩:=h;refine⟨_,((Qc (Qy (Qj (XD K rfl) (pu 0) (Hf T.bS) (by with_unfolding_all rfl)) (Qf (ZM XZ rfl rfl T.aW T.bB PySem.F.excBase_ValueError (by decide +kernel) PySem.F.excBase_ValueError (Qa Qn Qb))) Qo)
   (Qf (Ql (pu 0))))),?_⟩
 walk_at "go";refine NQ [Str.ofString "down",Str.ofString "up",Str.ofString "near"] (T.bS.s H) ?_;walk_at "go";refine Qz (λc=>⟨by decide,q2 (F1 c)⟩) (λc=>q1 (Ef (Classical.not_not.mp c)))
def rdS (s z:Str):Option D:=
 if s=Str.ofString "NAME" then(if Vj (.str z)=true then some (.str z) else none) else
 if s=Str.ofString "RATE" then(rdR z).map λp=>fr p.1 p.2 else
 if s=Str.ofString "UNIT" then(rdU z).map D.int else
 if s=Str.ofString "WAY" then(if JI z=true then some (.str z) else none) else(rdW z (Vf s)).map D.int
inductive Pv (K:W.Frag)(H:Hp):D->V->Prop
 | int (i:Int):Pv K H (.int i) (.int i)
 | str (z:Str):Pv K H (.str z) (.str z)
 | rt (r s:Int) (p:Addr) (h:SqT K H p [.int r,.int s]):Pv K H (fr r s) (.ref p)
theorem Pv.mono (g:Same H H'){d:D}{v:V}(h:Pv K H d v):Pv K H' d v:=by
 cases h with
 | int i=>exact .int i
 | str z=>exact .str z
 | rt r s p h=>exact .rt r s p (g.sqT h)
inductive φword (K:W.Frag)(C:Addr)(x y:V)(H:Hp)(Q:VK)(E:XK):Prop
 | mk (s z:Str) (h1:x=.str s) (h2:y=.str z) (h3:Zq z) (h4:z.length<=1000) (h5:∀d,rdS s z=some d->∀v H',Same H H'->Pv K H' d v->Q v H') (h6:rdS s z=none->∀H',Same H H'->E (.ref C) none H'):φword K C x y H Q E
theorem K4 (T:Tx w K mg t)(F:Fun K "word_read" "word_read" ZZ f fd)(aX:Wx P w K mg base 2 "whole_read" ["text","most"] (Rp2M (φwr K t.aG)))(dO:Cal P w K mg base 1 "most_of" ["sort"] (Sp1M (φmost K)))(dP:Wx P w K mg base 1 "way_read" ["word"] (Rp1M (φwy K t.aG)))(dQ:Wx P w K mg base 3 "unit_read" ["word"] (Rp1M (φur K t.aG)))(dR:Wx P w K mg base 3 "rate_read" ["text"] (Rp1M (φrr K t.aG)))(dS:Wx P w K mg base 2 "name_read" ["text"] (Rp1M (φnr K t.aG))):FnOk P w K mg base (CXn P w) 4 f fd ["sort","word"] (Rp2 (φword K t.aG)):=by
 refine F.okN KP RY (λcdv A outer s H vs Q E hr h=>?_);obtain⟨_,_,rfl,s',z,rfl,rfl,ha,hl,q1,q2⟩:=h;refine⟨_,((Qc (Qy (Qj (eqM K rfl hr.units) (pu 0) Qn (Qk _)) (Qf (Ql (ZD dS (hrm hr) rfl (Yt λ_ _ h=>h) (Qa (pu 1) Qb)))) Qo)
   (Qc (Qy (Qj (eqM K rfl hr.units) (pu 0) Qn (Qk _)) (Qf (Ql (ZD dR (hrm hr) rfl (Yt λ_ _ h=>h) (Qa (pu 1) Qb)))) Qo)
   (Qc (Qy (Qj (eqM K rfl hr.units) (pu 0) Qn (Qk _)) (Qf (Ql (ZD dQ (hrm hr) rfl (Yt λ_ _ h=>h) (Qa (pu 1) Qb)))) Qo)
   (Qc (Qy (Qj (eqM K rfl hr.units) (pu 0) Qn (Qk _)) (Qf (Ql (ZD dP (hrm hr) rfl (Yt λ_ _ h=>h) (Qa (pu 1) Qb)))) Qo)
   (Qf (Ql (ZD aX (hrm hr) rfl (Yt λ_ _ h=>h) (Qa (pu 1) (Qa (Qt dO (hrm hr) rfl (Qa (pu 0) Qb)) Qb)))))))))),?_⟩
 unfold rdS at q1 q2;walk_at "go";refine Qz (λc=>?_) (λc=>?_)
 ·rw[FD c] at q1 q2;refine⟨z,rfl,ha,hl,λe H1 g1=>q1 _ (FD e) _ _ g1 (.str z),λe H1 g1=>q2 (FC (by rw[e];decide)) _ g1⟩
 rw[FC c] at q1 q2;refine Qz (λc=>?_) (λc=>?_)
 ·rw[FD c] at q1 q2;refine⟨z,rfl,ha,hl,λa b e p H1 g1 hp=>q1 _ (by rw[e];rfl) _ _ g1 (.rt _ _ _ (SqT.of hp)),λe H1 g1=>q2 (by rw[e];rfl) _ g1⟩
 rw[FC c] at q1 q2;refine Qz (λc=>?_) (λc=>?_)
 ·rw[FD c] at q1 q2;refine⟨z,rfl,ha,hl,λn e H1 g1=>q1 _ (by rw[e];rfl) _ _ g1 (.int n),λe H1 g1=>q2 (by rw[e];rfl) _ g1⟩
 rw[FC c] at q1 q2;refine Qz (λc=>?_) (λc=>?_)
 ·rw[FD c] at q1 q2;refine⟨z,rfl,λe=>q1 _ (FD e) _ _ (Same.refl _) (.str z),λe=>q2 (FC (by rw[e];decide)) _ (Same.refl _)⟩
 rw[FC c] at q1 q2;refine⟨s',rfl,?_⟩;walk_at "go";exact⟨z,_,rfl,rfl,ha,hl,λn e H1 g1=>q1 _ (by rw[e];rfl) _ _ g1 (.int n),λe H1 g1=>q2 (by rw[e];rfl) _ g1⟩
def blank:Str:=⟨#[32]⟩
theorem XX:Str.ofString " "=blank:=by decide +kernel
inductive φwords (K:W.Frag)(x y:V)(H:Hp)(Q:VK)(E:XK):Prop
 | mk (f:Str) (a:Addr) (ws ss:List Str) (ds:List D) (h1:x=.str f) (h2:y=.ref a) (h3:SqL K H a (ws.map V.str)) (h4:Txt.split f blank=ss) (h5:f.length<=1000) (h6:ss.length<=100) (h7:ws.length=ss.length) (h8:∀z∈ws,Zq z/\z.length<=1000)
   (h9:ds.length=ss.length) (h10:∀(i:Nat) s z d,ss[i]?=some s->ws[i]?=some z->ds[i]?=some d->rdS s z=some d) (h11:∀p vs H',Same H H'->H p=none->H' p=some (.lst vs)->All2 (Pv K H') ds vs->Q (.ref p) H'):φwords K x y H Q E
def WsI (K:W.Frag)(ds:List D)(H:Hp)(i:Nat)(acc:List V)(σ':L2.St)(H':Hp):Prop:=∃x0 x1,σ'=[x0,x1]/\Same H H'/\All2 (Pv K H') (ds.take i) acc
theorem KA {R R':α->V->Prop}{l:List α}{x:α}(h:All2 R (l.take i) vs)(hm:∀a b,R a b->R' a b)(hx:l[i]?=some x)(hv:R' x v):All2 R' (l.take (i+1)) (vs++[v]):=by
 have hi:i<l.length:=(FZ.mp hx).1;have e:l.take (i+1)=l.take i++[x]:=by rw[Et,hx];rfl
 have hl:=h.1;rw[Ep,Nat.min_eq_left (by omega)] at hl;refine⟨by rw[e,FF,FF,h.1];rfl,λj a b ha hb=>?_⟩;rw[e] at ha;by_cases hj:j<i
 ·rw[En (by rw[Ep,Nat.min_eq_left (by omega)];exact hj)] at ha;rw[En (by omega)] at hb;exact hm _ _ (h.2 j a b ha hb)
 ·have hjl:j<(vs++[v]).length:=(FZ.mp hb).1;rw[FF,FK] at hjl;have:j=i:=by omega
  subst this;rw[Em (by rw[Ep,Nat.min_eq_left (by omega)];exact FE _),Ep,Nat.min_eq_left (by omega),Es] at ha;rw[Em (by omega),<-hl,Es] at hb;cases ha;cases hb;exact hv
theorem Kb (T:Tx w K mg t)(F:Fun K "words_read" "words_read" ZK f fd)(dW:Wx P w K mg base 4 "word_read" ["sort","word"] (Rp2M (φword K t.aG))):FnOk P w K mg base (CXn P w) 5 f fd ["form","words"] (Rp2 (φwords K)):=by
 refine F.okN sc_words_read RY (λcdv A outer s H vs Q E hr h=>?_);obtain⟨_,_,rfl,f',a,ws,ss,ds,rfl,rfl,hw,hss,hf,hsl,hwl,hwz,hdl,hds,q⟩:=h;refine⟨_,((Qc (Qw (i:=2) sc_words_read.nd rfl (Or.inl rfl) (QQ K rfl PySem.F.plainAttrs_str PySem.F.slot_str_split PySem.F.type_str_split JC (pu 0) (Qa Qn Qb)))
   (Qc (Qy (Qj (neM K rfl hr.units) (Qs (Zr K rfl) (by rfl) T.aB FO (Qa (pu 1) Qb)) (Qs (Zr K rfl) (by rfl) T.aB FO (Qa (pu 2) Qb)) (Qk _)) (Qf (ZM XZ rfl rfl T.aW T.bB PySem.F.excBase_ValueError (by decide +kernel) PySem.F.excBase_ValueError (Qa Qn Qb))) Qo)
   (Qf (Ql (Jx (N:=["sort","word"]) (caps:=[none,none]) rfl W8 (Pk K rfl rfl T.gI (Qa (pu 2) (Qa (pu 1) Qb))) (λ_ _ _ _=>pgK (n:=2) K rfl rfl (QJ (QA (i:=0) (show(["sort","word"]:List Str).Nodup by decide +kernel) rfl (Or.inl rfl) (.inr rfl)) (QJ (QA (i:=1) (show(["sort","word"]:List Str).Nodup by decide +kernel) rfl (Or.inl rfl) (.inr rfl)) Xq))) (λ_ _ _ _=>Xh) (λ_ _ _ _=>(ZD dW (hrm hr) rfl Pq (Qa (pu 0) (Qa (pu 1) Qb)))))))))),?_⟩
 walk_at "go";rw[XX];refine⟨by trivial,f',blank,rfl,rfl,by decide,Zw hf,by rw[hss,FN];omega,λp hp=>?_⟩;rw[hss];have g1:=Qg hp (.lst (ss.map V.str));have hp1:SqL K (upd H p (.lst (ss.map V.str))) p (ss.map V.str):=SqL.of Qe;generalize upd H p (.lst (ss.map V.str))=H1 at *;refine QT (g1.seq hw) (QT hp1 ?_);rw[FH,FH,hwl];walk_at "go";simp only[Xi,Ry];walk_at "go";refine⟨p,a,rfl,⟨_,hp1⟩,⟨_,g1.seq hw⟩,HD (xs:=ss.map V.str) (ys:=ws.map V.str) (WsI K ds H1) (by rw[FH,FH,hwl]) ⟨none,none,rfl,Same.refl _,rfl,λi a b h=>by simp at h⟩ (λi acc σ' H' h=>by obtain⟨_,_,_,g',_⟩:=h;exact⟨g'.seq hp1,(g1.trans g').seq hw⟩) (by rw[FH];omega) ?_ ?_⟩
 ·rintro i x y acc _ H2 p2 hx hy hacc ⟨x0,x1,rfl,g,hA⟩ hp2;rw[F0] at hx hy;obtain⟨sx,hsx,rfl⟩:=F6.mp hx;obtain⟨zy,hzy,rfl⟩:=F6.mp hy;have hi:i<ss.length:=(FZ.mp hsx).1;have g2:=Qg hp2 (.tup [.str sx,.str zy]);have hT:SqT K (upd H2 p2 (.tup [.str sx,.str zy])) p2 [.str sx,.str zy]:=SqT.of Qe;generalize upd H2 p2 (.tup [.str sx,.str zy])=H3 at *;obtain⟨d,hd⟩:∃d,ds[i]?=some d:=⟨_,FI (by omega)⟩
  have hr:=hds i _ _ _ hsx hzy hd;obtain⟨az,lz⟩:=hwz zy (EE hzy);walk_at "go";simp only[Y6];walk_at "go";refine⟨sx,zy,rfl,rfl,az,lz,λd' e v H4 g3 hv=>?_,λe=>by rw[hr] at e;cases e⟩;rw[hr] at e;cases e;exact CN.mk (by rw[FH];exact hi) (by rw[FF,FK];omega) ⟨_,_,rfl,(g.trans g2).trans g3,KA hA (λa b h=>h.mono (g2.trans g3)) hd hv⟩
 ·rintro acc _ H2 ⟨x0,x1,rfl,g,hA⟩ p2 hp2;have g2:=Qg hp2 (.lst acc);rw[Eg (by rw[FH];omega)] at hA;exact q p2 acc _ ((g1.trans g).trans g2) ((g1.trans g).free hp2) Qe ⟨hA.1,λj a b h1 h2=>(hA.2 j a b h1 h2).mono g2⟩
inductive Itm where
 | base (a:Int)|each (a l h:Int)|rent (r s m:Int)|term (up:Bool) (n l h:Int)|pay (r s l h:Int)|cnt (z:Str) (r s:Int)|off (l r s:Int)|unt (a:Int)|rnd (u:Int) (z:Str)
variable {ks ks0:List (Str×List Itm)}
inductive Row where
 | kind (z:Str)|itm (x:Itm)|cap (a b:Int) (ns:List Str)
variable {rs:List Row}
abbrev nt (n:Int):Str:=Str.ofString (toString n)
def Itm.srt:Itm->Str
 | .base ..=>Str.ofString "base" | .each ..=>Str.ofString "each" | .rent ..=>Str.ofString "rent" | .term false ..=>Str.ofString "from" | .term true ..=>Str.ofString "upto" | .pay ..=>Str.ofString "pay" | .cnt ..=>Str.ofString "counts" | .off ..=>Str.ofString "off" | .unt ..=>Str.ofString "until" | .rnd ..=>Str.ofString "round"
def Row.srt:Row->Str
 | .kind _=>Str.ofString "kind" | .itm x=>x.srt|.cap ..=>Str.ofString "cap"
def Itm.ws:Itm->List Str
 | .base a=>[nt a]|.each a l h=>[nt a,nt l,nt h]|.rent r s m=>[ZI r s,nt m]|.term _ n l h=>[nt n,nt l,nt h]|.pay r s l h=>[ZI r s,nt l,nt h]|.cnt z r s=>[z,ZI r s]|.off l r s=>[nt l,ZI r s]|.unt a=>[nt a]|.rnd u z=>[nt u,z]
def Row.ws:Row->List Str
 | .kind z=>[z]|.itm x=>x.ws|.cap a b ns=>nt a::nt b::ns
def Itm.ds:Itm->List D
 | .base a=>[.int a]|.each a l h=>[.int a,.int l,.int h]|.rent r s m=>[fr r s,.int m]|.term _ n l h=>[.int n,.int l,.int h]|.pay r s l h=>[fr r s,.int l,.int h]|.cnt z r s=>[.str z,fr r s]|.off l r s=>[.int l,fr r s]|.unt a=>[.int a]|.rnd u z=>[.int u,.str z]
def Row.ds:Row->List D
 | .kind z=>[.str z]|.itm x=>x.ds|.cap a b ns=>.int a::.int b::ns.map D.str
abbrev q_ (s:String):Str:=Str.ofString s
def Itm.ss:Itm->List Str
 | .base _=>[q_ "AMOUNT"]|.each ..=>[q_ "AMOUNT",q_ "LOW",q_ "HIGH"]|.rent ..=>[q_ "RATE",q_ "MOST"]|.term ..=>[q_ "MANY",q_ "LOW",q_ "HIGH"]|.pay ..=>[q_ "RATE",q_ "LOW",q_ "HIGH"]|.cnt ..=>[q_ "NAME",q_ "RATE"]|.off ..=>[q_ "LIMIT",q_ "RATE"]|.unt _=>[q_ "LIMIT"]|.rnd ..=>[q_ "UNIT",q_ "WAY"]
def Row.ss:Row->List Str
 | .kind _=>[q_ "NAME"]|.itm x=>x.ss|.cap _ _ ns=>q_ "LIMIT" :: q_ "EACH" :: ns.map λ_=>q_ "NAME"
def Itm.fo:Itm->Str
 | .base _=>q_ "AMOUNT" | .each ..=>q_ "AMOUNT LOW HIGH" | .rent ..=>q_ "RATE MOST" | .term ..=>q_ "MANY LOW HIGH" | .pay ..=>q_ "RATE LOW HIGH" | .cnt ..=>q_ "NAME RATE" | .off ..=>q_ "LIMIT RATE" | .unt _=>q_ "LIMIT" | .rnd ..=>q_ "UNIT WAY"
def Row.fo:Row->Str
 | .kind _=>q_ "NAME" | .itm x=>x.fo|.cap ..=>q_ "LIMIT EACH NAME"
def Row.form:Row->Str
 | .cap _ _ ns=>q_ "LIMIT EACH NAME"++Txt.mul (q_ " NAME") (ns.length-1)
 | r=>r.fo
def Xs (r s:Int):Prop:=0<=r/\r<=9999/\1<=s/\s<=9999/\Int.gcd r s=1
def XC (a:Int):Prop:=0<=a/\a<=1000000000
def KC (l h:Int):Prop:=0<=l/\l<=h/\h<=150
def YB (z:Str):Prop:=Vj (.str z)=true
def Itm.Ok:Itm->Prop
 | .base a=>XC a|.each a l h=>XC a/\KC l h|.rent r s m=>Xs r s/\XC m|.term _ n l h=>(0<=n/\n<=60)/\KC l h|.pay r s l h=>Xs r s/\KC l h|.cnt z r s=>YB z/\Xs r s|.off l r s=>XC l/\Xs r s|.unt a=>XC a|.rnd u z=>(1<=u/\u<=1000000000)/\JI z=true
def Row.Ok:Row->Prop
 | .kind z=>YB z|.itm x=>x.Ok|.cap a b ns=>XC a/\XC b/\(∀z∈ns,YB z)/\1<=ns.length/\ns.length<=8
theorem UF {s:Str}{m:Int}{n:Int}(e:Vf s=m)(h1:¬s=q_ "NAME")(h2:¬s=q_ "RATE")(h3:¬s=q_ "UNIT")(h4:¬s=q_ "WAY")(h0:0<=n)(hn:n<=m)(hm:m<=1000000000):rdS s (nt n)=some (.int n):=by
 unfold rdS;rw[FC h1,FC h2,FC h3,FC h4,e,Wh h0 hn hm];rfl
theorem YW {s:Str}{n:Int}(h:s=q_ "AMOUNT"∨s=q_ "MOST"∨s=q_ "LIMIT"∨s=q_ "EACH")(ok:XC n):rdS s (nt n)=some (.int n):=by
 rcases h with rfl|rfl|rfl|rfl<;>exact UF (m:=1000000000) (by decide +kernel) (by decide +kernel) (by decide +kernel) (by decide +kernel) (by decide +kernel) ok.1 ok.2 (by decide)
theorem WG {s:Str}{n:Int}(h:s=q_ "LOW"∨s=q_ "HIGH")(h0:0<=n)(h1:n<=150):rdS s (nt n)=some (.int n):=by
 rcases h with rfl|rfl<;>exact UF (m:=150) (by decide +kernel) (by decide +kernel) (by decide +kernel) (by decide +kernel) (by decide +kernel) h0 h1 (by decide)
theorem LA {n:Int}(h0:0<=n)(h1:n<=60):rdS (q_ "MANY") (nt n)=some (.int n):=UF (m:=60) (by decide +kernel) (by decide +kernel) (by decide +kernel) (by decide +kernel) (by decide +kernel) h0 h1 (by decide)
theorem KS (h:YB z):rdS (q_ "NAME") z=some (.str z):=by
 unfold rdS;rw[FD rfl];exact FD h
theorem Ja {r s:Int}(h:Xs r s):rdS (q_ "RATE") (ZI r s)=some (fr r s):=by
 unfold rdS;rw[FC (by decide +kernel),FD rfl,Uy h.1 h.2.1 h.2.2.1 h.2.2.2.1 h.2.2.2.2];rfl
theorem Lz {u:Int}(h0:1<=u)(h1:u<=1000000000):rdS (q_ "UNIT") (nt u)=some (.int u):=by
 have e:rdU (nt u)=some u:=by
  unfold rdU;rw[Wh (by omega) h1 (by decide)];exact FC (by omega)
 unfold rdS;rw[FC (by decide +kernel),FC (by decide +kernel),FD rfl,e];rfl
theorem R0 (h:JI z=true):rdS (q_ "WAY") z=some (.str z):=by
 unfold rdS;rw[FC (by decide +kernel),FC (by decide +kernel),FC (by decide +kernel),FD rfl,FD h]
inductive Rds:List Str->List Str->List D->Prop
 | nil:Rds [] [] []
 | cons {s z:Str} {d:D} {ss ws:List Str} {ds:List D} (h:rdS s z=some d) (r:Rds ss ws ds):Rds (s::ss) (z::ws) (d::ds)
theorem Rds.len:∀{ss ws:List Str}{ds:List D},Rds ss ws ds->ws.length=ss.length/\ds.length=ss.length
 | _,_,_,.nil=>⟨rfl,rfl⟩
 | _,_,_,.cons _ r=>by obtain⟨a,b⟩:=r.len;exact⟨congrArg (·+1) a,congrArg (·+1) b⟩
theorem Rds.at:∀{ss ws:List Str}{ds:List D},Rds ss ws ds->∀(i:Nat) s z d,ss[i]?=some s->ws[i]?=some z->ds[i]?=some d->rdS s z=some d
 | _,_,_,.nil,i,_,_,_,h,_,_=>by simp at h
 | _,_,_,.cons h r,0,_,_,_,a,b,c=>by cases a;cases b;cases c;exact h
 | _,_,_,.cons h r,i+1,_,_,_,a,b,c=>r.at i _ _ _ (by simpa using a) (by simpa using b) (by simpa using c)
theorem Kj:∀{ns:List Str},(∀z∈ns,YB z)->Rds (ns.map λ_=>q_ "NAME") ns (ns.map D.str)
 | [],_=>.nil
 | _::_,h=>.cons (KS (h _ Eb)) (Kj λz hz=>h z (F5 _ hz))
theorem Row.reads {r:Row}(ok:r.Ok):Rds r.ss r.ws r.ds:=by
 cases r with
 | kind z=>exact .cons (KS ok) .nil
 | cap a b ns=>exact .cons (YW (by simp) ok.1) (.cons (YW (by simp) ok.2.1) (Kj ok.2.2.1))
 | itm x=>
  cases x with
  | base a=>exact .cons (YW (by simp) ok) .nil
  | each a l h=>obtain⟨h1,h2,h3,h4⟩:=ok;exact .cons (YW (by simp) h1) (.cons (WG (by simp) h2 (by omega)) (.cons (WG (by simp) (by omega) h4) .nil))
  | rent r s m=>exact .cons (Ja ok.1) (.cons (YW (by simp) ok.2) .nil)
  | term u n l h=>obtain⟨h1,h2,h3,h4⟩:=ok;exact .cons (LA h1.1 h1.2) (.cons (WG (by simp) h2 (by omega)) (.cons (WG (by simp) (by omega) h4) .nil))
  | pay r s l h=>obtain⟨h1,h2,h3,h4⟩:=ok;exact .cons (Ja h1) (.cons (WG (by simp) h2 (by omega)) (.cons (WG (by simp) (by omega) h4) .nil))
  | cnt z r s=>exact .cons (KS ok.1) (.cons (Ja ok.2) .nil)
  | off l r s=>exact .cons (YW (by simp) ok.1) (.cons (Ja ok.2) .nil)
  | unt a=>exact .cons (YW (by simp) ok) .nil
  | rnd u z=>exact .cons (Lz ok.1.1 ok.1.2) (.cons (R0 ok.2) .nil)
def JV (z:Str):Prop:=Zq z/\z.length<=1000/\32∉z.cps.toList
theorem Za {n:Int}(h:XC n):JV (nt n):=⟨Jh h.1,F2 (len_num h.1 (by have:=h.2;omega)) (by decide),λhm=>by have:=YG h.1 32 hm;omega⟩
theorem Z9 {r s:Int}(h:Xs r s):JV (ZI r s):=by
 obtain⟨h1,h2,h3,h4,_⟩:=h;obtain⟨a1,a2,a3⟩:=Za (n:=r) ⟨h1,by omega⟩;obtain⟨b1,b2,b3⟩:=Za (n:=s) ⟨by omega,by omega⟩;have la:(nt r).length<=100:=len_num h1 (by omega);have lb:(nt s).length<=100:=len_num (by omega) (by omega);refine⟨NO h1 h3,?_,λhm=>?_⟩
 ·unfold ZI;split
  ·omega
  ·rw[Zc,Zc];show(nt r).length+1+(nt s).length<=1000;omega
 ·unfold ZI at hm;split at hm
  ·exact a3 hm
  ·rw[Wr,Wr] at hm;rcases Ec.mp hm with hm|hm
   ·rcases Ec.mp hm with hm|hm
    ·exact a3 hm
    ·exact absurd hm (by decide)
   ·exact b3 hm
theorem ZH (h:YB z):JV z:=by
 have h:(decide (1<=z.length)&&decide (z.length<=8)&&z.cps.toList.all W6)=true:=h;simp only[Ew,EW] at h;obtain⟨⟨_,h2⟩,h3⟩:=h;have sg:∀c∈z.cps.toList,97<=c/\c<=122:=λc hc=>by
  have:=Ex.mp h3 c hc;unfold W6 at this;simpa using this
 exact⟨GO λc hc=>by have:=sg c hc;omega,by omega,λhm=>by have:=sg 32 hm;omega⟩
theorem Kk (h:JI z=true):JV z:=by
 have h:=EI h;simp at h;rcases h with rfl|rfl|rfl<;>exact⟨by show _=true;decide +kernel,by decide +kernel,by decide +kernel⟩
def W9:List Str:=[q_ "kind",q_ "cap",q_ "base",q_ "each",q_ "rent",q_ "from",q_ "upto",q_ "pay",q_ "counts",q_ "off",q_ "until",q_ "round"]
theorem Zi:∀z∈W9,JV z:=by
 intro z hz;unfold W9 at hz;simp only[FP,List.not_mem_nil,or_false] at hz;rcases hz with rfl|rfl|rfl|rfl|rfl|rfl|rfl|rfl|rfl|rfl|rfl|rfl<;>exact⟨by show _=true;decide +kernel,by decide +kernel,by decide +kernel⟩
theorem Xw (r:Row):r.srt∈W9:=by
 unfold W9;cases r with
 | kind z=>simp[Row.srt]
 | cap a b ns=>simp[Row.srt]
 | itm x=>
  cases x with
  | term u n l h=>cases u<;>simp[Row.srt,Itm.srt]
  | _=>simp[Row.srt,Itm.srt]
theorem Row.plain {r:Row}(ok:r.Ok):∀z∈r.srt::r.ws,JV z:=by
 have am:∀{n m:Int},0<=n->n<=m->m<=1000->JV (nt n):=λa b c=>Za ⟨a,by omega⟩
 intro z hz;rcases FP.mp hz with rfl|hz
 ·exact Zi _ (Xw r)
 ·cases r with
  | kind y=>rw[FQ.mp hz];exact ZH ok
  | cap a b ns=>
   rcases FP.mp hz with rfl|hz
   ·exact Za ok.1
   rcases FP.mp hz with rfl|hz
   ·exact Za ok.2.1
   ·exact ZH (ok.2.2.1 z hz)
  | itm x=>
   cases x with
   | base a=>rw[FQ.mp hz];exact Za ok
   | unt a=>rw[FQ.mp hz];exact Za ok
   | each a l h=>
    obtain⟨h1,h2,h3,h4⟩:=ok;have hz:z=nt a∨z=nt l∨z=nt h:=by simpa[Row.ws,Itm.ws] using hz
    rcases hz with rfl|rfl|rfl
    ·exact Za h1
    ·exact am h2 (by omega:l<=150) (by decide)
    ·exact am (by omega) h4 (by decide)
   | term u n l h=>
    obtain⟨h1,h2,h3,h4⟩:=ok;have hz:z=nt n∨z=nt l∨z=nt h:=by simpa[Row.ws,Itm.ws] using hz
    rcases hz with rfl|rfl|rfl
    ·exact am h1.1 h1.2 (by decide)
    ·exact am h2 (by omega:l<=150) (by decide)
    ·exact am (by omega) h4 (by decide)
   | pay r s l h=>
    obtain⟨h1,h2,h3,h4⟩:=ok;have hz:z=ZI r s∨z=nt l∨z=nt h:=by simpa[Row.ws,Itm.ws] using hz
    rcases hz with rfl|rfl|rfl
    ·exact Z9 h1
    ·exact am h2 (by omega:l<=150) (by decide)
    ·exact am (by omega) h4 (by decide)
   | rent r s m=>
    have hz:z=ZI r s∨z=nt m:=by simpa[Row.ws,Itm.ws] using hz
    rcases hz with rfl|rfl
    ·exact Z9 ok.1
    ·exact Za ok.2
   | cnt y r s=>
    have hz:z=y∨z=ZI r s:=by simpa[Row.ws,Itm.ws] using hz
    rcases hz with rfl|rfl
    ·exact ZH ok.1
    ·exact Z9 ok.2
   | off l r s=>
    have hz:z=nt l∨z=ZI r s:=by simpa[Row.ws,Itm.ws] using hz
    rcases hz with rfl|rfl
    ·exact Za ok.1
    ·exact Z9 ok.2
   | rnd u y=>
    have hz:z=nt u∨z=y:=by simpa[Row.ws,Itm.ws] using hz
    rcases hz with rfl|rfl
    ·exact Za ⟨by have:=ok.1.1;omega,ok.1.2⟩
    ·exact Kk ok.2
theorem V7 (r:Row):XF JH (Sum.inr r.srt)=some (.str r.fo):=by
 cases r with
 | kind z=>kernel_rfl
 | cap a b ns=>kernel_rfl
 | itm x=>
  cases x with
  | term u n l h=>cases u<;>kernel_rfl
  | _=>kernel_rfl
theorem JT (n:Nat)(h1:1<=n)(h8:n<=8):PySem.MulOk (q_ " NAME") ((n:Int)-1)/\(q_ "LIMIT EACH NAME"++Txt.mul (q_ " NAME") ((n:Int)-1)).length<=100/\Txt.split (q_ "LIMIT EACH NAME"++Txt.mul (q_ " NAME") ((n:Int)-1)) blank=q_ "LIMIT" :: q_ "EACH" :: List.replicate n (q_ "NAME")/\Txt.endswith (q_ "LIMIT EACH NAME"++Txt.mul (q_ " NAME") ((n:Int)-1)) (q_ "LOW HIGH")=false:=by
 have key:∀n:Nat,n<9->1<=n->(q_ "LIMIT EACH NAME"++Txt.mul (q_ " NAME") ((n:Int)-1)).length<=100/\Txt.split (q_ "LIMIT EACH NAME"++Txt.mul (q_ " NAME") ((n:Int)-1)) blank=q_ "LIMIT" :: q_ "EACH" :: List.replicate n (q_ "NAME")/\Txt.endswith (q_ "LIMIT EACH NAME"++Txt.mul (q_ " NAME") ((n:Int)-1)) (q_ "LOW HIGH")=false:=by decide +kernel
 refine⟨?_,key n (by omega) h1⟩;have e:(q_ " NAME").length=5:=by decide +kernel
 refine⟨?_,?_,?_⟩
 ·rw[Bool.or_eq_false_iff];exact⟨F1 (by omega),F1 (by omega)⟩
 ·intro hn _;rw[e];rcases(show n=2∨n=3∨n=4∨n=5∨n=6∨n=7∨n=8 by omega) with rfl|rfl|rfl|rfl|rfl|rfl|rfl<;>decide
 ·intro hn _;rw[e];rcases(show n=2∨n=3∨n=4∨n=5∨n=6∨n=7∨n=8 by omega) with rfl|rfl|rfl|rfl|rfl|rfl|rfl<;>decide
theorem N5 {r:Row}(ok:r.Ok):Txt.split r.form blank=r.ss/\r.form.length<=1000/\r.ss.length<=100:=by
 cases r with
 | kind z=>exact⟨by kernel_rfl,Nat.le_of_ble_eq_true (by kernel_rfl),Nat.le_of_ble_eq_true (by kernel_rfl)⟩
 | cap a b ns=>
  obtain⟨h1,h2,h3,_⟩:=JT ns.length ok.2.2.2.1 ok.2.2.2.2;refine⟨?_,by show Str.length _<=1000;exact F2 h2 (by decide),?_⟩
  ·show Txt.split _ blank=q_ "LIMIT" :: q_ "EACH" :: ns.map λ_=>q_ "NAME"
   rw[List.map_const'];exact h3
  ·show(ns.map λ_=>q_ "NAME").length+1+1<=100;rw[FH];have:=ok.2.2.2.2;omega
 | itm x=>
  cases x with
  | term u n l h=>cases u<;>exact⟨by kernel_rfl,Nat.le_of_ble_eq_true (by kernel_rfl),Nat.le_of_ble_eq_true (by kernel_rfl)⟩
  | _=>exact⟨by kernel_rfl,Nat.le_of_ble_eq_true (by kernel_rfl),Nat.le_of_ble_eq_true (by kernel_rfl)⟩
inductive φform (K:W.Frag)(x:V)(H:Hp)(Q:VK)(E:XK):Prop
 | mk (r:Row) (a:Addr) (h1:x=.ref a) (h2:SqL K H a ((r.srt::r.ws).map V.str)) (h3:r.Ok) (h4:∀H',Same H H'->Q (.str r.form) H'):φform K x H Q E
theorem Lu {r:Row}:r.srt=q_ "cap"->∃a b ns,r=.cap a b ns:=by
 intro h;cases r with
 | kind z=>exact absurd h (by show¬(q_ "kind"=q_ "cap");decide +kernel)
 | cap a b ns=>exact⟨a,b,ns,rfl⟩
 | itm x=>
  cases x with
  | base=>exact absurd h (by show¬(q_ "base"=q_ "cap");decide +kernel)
  | each=>exact absurd h (by show¬(q_ "each"=q_ "cap");decide +kernel)
  | rent=>exact absurd h (by show¬(q_ "rent"=q_ "cap");decide +kernel)
  | term u n l h'=>
   cases u with
   | false=>exact absurd h (by show¬(q_ "from"=q_ "cap");decide +kernel)
   | true=>exact absurd h (by show¬(q_ "upto"=q_ "cap");decide +kernel)
  | pay=>exact absurd h (by show¬(q_ "pay"=q_ "cap");decide +kernel)
  | cnt=>exact absurd h (by show¬(q_ "counts"=q_ "cap");decide +kernel)
  | off=>exact absurd h (by show¬(q_ "off"=q_ "cap");decide +kernel)
  | unt=>exact absurd h (by show¬(q_ "until"=q_ "cap");decide +kernel)
  | rnd=>exact absurd h (by show¬(q_ "round"=q_ "cap");decide +kernel)
theorem UP (T:Tx w K mg t)(F:Fun K "form_of" "form_of" XQ f fd):FnOk P w K mg base (CXn P w) 1 f fd ["words"] (Rp1 (φform K)):=by
 refine F.okN sc_form_of GZ (λcdv A outer s H vs Q E hr h=>?_);obtain⟨_,rfl,r,a,rfl,hw,ok,q⟩:=h;refine⟨_,((Qc (Qy (Ph (G5 T.bT (Qp (ixK K rfl) (pu 0) Qd (λ_ _=>rfl)))) (Qf (ZM XZ rfl rfl T.aW T.bB PySem.F.excBase_ValueError (by decide +kernel) PySem.F.excBase_ValueError (Qa Qn Qb))) Qo)
   (Qc (Qw (i:=1) sc_form_of.nd rfl (Or.inl rfl) (We T.bT (Qp (ixK K rfl) (pu 0) Qd (λ_ _=>rfl)) (λ_ _=>rfl)))
   (Qc (Qy (Qj (eqM K rfl hr.units) (Qp (ixK K rfl) (pu 0) Qd (λ_ _=>rfl)) Qn (Qk _)) (Qc (Qw (i:=2) sc_form_of.nd rfl (Or.inl rfl) (Qr YE (Qr YE (Qs (Zr K rfl) (by rfl) T.aB FO (Qa (pu 0) Qb)) Qd) (Qs (Zr K rfl) (by rfl) T.aB FO (Qa (QQ K rfl PySem.F.plainAttrs_str PySem.F.slot_str_split PySem.F.type_str_split JC (pu 1) (Qa Qn Qb)) Qb))))
   (Qf (Ql (Qr QI (pu 1) (Qr Wf Qn (pu 2)))))) Qo)
   (Qf (Ql (pu 1))))))),?_⟩
 walk_at "go";simp only[tB,Gd,Ge];walk_at "go";have h0:atI ((r.srt::r.ws).map V.str) 0=some (.str r.srt):=QW (j:=0) rfl;refine QX hw h0 ⟨Sum.inr r.srt,rfl,?_⟩;rw[V7];walk_at "go";refine QX hw h0 ⟨Sum.inr r.srt,_,rfl,V7 r,?_⟩;walk_at "go";refine QX hw h0 ?_;walk_at "go";refine Qz (λc=>?_) (λc=>?_)
 ·obtain⟨x,y,ns,rfl⟩:=Lu c;obtain⟨k1,k2,_⟩:=JT ns.length ok.2.2.2.1 ok.2.2.2.2;refine QT hw ?_;walk_at "go";rw[XX];have sp:Txt.split (q_ "LIMIT EACH NAME") blank=[q_ "LIMIT",q_ "EACH",q_ "NAME"]:=by decide +kernel
  refine⟨by trivial,_,blank,rfl,rfl,by decide,Zw (show(q_ "LIMIT EACH NAME").length<=1000 by decide +kernel),by show(Txt.split (q_ "LIMIT EACH NAME") blank).length<=_;rw[sp,FN];decide,λp hp=>?_⟩;have g1:=Qg hp (.lst ((Txt.split (q_ "LIMIT EACH NAME") blank).map V.str));have hp1:(upd H p (.lst ((Txt.split (q_ "LIMIT EACH NAME") blank).map V.str))) p=some (.lst ([q_ "LIMIT",q_ "EACH",q_ "NAME"].map V.str)):=by rw[Qe,sp]
  show N9 K [.ref p] (upd H p (.lst ((Txt.split (q_ "LIMIT EACH NAME") blank).map V.str))) _;generalize upd H p (.lst ((Txt.split (q_ "LIMIT EACH NAME") blank).map V.str))=H1 at *;refine QT (SqL.of hp1) ?_;walk_at "go";have e:((((Row.cap x y ns).srt::(Row.cap x y ns).ws).map V.str).length:Int)-1-(([q_ "LIMIT",q_ "EACH",q_ "NAME"].map V.str).length:Nat)=(ns.length:Int)-1:=by
   rw[FH];show((ns.length+1+1+1:Nat):Int)-1-(3:Nat)=_;omega
  rw[e];walk_at "go";refine⟨k1,?_⟩;show sAdd (V.str (q_ "LIMIT EACH NAME")) (V.str (Txt.mul (q_ " NAME") ((ns.length:Int)-1))) H1 Q;walk_at "go";rw[Zc] at k2;exact⟨Zw (by omega),q _ g1⟩
 ·have e:r.form=r.fo:=by
   cases r with
   | cap=>exact absurd rfl c
   | kind=>rfl
   | itm=>rfl
  rw [<-e];exact q _ (Same.refl _)
inductive φvals (K:W.Frag)(x:V)(H:Hp)(Q:VK)(E:XK):Prop
 | mk (r:Row) (a:Addr) (h1:x=.ref a) (h2:SqL K H a ((r.srt::r.ws).map V.str)) (h3:r.Ok) (h4:∀p vs H',Same H H'->H p=none->H' p=some (.lst vs)->All2 (Pv K H') r.ds vs->Q (.ref p) H'):φvals K x H Q E
theorem Bz {r:Row}(ok:r.Ok)(h:Txt.endswith r.form (q_ "LOW HIGH")=true):∃d l h',r.ds=[d,.int l,.int h']/\l<=h':=by
 cases r with
 | kind z=>exact absurd (h.symm.trans (show _=false by kernel_rfl)) (by decide)
 | cap a b ns=>exact absurd (h.symm.trans (JT ns.length ok.2.2.2.1 ok.2.2.2.2).2.2.2) (by decide)
 | itm x=>
  cases x with
  | each a l h'=>exact⟨_,l,h',rfl,ok.2.2.1⟩
  | term u n l h'=>exact⟨_,l,h',rfl,ok.2.2.1⟩
  | pay r s l h'=>exact⟨_,l,h',rfl,ok.2.2.1⟩
  | _=>exact absurd (h.symm.trans (show _=false by kernel_rfl)) (by decide)
theorem K5 (T:Tx w K mg t)(F:Fun K "values_of" "values_of" Z0 f fd)(dX:Wx P w K mg base 5 "words_read" ["form","words"] (Rp2M (φwords K)))(dY:Wx P w K mg base 1 "form_of" ["words"] (Rp1M (φform K))):FnOk P w K mg base (CXn P w) 6 f fd ["words"] (Rp1 (φvals K)):=by
 refine F.okN sc_values_of GZ (λcdv A outer s H vs Q E hr h=>?_);obtain⟨_,rfl,r,a,rfl,hw,ok,q⟩:=h;refine⟨_,((Qc (Qw (i:=1) sc_values_of.nd rfl (Or.inl rfl) (ZD dY (hrm hr) rfl (Yt λ_ _ h=>h) (Qa (pu 0) Qb)))
   (Qc (Qw (i:=2) sc_values_of.nd rfl (Or.inl rfl) (ZD dX (hrm hr) rfl (Yt λ_ _ h=>h) (Qa (pu 1) (Qa (Zp (slK K rfl) (pu 0) (Zv Qd) ZN) Qb))))
   (Qc (Qy (PW.pt (ZF (Zu (QQ K rfl PySem.F.plainAttrs_str PySem.F.slot_str_endswith PySem.F.type_str_endswith VU (pu 1) (Qa Qn Qb))) (Zt (Qj YZ (Qp (ixK K rfl) (pu 2) (Xa Zb Qd) (λ_ _=>rfl)) (Qp (ixK K rfl) (pu 2) (Xa Zb Qd) (λ_ _=>rfl)) (Qk _))))) (Qf (ZM XZ rfl rfl T.aW T.bB PySem.F.excBase_ValueError (by decide +kernel) PySem.F.excBase_ValueError (Qa Qn Qb))) Qo)
   (Qf (Ql (pu 2))))))),?_⟩
 walk_at "go";refine⟨r,a,rfl,hw,ok,λH1 g1=>?_⟩;walk_at "go";refine Y7 (g1.seq hw) λp hp=>?_
 rw[show X5 ((r.srt::r.ws).map V.str) (some 1) none=r.ws.map V.str from WT _ 1];have g2:=Qg hp (.lst (r.ws.map V.str));have hp1:SqL K (upd H1 p (.lst (r.ws.map V.str))) p (r.ws.map V.str):=SqL.of Qe;generalize upd H1 p (.lst (r.ws.map V.str))=H2 at *;obtain⟨f1,f2,f3⟩:=N5 ok;obtain⟨l1,l2⟩:=(r.reads ok).len;refine⟨r.form,p,r.ws,r.ss,r.ds,rfl,rfl,hp1,f1,f2,f3,l1,λz hz=>?_,l2,(r.reads ok).at,λp3 vs H3 g3 hz3 hp3 hA=>?_⟩
 ·obtain⟨a1,a2,_⟩:=r.plain ok z (F5 _ hz);exact⟨a1,a2⟩
 have gg:=(g1.trans g2).trans g3;refine⟨by trivial,_,_,rfl,rfl,?_⟩;walk_at "go";refine Qz (λc=>?_) (λc=>q _ _ _ gg ((g1.trans g2).free hz3) hp3 hA);obtain⟨d,l,h',ed,hle⟩:=Bz ok c;rw[ed] at hA;obtain⟨v0,v1,v2,rfl⟩:∃v0 v1 v2,vs=[v0,v1,v2]:=by
  have:=hA.1
  match vs,this with
  | [v0,v1,v2],_=>exact⟨_,_,_,rfl⟩
 have r1:=hA.2 1 _ _ rfl rfl;have r2:=hA.2 2 _ _ rfl rfl;cases r1;cases r2;refine QX (SqL.of hp3) (v:=.int l) rfl (QX (SqL.of hp3) (v:=.int h') rfl ?_);walk_at "go";rw[FC (by omega)];exact q _ _ _ gg ((g1.trans g2).free hz3) hp3 (by rw[ed];exact hA)
theorem XS (f:Str)(v:V):∀fs:List (Str×V),(QO f v fs).length<=fs.length+1
 | []=>FE _
 | (g,x)::r=>by
  unfold QO;split
  ·simp
  ·have:=XS f v r;simp;omega
def Oth (p:Addr)(H H':Hp):Prop:=∀c u,c≠p->H c=some u->H' c=some u
theorem Oth.refl (p:Addr)(H:Hp):Oth p H H:=λ_ _ _ h=>h
theorem Oth.put (h:Oth p H H'):Oth p H (upd H' p o):=λc u e k=>by rw[Qq e];exact h c u e k
theorem Oth.new (h:Oth p H H')(hl:H' l=none):Oth p H (upd H' l o):=λc u e k=>(Qg hl o) _ _ (h c u e k)
abbrev nIn (C x dx:Addr)(H:Hp):Hp:=upd (upd H dx (.own x)) x (.ins C dx [])
theorem X2 {x:Addr}:nIn C x dx H x=some (.ins C dx []):=Qe
theorem ZC {x:Addr}(hx:H x=none)(hd:H dx=none)(g:Oth x (nIn C x dx H) H'):Same H H':=λb o h=>by
 have h1:b≠x:=Qm h hx;have h2:b≠dx:=Qm h hd;refine g b o h1 ?_;show upd (upd H dx (.own x)) x (.ins C dx []) b=some o;rw[Qq h1,Qq h2];exact h
inductive φi1 (C:Addr)(f1:Str)(x y:V)(H:Hp)(Q:VK):Prop
 | mk (p dx:Addr) (h1:x=.ref p) (h5:H p=some (.ins C dx [])) (h6:∀H',Oth p H H'->H' p=some (.ins C dx (QO f1 y []))->Q .non H'):φi1 C f1 x y H Q
inductive φi2 (C:Addr)(f1 f2:Str)(x y z:V)(H:Hp)(Q:VK):Prop
 | mk (p dx:Addr) (h1:x=.ref p) (h5:H p=some (.ins C dx [])) (h6:∀H',Oth p H H'->H' p=some (.ins C dx (QO f2 z (QO f1 y [])))->Q .non H'):φi2 C f1 f2 x y z H Q
inductive φi3 (C:Addr)(f1 f2 f3:Str)(x y z u:V)(H:Hp)(Q:VK):Prop
 | mk (p dx:Addr) (h1:x=.ref p) (h5:H p=some (.ins C dx [])) (h6:∀H',Oth p H H'->H' p=some (.ins C dx (QO f3 u (QO f2 z (QO f1 y []))))->Q .non H'):φi3 C f1 f2 f3 x y z u H Q
theorem len1 {f:Str}:(QO f v []).length<1000:=EZ (XS _ _ _) (by decide)
theorem len2 {f g:Str}{u:V}:(QO g u (QO f v [])).length<1000:=EZ (F2 (XS _ _ _) (Nat.succ_le_succ (XS _ _ _))) (by decide)
theorem WM (T:Tx w K mg t)(F:Fun K "__init__" "Base.__init__" Zo f fd):FnOk P w K mg base CX0 1 f fd ["self","amount"] (Sp2 (φi1 t.b9 "amount")):=by
 refine F.ok WE YS (λcdv A outer s H vs Q E hr h=>?_);obtain⟨_,_,rfl,p,dx,rfl,hp,q⟩:=h;refine⟨_,((Qf (QH K rfl (pu 0) (pu 1)))),?_⟩;walk_at "go";exact X6 hp T.cE T.d6 (by decide) (q _ (Oth.refl _ _).put Qe)
theorem WL (T:Tx w K mg t)(F:Fun K "__init__" "Each.__init__" Zn f fd):FnOk P w K mg base CX0 1 f fd ["self","amount","low","high"] (Sp4 (φi3 t.aL "amount" "low" "high")):=by
 refine F.ok WD GW (λcdv A outer s H vs Q E hr h=>?_);obtain⟨_,_,_,_,rfl,p,dx,rfl,hp,q⟩:=h;refine⟨_,((Qc (QH K rfl (pu 0) (pu 1))
   (Qc (QH K rfl (pu 0) (pu 2))
   (Qf (QH K rfl (pu 0) (pu 3)))))),?_⟩
 walk_at "go";refine X6 hp T.bJ T.d7 (by decide) ?_;walk_at "go";refine X6 Qe T.bJ T.d8 len1 ?_;walk_at "go";exact X6 Qe T.bJ T.d9 len2 (q _ (Oth.refl _ _).put.put.put Qe)
theorem WI (T:Tx w K mg t)(F:Fun K "__init__" "Rent.__init__" Zl f fd):FnOk P w K mg base CX0 1 f fd ["self","rate","most"] (Sp3 (φi2 t.aU "rate" "most")):=by
 refine F.ok WA KM (λcdv A outer s H vs Q E hr h=>?_);obtain⟨_,_,_,rfl,p,dx,rfl,hp,q⟩:=h;refine⟨_,((Qc (QH K rfl (pu 0) (pu 1))
   (Qf (QH K rfl (pu 0) (pu 2))))),?_⟩
 walk_at "go";refine X6 hp T.bN T.dA (by decide) ?_;walk_at "go";exact X6 Qe T.bN T.dB len1 (q _ (Oth.refl _ _).put.put Qe)
theorem WK (T:Tx w K mg t)(F:Fun K "__init__" "From.__init__" Zm f fd):FnOk P w K mg base CX0 1 f fd ["self","many","low","high"] (Sp4 (φi3 t.aM "many" "low" "high")):=by
 refine F.ok WC GW (λcdv A outer s H vs Q E hr h=>?_);obtain⟨_,_,_,_,rfl,p,dx,rfl,hp,q⟩:=h;refine⟨_,((Qc (QH K rfl (pu 0) (pu 1))
   (Qc (QH K rfl (pu 0) (pu 2))
   (Qf (QH K rfl (pu 0) (pu 3)))))),?_⟩
 walk_at "go";refine X6 hp T.bK T.dC (by decide) ?_;walk_at "go";refine X6 Qe T.bK T.dE len1 ?_;walk_at "go";exact X6 Qe T.bK T.dF len2 (q _ (Oth.refl _ _).put.put.put Qe)
theorem WH (T:Tx w K mg t)(F:Fun K "__init__" "Upto.__init__" Zk f fd):FnOk P w K mg base CX0 1 f fd ["self","many","low","high"] (Sp4 (φi3 t.aN "many" "low" "high")):=by
 refine F.ok Wz GW (λcdv A outer s H vs Q E hr h=>?_);obtain⟨_,_,_,_,rfl,p,dx,rfl,hp,q⟩:=h;refine⟨_,((Qc (QH K rfl (pu 0) (pu 1))
   (Qc (QH K rfl (pu 0) (pu 2))
   (Qf (QH K rfl (pu 0) (pu 3)))))),?_⟩
 walk_at "go";refine X6 hp T.bL T.dG (by decide) ?_;walk_at "go";refine X6 Qe T.bL T.dH len1 ?_;walk_at "go";exact X6 Qe T.bL T.dI len2 (q _ (Oth.refl _ _).put.put.put Qe)
def fB (a:V):List (Str×V):=QO "amount" a []
def fE (a l h:V):List (Str×V):=QO "high" h (QO "low" l (QO "amount" a []))
def fR (r m:V):List (Str×V):=QO "most" m (QO "rate" r [])
def fT (n l h:V):List (Str×V):=QO "high" h (QO "low" l (QO "many" n []))
inductive PIt (K:W.Frag)(t:Adr)(H:Hp):Itm->V->Prop
 | base (a:Int) (x dx:Addr) (h:H x=some (.ins t.b9 dx (fB (.int a)))):PIt K t H (.base a) (.ref x)
 | each (a l h':Int) (x dx:Addr) (h:H x=some (.ins t.aL dx (fE (.int a) (.int l) (.int h')))):PIt K t H (.each a l h') (.ref x)
 | rent (r s m:Int) (x dx p:Addr) (h:H x=some (.ins t.aU dx (fR (.ref p) (.int m)))) (hp:SqT K H p [.int r,.int s]):PIt K t H (.rent r s m) (.ref x)
 | from' (n l h':Int) (x dx:Addr) (h:H x=some (.ins t.aM dx (fT (.int n) (.int l) (.int h')))):PIt K t H (.term false n l h') (.ref x)
 | upto (n l h':Int) (x dx:Addr) (h:H x=some (.ins t.aN dx (fT (.int n) (.int l) (.int h')))):PIt K t H (.term true n l h') (.ref x)
 | pay (r s l h':Int) (x p:Addr) (h:SqT K H x [.ref p,.int l,.int h']) (hp:SqT K H p [.int r,.int s]):PIt K t H (.pay r s l h') (.ref x)
 | cnt (z:Str) (r s:Int) (x p:Addr) (h:SqT K H x [.str z,.ref p]) (hp:SqT K H p [.int r,.int s]):PIt K t H (.cnt z r s) (.ref x)
 | off (l r s:Int) (x p:Addr) (h:SqT K H x [.int l,.ref p]) (hp:SqT K H p [.int r,.int s]):PIt K t H (.off l r s) (.ref x)
 | unt (a:Int) (x:Addr) (h:SqT K H x [.int a]):PIt K t H (.unt a) (.ref x)
 | rnd (u:Int) (z:Str) (x:Addr) (h:SqT K H x [.int u,.str z]):PIt K t H (.rnd u z) (.ref x)
def Kp (N:Addr->Prop)(H H':Hp):Prop:=∀b o,H b=some o->(N b∨∀vs,o≠.lst vs)->H' b=some o
theorem Kp.of (g:Same H H'):Kp N H H':=λb o h _=>g b o h
theorem Kp.trans (a:Kp N H H1)(b:Kp N H1 H2):Kp N H H2:=λc o h k=>b c o (a c o h k) k
theorem Kp.sqT (g:Kp N H H')(h:SqT K H p xs):SqT K H' p xs:=by
 rcases h with (h|⟨o,h⟩)|h
 ·exact .inl (.inl (g _ _ h (.inr λvs e=>nomatch e)))
 ·exact .inl (.inr ⟨o,g _ _ h (.inr λvs e=>nomatch e)⟩)
 ·exact .inr h
theorem Kp.ins {fs:List (Str×V)}(g:Kp N H H')(h:H p=some (.ins C dx fs)):H' p=some (.ins C dx fs):=g _ _ h (.inr λvs e=>nomatch e)
theorem PIt.kp (g:Kp N H H'){x:Itm}{v:V}(h:PIt K t H x v):PIt K t H' x v:=by
 cases h with
 | base a x dx h=>exact .base a x dx (g.ins h)
 | each a l h' x dx h=>exact .each a l h' x dx (g.ins h)
 | rent r s m x dx p h hp=>exact .rent r s m x dx p (g.ins h) (g.sqT hp)
 | from' n l h' x dx h=>exact .from' n l h' x dx (g.ins h)
 | upto n l h' x dx h=>exact .upto n l h' x dx (g.ins h)
 | pay r s l h' x p h hp=>exact .pay r s l h' x p (g.sqT h) (g.sqT hp)
 | cnt z r s x p h hp=>exact .cnt z r s x p (g.sqT h) (g.sqT hp)
 | off l r s x p h hp=>exact .off l r s x p (g.sqT h) (g.sqT hp)
 | unt a x h=>exact .unt a x (g.sqT h)
 | rnd u z x h=>exact .rnd u z x (g.sqT h)
theorem pv1 {d:D}(h:All2 (Pv K H) [d] vs):∃v,vs=[v]/\Pv K H d v:=by
 match vs,h with
 | [v],h=>exact⟨v,rfl,h.2 0 _ _ rfl rfl⟩
theorem pv2 {d e:D}(h:All2 (Pv K H) [d,e] vs):∃v u,vs=[v,u]/\Pv K H d v/\Pv K H e u:=by
 match vs,h with
 | [v,u],h=>exact⟨v,u,rfl,h.2 0 _ _ rfl rfl,h.2 1 _ _ rfl rfl⟩
theorem pv3 {d e f:D}(h:All2 (Pv K H) [d,e,f] vs):∃v u w,vs=[v,u,w]/\Pv K H d v/\Pv K H e u/\Pv K H f w:=by
 match vs,h with
 | [v,u,w],h=>exact⟨v,u,w,rfl,h.2 0 _ _ rfl rfl,h.2 1 _ _ rfl rfl,h.2 2 _ _ rfl rfl⟩
theorem Zx {i:Int}(h:Pv K H (.int i) v):v=.int i:=by cases h;rfl
theorem YX (h:Pv K H (.str z) v):v=.str z:=by cases h;rfl
theorem Gp {r s:Int}(h:Pv K H (fr r s) v):∃p,v=.ref p/\SqT K H p [.int r,.int s]:=by cases h with|rt _ _ p h=>exact⟨p,rfl,h⟩
inductive φthing (K:W.Frag)(t:Adr)(x y:V)(H:Hp)(Q:VK):Prop
 | mk (x':Itm) (a:Addr) (vs:List V) (h1:x=.str x'.srt) (h2:y=.ref a) (h3:SqL K H a vs) (h4:All2 (Pv K H) x'.ds vs) (h5:∀v H',Same H H'->PIt K t H' x' v->Q v H'):φthing K t x y H Q
theorem VO (T:Tx w K mg t)(F:Fun K "thing_of" "thing_of" Xl f fd)(dZ:JY P w K mg base 1 t.aN ["self","many","low","high"] (Sp4M (φi3 t.aN "many" "low" "high")))(e9:JY P w K mg base 1 t.aM ["self","many","low","high"] (Sp4M (φi3 t.aM "many" "low" "high")))(eA:JY P w K mg base 1 t.aU ["self","rate","most"] (Sp3M (φi2 t.aU "rate" "most")))(eB:JY P w K mg base 1 t.aL ["self","amount","low","high"] (Sp4M (φi3 t.aL "amount" "low" "high")))(eC:JY P w K mg base 1 t.b9 ["self","amount"] (Sp2M (φi1 t.b9 "amount"))):FnOk P w K mg base CX0 3 f fd ["sort","values"] (Sp2 (φthing K t)):=by
 refine F.ok VG YS (λcdv A outer s H vs Q E hr h=>?_);obtain⟨_,_,rfl,x,a,vs,rfl,rfl,hL,hA,q⟩:=h;refine⟨_,((Qc (Qy (Qj (eqM K rfl hr.units) (pu 0) Qn (Qk _)) (Qf (Ql (YY eC (hrm hr) rfl T.cN (Qa (Qp (ixK K rfl) (pu 1) Qd (λ_ _=>rfl)) Qb)))) Qo)
   (Qc (Qy (Qj (eqM K rfl hr.units) (pu 0) Qn (Qk _)) (Qf (Ql (YY eB (hrm hr) rfl T.cP (Qa (Qp (ixK K rfl) (pu 1) Qd (λ_ _=>rfl)) (Qa (Qp (ixK K rfl) (pu 1) Qd (λ_ _=>rfl)) (Qa (Qp (ixK K rfl) (pu 1) Qd (λ_ _=>rfl)) Qb)))))) Qo)
   (Qc (Qy (Qj (eqM K rfl hr.units) (pu 0) Qn (Qk _)) (Qf (Ql (YY eA (hrm hr) rfl T.cQ (Qa (Qp (ixK K rfl) (pu 1) Qd (λ_ _=>rfl)) (Qa (Qp (ixK K rfl) (pu 1) Qd (λ_ _=>rfl)) Qb))))) Qo)
   (Qc (Qy (Qj (eqM K rfl hr.units) (pu 0) Qn (Qk _)) (Qf (Ql (YY e9 (hrm hr) rfl T.cR (Qa (Qp (ixK K rfl) (pu 1) Qd (λ_ _=>rfl)) (Qa (Qp (ixK K rfl) (pu 1) Qd (λ_ _=>rfl)) (Qa (Qp (ixK K rfl) (pu 1) Qd (λ_ _=>rfl)) Qb)))))) Qo)
   (Qc (Qy (Qj (eqM K rfl hr.units) (pu 0) Qn (Qk _)) (Qf (Ql (YY dZ (hrm hr) rfl T.cT (Qa (Qp (ixK K rfl) (pu 1) Qd (λ_ _=>rfl)) (Qa (Qp (ixK K rfl) (pu 1) Qd (λ_ _=>rfl)) (Qa (Qp (ixK K rfl) (pu 1) Qd (λ_ _=>rfl)) Qb)))))) Qo)
   (Qf (Ql (QE (RN K rfl) (by rfl) T.cJ boot_tuple (Qa (pu 1) Qb)))))))))),?_⟩
 have tp:(∀p H',Same H H'->H' p=some (.tup vs)->Q (.ref p) H')->N8 K [.ref a] H Q:=λk=>⟨a,vs,rfl,.inl ⟨hL,λl hl=>k l _ (Qg hl _) Qe⟩⟩
 cases x with
 | base n=>
  obtain⟨v,rfl,h1⟩:=pv1 hA;cases Zx h1;dsimp only[Itm.srt];walk_at "go";intro x dx hx hd _;exact⟨x,dx,rfl,X2,λH' g hp=>⟨rfl,q _ _ (ZC hx hd g) (.base n x dx hp)⟩⟩
 | each n l h'=>
  obtain⟨v,v2,v3,rfl,h1,h2,h3⟩:=pv3 hA;cases Zx h1;cases Zx h2;cases Zx h3;dsimp only[Itm.srt];walk_at "go";intro x dx hx hd _;exact⟨x,dx,rfl,X2,λH' g hp=>⟨rfl,q _ _ (ZC hx hd g) (.each n l h' x dx hp)⟩⟩
 | rent r s' m=>
  obtain⟨v,v2,rfl,h1,h2⟩:=pv2 hA;obtain⟨p,rfl,hr'⟩:=Gp h1;cases Zx h2;dsimp only[Itm.srt];walk_at "go";intro x dx hx hd _;exact⟨x,dx,rfl,X2,λH' g hp=>⟨rfl,q _ _ (ZC hx hd g) (.rent r s' m x dx p hp ((ZC hx hd g).sqT hr'))⟩⟩
 | term u n l h'=>
  obtain⟨v,v2,v3,rfl,h1,h2,h3⟩:=pv3 hA;cases Zx h1;cases Zx h2;cases Zx h3;cases u with
  | false=>
   dsimp only[Itm.srt];walk_at "go";intro x dx hx hd _;exact⟨x,dx,rfl,X2,λH' g hp=>⟨rfl,q _ _ (ZC hx hd g) (.from' n l h' x dx hp)⟩⟩
  | true=>
   dsimp only[Itm.srt];walk_at "go";intro x dx hx hd _;exact⟨x,dx,rfl,X2,λH' g hp=>⟨rfl,q _ _ (ZC hx hd g) (.upto n l h' x dx hp)⟩⟩
 | pay r s' l h'=>
  obtain⟨v,v2,v3,rfl,h1,h2,h3⟩:=pv3 hA;obtain⟨p,rfl,hr'⟩:=Gp h1;cases Zx h2;cases Zx h3;dsimp only[Itm.srt];walk_at "go";exact tp λp2 H' g hp=>q _ _ g (.pay r s' l h' p2 p (SqT.of hp) (g.sqT hr'))
 | cnt z r s'=>
  obtain⟨v,v2,rfl,h1,h2⟩:=pv2 hA;cases YX h1;obtain⟨p,rfl,hr'⟩:=Gp h2;dsimp only[Itm.srt];walk_at "go";exact tp λp2 H' g hp=>q _ _ g (.cnt z r s' p2 p (SqT.of hp) (g.sqT hr'))
 | off l r s'=>
  obtain⟨v,v2,rfl,h1,h2⟩:=pv2 hA;cases Zx h1;obtain⟨p,rfl,hr'⟩:=Gp h2;dsimp only[Itm.srt];walk_at "go";exact tp λp2 H' g hp=>q _ _ g (.off l r s' p2 p (SqT.of hp) (g.sqT hr'))
 | unt n=>
  obtain⟨v,rfl,h1⟩:=pv1 hA;cases Zx h1;dsimp only[Itm.srt];walk_at "go";exact tp λp2 H' g hp=>q _ _ g (.unt n p2 (SqT.of hp))
 | rnd u z=>
  obtain⟨v,v2,rfl,h1,h2⟩:=pv2 hA;cases Zx h1;cases YX h2;dsimp only[Itm.srt];walk_at "go";exact tp λp2 H' g hp=>q _ _ g (.rnd u z p2 (SqT.of hp))
def Itm.sl:Itm->Nat
 | .base ..=>0|.each ..=>0|.rent ..=>0|.term ..=>1|.pay ..=>2|.cnt ..=>3|.off ..=>4|.unt ..=>5|.rnd ..=>6
theorem Xx (x:Itm):x.sl<7:=by cases x<;>exact Nat.le_of_ble_eq_true rfl
def sn:Nat->Str
 | 0=>q_ "parts" | 1=>q_ "terms" | 2=>q_ "pays" | 3=>q_ "counts" | 4=>q_ "offs" | 5=>q_ "untils" | _=>q_ "rounds"
def mo:Nat->Int
 | 0=>6|1=>6|2=>4|4=>6|_=>1
def os6:List Nat:=[0,1,2,4,5,6]
theorem JD (x:Itm):XF JG (Sum.inr x.srt)=some (.str (sn x.sl)):=by
 cases x with
 | term u n l h=>cases u<;>kernel_rfl
 | _=>kernel_rfl
theorem Vg:kd_LONGEST.map (·.1)=os6.map λj=>Sum.inr (sn j):=by kernel_rfl
theorem UW {j:Nat}(h:j<7)(h3:j≠3):XF kd_LONGEST (Sum.inr (sn j))=some (.int (mo j)):=by
 rcases(show j=0∨j=1∨j=2∨j=4∨j=5∨j=6 by omega) with rfl|rfl|rfl|rfl|rfl|rfl<;>kernel_rfl
def dkv (z:Str)(q:Nat->Addr):List (Key×V):=[(Sum.inr (q_ "title"),.str z),(Sum.inr (q_ "counts"),.ref (q 3))]++os6.map λj=>(Sum.inr (sn j),.ref (q j))
theorem NA:XF (dkv z q) (Sum.inr (q_ "title"))=some (.str z):=by kernel_rfl
theorem Te {j:Nat}(h:j<7):XF (dkv z q) (Sum.inr (sn j))=some (.ref (q j)):=by
 rcases(show j=0∨j=1∨j=2∨j=3∨j=4∨j=5∨j=6 by omega) with rfl|rfl|rfl|rfl|rfl|rfl|rfl<;>kernel_rfl
inductive φdraft (x:V)(H:Hp)(Q:VK):Prop
 | mk (z:Str) (h1:x=.str z) (h2:∀d q H',Same H H'->H d=none->H' d=some (.dK (dkv z q))->(∀j<7,H (q j)=none/\H' (q j)=some (.lst []))->(∀i<7,∀j<7,q i=q j->i=j)->Q (.ref d) H'):φdraft x H Q
def d0 (z:Str)(q:Nat->Addr)(l:List Nat):List (Key×V):=[(Sum.inr (q_ "title"),.str z),(Sum.inr (q_ "counts"),.ref (q 3))]++l.map λj=>(Sum.inr (sn j),.ref (q j))
def NdI (z:Str)(H:Hp)(d:Addr)(i:Nat)(σ:L2.St)(H':Hp):Prop:=∃(x2:Option V) (q:Nat->Addr),σ=[some (.str z),some (.ref d),x2]/\Same H H'/\H' d=some (.dK (d0 z q (os6.take i)))/\(∀j∈3::os6.take i,H (q j)=none/\H' (q j)=some (.lst []))/\∀a∈3::os6.take i,∀b∈3::os6.take i,q a=q b->a=b
theorem Hh {j:Nat}(h:os6[i]?=some j):j<7/\j≠3/\j∉os6.take i/\os6.take (i+1)=os6.take i++[j]:=by
 have hi:i<6:=(FZ.mp h).1;rcases(show i=0∨i=1∨i=2∨i=3∨i=4∨i=5 by omega) with rfl|rfl|rfl|rfl|rfl|rfl<;>cases h<;>exact⟨by decide,by decide,by decide,rfl⟩
theorem K8 (T:Tx w K mg t)(F:Fun K "new_draft" "new_draft" Z3 f fd):FnOk P w K mg base CX0 1 f fd ["title"] (Sp1 φdraft):=by
 refine F.ok sc_new_draft YT (λcdv A outer s H vs Q E hr h=>?_);obtain⟨_,rfl,z,rfl,q⟩:=h;refine⟨_,((Qc (Qw (i:=1) sc_new_draft.nd rfl (Or.inl rfl) (LY (VL Qn (pu 0) (VL Qn (QF Qb) LL)) rfl rfl (λz=>nomatch z) (Nat.le_of_ble_eq_true rfl)))
   (Qc (ZG Er rfl (LS T.bU) (QA (i:=2) sc_new_draft.nd rfl (Or.inl rfl))
   (Qf (LK (Xc hr) (pu 1) (pu 2) (QF Qb) rfl)))
   (Qf (Ql (pu 1)))))),?_⟩
 walk_at "go";intro d hd;simp only[KH];walk_at "go";refine⟨F7 _,λp hp=>?_⟩;have hpd:p≠d:=λe=>by rw[e,Qe] at hp;cases hp
 have hp0:H p=none:=by rw[Qq hpd] at hp;exact hp
 refine⟨by rw[Qq hpd.symm];exact Qe,[(Sum.inr (q_ "title"),.str z),(Sum.inr (q_ "counts"),.ref p)],rfl,Nat.le_of_ble_eq_true rfl,?_⟩;rw[show WN [] [(Sum.inr (q_ "title"),.str z),(Sum.inr (q_ "counts"),.ref p)]=d0 z (λ_=>p) [] from by kernel_rfl];have g:Same H (upd (upd (upd H d (.dK [])) p (.lst [])) d (.dK (d0 z (λ_=>p) []))):=λb o h=>by
  have h1:=Qm h hd;rw[Qq h1,Qq (Qm h hp0),Qq h1];exact h
 show Uo (ItK kd_LONGEST) _ _ _ _ _;refine Fh (NdI z H d) ⟨none,λ_=>p,rfl,g,Qe,λj _=>⟨hp0,by rw[Qq hpd];exact Qe⟩,λa ha b hb _=>?_⟩ ?_ ?_
 ·have ha:a=3:=by simpa using ha
  have hb:b=3:=by simpa using hb
  rw[ha,hb]
 ·rintro i kv _ H2 hk ⟨x2,q',rfl,g2,hd2,hq,hinj⟩;have hk1:(kd_LONGEST.map (·.1))[i]?=some kv.1:=by rw[F0,hk];rfl
  rw [Vg,F0] at hk1;obtain ⟨j,hj,ek⟩:=F6.mp hk1;obtain ⟨j7,j3,jn,jt⟩:=Hh hj;have hi:i<6:=(FZ.mp hj).1;rw [<-ek];walk_at "go";simp only [BW];walk_at "go";refine ⟨F7 _,fun p2 hp2=>?_⟩;have n2:d≠p2:=Qm hd2 hp2;have h20:H p2=none:=g2.free hp2;refine ⟨d,_,rfl,DPut.k (k:=Sum.inr (sn j)) (by rw [Qq n2];exact hd2) ?_,?_⟩
  ·show([(Sum.inr (q_ "title"),V.str z),(Sum.inr (q_ "counts"),.ref (q' 3))]++(os6.take i).map λj=>((Sum.inr (sn j):Key),V.ref (q' j))).length<_;rw[FF,FH,Ep,FN];show 2+min i 6<_;omega
  ·have e1:XF (d0 z q' (os6.take i)) (Sum.inr (sn j))=none:=by
    rcases(show i=0∨i=1∨i=2∨i=3∨i=4∨i=5 by omega) with rfl|rfl|rfl|rfl|rfl|rfl<;>cases hj<;>kernel_rfl
   have e2:d0 z q' (os6.take i)++[(Sum.inr (sn j),.ref p2)]=d0 z (λk=>if k=j then p2 else q' k) (os6.take (i+1)):=by
    rcases(show i=0∨i=1∨i=2∨i=3∨i=4∨i=5 by omega) with rfl|rfl|rfl|rfl|rfl|rfl<;>cases hj<;>kernel_rfl
   rw[Md _ e1,e2];have old:∀k∈3::os6.take i,k≠j/\q' k≠p2/\q' k≠d:=λk hk=>by
    have:=(hq k hk).2;refine⟨λe=>?_,Qm this hp2,Kn this hd2 (by intro z;cases z)⟩;subst e;rcases FP.mp hk with h|h
    ·exact j3 h
    ·exact jn h
   have mem:∀k∈3::os6.take (i+1),k=j∨k∈3::os6.take i:=λk hk=>by
    rw[jt] at hk;rcases FP.mp hk with h|h
    ·exact .inr (FP.mpr (.inl h))
    ·rcases Ec.mp h with h|h
     ·exact .inr (F5 _ h)
     ·exact .inl (FQ.mp h)
   refine⟨_,λk=>if k=j then p2 else q' k,rfl,λb o h=>?_,Qe,λk hk=>?_,λa ha b hb e=>?_⟩
   ·rw[Qq (λe=>by subst e;have:=g2 _ _ h;rw[hd2] at this;cases this;exact absurd hd (by rw[h];simp)),Qq (Qm h h20)];exact g2 _ _ h
   ·rcases mem k hk with rfl|hk
    ·show H (if k=k then p2 else q' k)=none/\_=_;rw[FD rfl];exact⟨h20,by show upd (upd H2 p2 (.lst [])) d _ (if k=k then p2 else q' k)=_;rw[FD rfl,Qq n2.symm,Qe]⟩
    ·obtain⟨o1,o2,o3⟩:=old k hk;show H (if k=j then p2 else q' k)=none/\upd (upd H2 p2 (.lst [])) d _ (if k=j then p2 else q' k)=_;rw[FC o1,Qq o3,Qq o2];exact hq k hk
   ·have e:(if a=j then p2 else q' a)=if b=j then p2 else q' b:=e
    rcases mem a ha with rfl|ha
    ·rcases mem b hb with rfl|hb
     ·rfl
     ·obtain⟨o1,o2,_⟩:=old b hb;rw[FD rfl,FC o1] at e;exact absurd e.symm o2
    ·obtain⟨o1,o2,_⟩:=old a ha;rcases mem b hb with rfl|hb
     ·rw[FD rfl,FC o1] at e;exact absurd e o2
     ·obtain⟨o3,_,_⟩:=old b hb;rw[FC o1,FC o3] at e;exact hinj a ha b hb e
 ·rintro _ H2 ⟨x2,q',rfl,g2,hd2,hq,hinj⟩;walk_at "go";have all:∀j<7,j∈3::os6.take kd_LONGEST.length:=by decide +kernel
  exact q d q' _ g2 hd hd2 (λj hj=>hq j (all j hj)) λa ha b hb=>hinj a (all a ha) b (all b hb)
structure DrR (K:W.Frag)(t:Adr)(H:Hp)(d:Addr)(z:Str)(xs:List Itm)(q:Nat->Addr):Prop where
 hd:H d=some (.dK (dkv z q))
 hq:∀j<7,∃vs,H (q j)=some (.lst vs)/\All2 (PIt K t H) (xs.filter λx=>decide (x.sl=j)) vs
def YR (xs:List Itm)(x:Itm):Prop:=match x with
 | .cnt z _ _=>∀y∈xs,∀z' r s,y=.cnt z' r s->z'≠z
 | .off l _ _=>(xs.filter λy=>decide (y.sl=4)).length<6/\∀y∈xs,∀l' r s,y=.off l' r s->l'<l
 | x=>((xs.filter λy=>decide (y.sl=x.sl)).length:Int)<mo x.sl
inductive φfin (K:W.Frag)(t:Adr)(x y z:V)(H:Hp)(Q:VK):Prop
 | mk (d:Addr) (tl:Str) (xs:List Itm) (q:Nat->Addr) (x':Itm) (a:Addr) (vs:List V) (h1:x=.ref d) (h2:y=.str x'.srt) (h3:z=.ref a) (h4:DrR K t H d tl xs q) (h5:SqL K H a vs) (h6:All2 (Pv K H) x'.ds vs) (h7:YR xs x') (h8:xs.length<=1000) (h9:∀H',Same H H'->Q (.bl true) H'):φfin K t x y z H Q
theorem Gi {x:Itm}(h:x.srt=q_ "counts"):∃z r s,x=.cnt z r s:=by
 cases x with
 | cnt z r s=>exact⟨z,r,s,rfl⟩
 | term u n l h'=>
  cases u with
  | false=>exact absurd h (show¬q_ "from"=q_ "counts" by decide +kernel)
  | true=>exact absurd h (show¬q_ "upto"=q_ "counts" by decide +kernel)
 | base=>exact absurd h (show¬q_ "base"=q_ "counts" by decide +kernel)
 | each=>exact absurd h (show¬q_ "each"=q_ "counts" by decide +kernel)
 | rent=>exact absurd h (show¬q_ "rent"=q_ "counts" by decide +kernel)
 | pay=>exact absurd h (show¬q_ "pay"=q_ "counts" by decide +kernel)
 | off=>exact absurd h (show¬q_ "off"=q_ "counts" by decide +kernel)
 | unt=>exact absurd h (show¬q_ "until"=q_ "counts" by decide +kernel)
 | rnd=>exact absurd h (show¬q_ "round"=q_ "counts" by decide +kernel)
theorem Ls {x:Itm}(h:x.srt=q_ "off"):∃l r s,x=.off l r s:=by
 cases x with
 | off l r s=>exact⟨l,r,s,rfl⟩
 | term u n l h'=>
  cases u with
  | false=>exact absurd h (show¬q_ "from"=q_ "off" by decide +kernel)
  | true=>exact absurd h (show¬q_ "upto"=q_ "off" by decide +kernel)
 | base=>exact absurd h (show¬q_ "base"=q_ "off" by decide +kernel)
 | each=>exact absurd h (show¬q_ "each"=q_ "off" by decide +kernel)
 | rent=>exact absurd h (show¬q_ "rent"=q_ "off" by decide +kernel)
 | pay=>exact absurd h (show¬q_ "pay"=q_ "off" by decide +kernel)
 | cnt=>exact absurd h (show¬q_ "counts"=q_ "off" by decide +kernel)
 | unt=>exact absurd h (show¬q_ "until"=q_ "off" by decide +kernel)
 | rnd=>exact absurd h (show¬q_ "round"=q_ "off" by decide +kernel)
theorem Jo {x:Itm}(h:x.sl=3):∃z r s,x=.cnt z r s:=by cases x<;>first|exact⟨_,_,_,rfl⟩|exact absurd h (by simp[Itm.sl])
theorem Ux {x:Itm}(h:x.sl=4):∃l r s,x=.off l r s:=by cases x<;>first|exact⟨_,_,_,rfl⟩|exact absurd h (by simp[Itm.sl])
def cnN:Itm->Str
 | .cnt z _ _=>z
 | _=>q_ ""
theorem ZR {d:Addr}{xs:List Itm}(hD:DrR K t H d z xs q){j:Nat}(hj:j<7):DGet H d (.str (sn j)) (some (.ref (q j))):=by
 have:=DGet.k (k:=(Sum.inr (sn j):Key)) hD.hd;rw[Te hj] at this;exact this
def CnI (fl:List Itm)(H:Hp)(i:Nat)(acc:List V)(σ':L2.St)(H':Hp):Prop:=∃x0 x1,σ'=[x0,x1]/\Same H H'/\acc=((fl.take i).map cnN).map V.str
theorem Xe {xs:List Itm}{j:Nat}{x:Itm}(h:(xs.filter λx=>decide (x.sl=j))[i]?=some x):x∈xs/\x.sl=j:=by
 have:=Eu.mp (EE h);exact⟨this.1,EI this.2⟩
theorem LQ {r s:Int}(h:PIt K t H (.cnt z r s) v):∃x p,v=.ref x/\SqT K H x [.str z,.ref p]/\SqT K H p [.int r,.int s]:=by
 cases h with|cnt _ _ _ x p h hp=>exact⟨x,p,rfl,h,hp⟩
theorem LP {l r s:Int}(h:PIt K t H (.off l r s) v):∃x p,v=.ref x/\SqT K H x [.int l,.ref p]/\SqT K H p [.int r,.int s]:=by
 cases h with|off _ _ _ x p h hp=>exact⟨x,p,rfl,h,hp⟩
theorem UQ (T:Tx w K mg t)(F:Fun K "fits_in" "fits_in" XR f fd):FnOk P w K mg base CX0 1 f fd ["draft","sort","values"] (Sp3 (φfin K t)):=by
 refine F.ok UD KM (λcdv A outer s H vs Q E hr h=>?_);obtain⟨_,_,_,rfl,d,tl,xs,q',x,a,vs,rfl,rfl,rfl,hD,hL,hA,hf,hx,q⟩:=h;refine⟨_,((Qc (Qy (Qj (eqM K rfl hr.units) (pu 1) Qn (Qk _)) (Qf (Ql (Zj (XD K rfl) (Qp (ixK K rfl) (pu 2) Qd (λ_ _=>rfl)) (Jx (N:=["title","rate"]) (caps:=[none,none]) rfl W8 (piK K rfl (Zg (Xc hr) (pu 0) Qn (λ_ _=>rfl))) (λ_ _ _ _=>pgK (n:=2) K rfl rfl (QJ (QA (i:=0) (show(["title","rate"]:List Str).Nodup by decide +kernel) rfl (Or.inl rfl) (.inr rfl)) (QJ (QA (i:=1) (show(["title","rate"]:List Str).Nodup by decide +kernel) rfl (Or.inl rfl) (.inr rfl)) Xq))) (λ_ _ _ _=>Xh) (λ_ _ _ _=>(pu 0))) (by with_unfolding_all rfl)))) Qo)
   (Qc (Qy (Qj (eqM K rfl hr.units) (Qs (Zr K rfl) (by rfl) T.aB FO (Qa (Zg (Xc hr) (pu 0) (We T.bM (pu 1) (λ_ _=>rfl)) (λ_ _=>rfl)) Qb)) (We T.bU (We T.bM (pu 1) (λ_ _=>rfl)) (λ_ _=>rfl)) (Qk _)) (Qf (Ql Xf)) Qo)
   (Qc (Qy (PW.pt (ZF (Qj (eqM K rfl hr.units) (pu 1) Qn (Qk _)) (Zt (Ju (Zg (Xc hr) (pu 0) Qn (λ_ _=>rfl)) (λ_=>rfl))))) (Qf (Ql (Zj YZ (Qp (ixK K rfl) (pu 2) Qd (λ_ _=>rfl)) (Qp (ixK K rfl) (Qp (ixK K rfl) (Zg (Xc hr) (pu 0) Qn (λ_ _=>rfl)) (Xa Zb Qd) (λ_ _=>rfl)) Qd (λ_ _=>rfl)) (Qk _)))) Qo)
   (Qf (Ql Xf)))))),?_⟩
 walk_at "go";refine Qz (λc=>?_) (λc=>?_)
 ·obtain⟨z,r,s',rfl⟩:=Gi c;obtain⟨v,v2,rfl,h1,h2⟩:=pv2 hA;cases YX h1;refine QX hL (v:=.str z) rfl ?_;simp only[Xi,Wa];walk_at "go";simp only[Wa];walk_at "go";obtain⟨ws,hw,hW⟩:=hD.hq 3 (by decide);refine⟨d,_,rfl,ZR hD (j:=3) (by decide),q' 3,rfl,⟨_,SqL.of hw⟩,?_⟩;have hfl:(xs.filter λx=>decide (x.sl=3)).length<=xs.length:=EX _ _;have hwl:=hW.1;refine Wo (xs:=ws) (CnI (xs.filter λx=>decide (x.sl=3)) H) ⟨none,none,rfl,Same.refl _,rfl⟩ (λi acc σ' H' _ h=>by obtain⟨_,_,_,g',_⟩:=h;exact g'.seq (SqL.of hw)) (by omega) ?_ ?_
  ·rintro i v acc _ H2 hv hacc ⟨x0,x1,rfl,g,rfl⟩;obtain⟨y,hy,hP⟩:=hW.getV hv;obtain⟨_,hsl⟩:=Xe hy;obtain⟨z2,r2,s2,rfl⟩:=Jo hsl;obtain⟨p,p2,rfl,hT,_⟩:=LQ hP;have hT2:=g.sqT hT;walk_at "go";simp only[Y6];walk_at "go";exact CN.mk (ZW hv) (by rw[FF,FK];omega) ⟨_,_,rfl,g,by rw[Et,hy,FR,FR];rfl⟩
  ·rintro acc _ H2 ⟨x0,x1,rfl,g,rfl⟩ p hp;rw[Eg (by omega)];refine ZY (SqL.of Qe) ?_;rw[F1]
   ·exact q _ (g.trans (Qg hp _))
   ·intro hm;obtain⟨y,hy,e⟩:=EB.mp hm;obtain⟨hy1,hy2⟩:=Eu.mp hy;obtain⟨z2,r2,s2,rfl⟩:=Jo (EI hy2);exact hf _ hy1 z2 r2 s2 rfl e
 have n3:x.sl≠3:=λe=>by
  obtain⟨z,r,s',rfl⟩:=Jo e;exact c rfl
 have hlt:((xs.filter λy=>decide (y.sl=x.sl)).length:Int)<mo x.sl:=by
  cases x with
  | cnt=>exact absurd rfl n3
  | off=>exact Int.ofNat_lt.mpr hf.1
  | _=>exact hf
 simp only[Wa,Ge];walk_at "go";obtain⟨ws,hw,hW⟩:=hD.hq x.sl (Xx x);refine⟨Sum.inr x.srt,_,rfl,JD x,d,_,rfl,ZR hD (Xx x),?_⟩;refine QT (SqL.of hw) ?_;walk_at "go";refine⟨Sum.inr x.srt,_,rfl,JD x,Sum.inr (sn x.sl),_,rfl,UW (Xx x) n3,?_⟩;walk_at "go";have hwl:=hW.1;refine Qz (λc=>by omega) (λ_=>?_);refine Qz (λc2=>?_) (λ_=>q _ (Same.refl _));obtain⟨l,r,s',rfl⟩:=Ls c2;obtain⟨v,v2,rfl,h1,h2⟩:=pv2 hA;cases Zx h1;walk_at "go";have hw:H (q' 4)=some (.lst ws):=hw;refine⟨d,_,rfl,ZR hD (j:=4) (by decide),_,.inl ⟨ws,SqL.of hw,rfl⟩,?_⟩;rcases List.eq_nil_or_concat ws with rfl|⟨w0,v,rfl⟩
 ·exact q _ (Same.refl _)
 rw[FD (by simp)];have hw:=SqL.of (K:=K) hw;rw[List.concat_eq_append] at hw hW;refine QX hL (v:=.int l) rfl ⟨d,_,rfl,ZR hD (j:=4) (by decide),QX hw (Zf _ _) ?_⟩;obtain⟨y,hy,hP⟩:=hW.getV (i:=w0.length) (v:=v) (by rw[Em (FE _),Es];rfl);obtain⟨hm,hsl⟩:=Xe (j:=4) hy;obtain⟨l2,r2,s2,rfl⟩:=Ux hsl;obtain⟨p,p2,rfl,hT,_⟩:=LP hP;refine ZE hT rfl ?_;walk_at "go";rw[Ef (show l > l2 from hf.2 _ hm l2 r2 s2 rfl)];exact q _ (Same.refl _)
theorem PJ {fs:List (Str×V)}(h:H p=some (.ins C dx fs))(k:H l=some (.lst vs)):l≠p:=λe=>by rw[e,h] at k;cases k
theorem Mz (h:H p=some o)(k:H l=none):l≠p:=λe=>by rw[e,h] at k;cases k
theorem Y4 {fs:List (Str×V)}{f:Str}(h:fs.length<=n):(QO f v fs).length<=n+1:=F2 (XS _ _ _) (Nat.succ_le_succ h)
theorem Rw (kl:H l=some (.lst vs))(q:∀l',H l'=none->Q (.ref l') (upd H l' (.lst vs))):KU K [.ref l] H Q:=⟨l,vs,rfl,.inl (SqL.of kl),q⟩
theorem W2 {H0:Hp}{f:Str}{fs:List (Str×V)}(ot:Oth p H0 H)(hp:H p=some (.ins C dx fs))(hp0:H0 p=some (.ins C dx []))(kl:H0 l=some (.lst vs)){Q:Hp->Prop}(c:Cls K C)(n:NoAttr K C f)(hl:fs.length<1000)
  (q:∀l' H',H0 l'=none->Oth p H0 H'->Oth p H H'->H' p=some (.ins C dx (QO f (.ref l') fs))->H' l'=some (.lst vs)->l'≠p->Q H') :
  KU K [.ref l] H λx H1=>∃a C' dx' fs',V.ref p=.ref a/\H1 a=some (.ins C' dx' fs')/\Cls K C'/\NoAttr K C' f/\fs'.length<1000/\Q (upd H1 a (.ins C' dx' (QO f x fs'))):=by
 refine Rw (ot _ _ (PJ hp0 kl) kl) λl' hl'=>?_
 have np:=Mz hp hl';exact⟨p,C,dx,fs,rfl,by rw[Qq np.symm];exact hp,c,n,hl,q l' _ (by cases e:H0 l' with|none=>rfl|some u=>rw[ot _ _ np e] at hl';cases hl') (ot.new hl').put ((Oth.refl p H).new hl').put Qe (by rw[Qq np];exact Qe) np⟩
def kF (xtitle xparts xterms xpays xcounts xoffs xlimit xunit xway:V):List (Str×V):=QO (Str.ofString "way") xway (QO (Str.ofString "unit") xunit (QO (Str.ofString "limit") xlimit (QO (Str.ofString "offs") xoffs (QO (Str.ofString "counts") xcounts (QO (Str.ofString "pays") xpays (QO (Str.ofString "terms") xterms (QO (Str.ofString "parts") xparts (QO (Str.ofString "title") xtitle []))))))))
theorem MH {f g i:V}:(kF a b c d e f g h i).lookup (Str.ofString "title")=some a:=by kernel_rfl
theorem V0 {f g i:V}:(kF a b c d e f g h i).lookup (Str.ofString "parts")=some b:=by kernel_rfl
theorem VZ {f g i:V}:(kF a b c d e f g h i).lookup (Str.ofString "terms")=some c:=by kernel_rfl
theorem Bi {f g i:V}:(kF a b c d e f g h i).lookup (Str.ofString "pays")=some d:=by kernel_rfl
theorem Np {f g i:V}:(kF a b c d e f g h i).lookup (Str.ofString "counts")=some e:=by kernel_rfl
theorem Bj {f g i:V}:(kF a b c d e f g h i).lookup (Str.ofString "offs")=some f:=by kernel_rfl
theorem V1 {f g i:V}:(kF a b c d e f g h i).lookup (Str.ofString "limit")=some g:=by kernel_rfl
theorem Gz {f g i:V}:(kF a b c d e f g h i).lookup (Str.ofString "unit")=some h:=by kernel_rfl
theorem PX {f g i:V}:(kF a b c d e f g h i).lookup (Str.ofString "way")=some i:=by kernel_rfl
inductive φkindI (C:Addr)(x nm pa te py co of li un wa:V)(H:Hp)(Q:VK):Prop
 | mk (p dx l1 l2 l3 l4 l5:Addr) (v1 v2 v3 v4 v5:List V) (h1:x=.ref p) (h2:H p=some (.ins C dx [])) (e1:pa=.ref l1) (k1:H l1=some (.lst v1)) (e2:te=.ref l2) (k2:H l2=some (.lst v2)) (e3:py=.ref l3) (k3:H l3=some (.lst v3)) (e4:co=.ref l4) (k4:H l4=some (.lst v4)) (e5:of=.ref l5) (k5:H l5=some (.lst v5))
   (h3:∀H' m1 m2 m3 m4 m5,Oth p H H'->H' p=some (.ins C dx (kF nm (.ref m1) (.ref m2) (.ref m3) (.ref m4) (.ref m5) li un wa))->H' m1=some (.lst v1)/\H m1=none->H' m2=some (.lst v2)/\H m2=none->H' m3=some (.lst v3)/\H m3=none->H' m4=some (.lst v4)/\H m4=none->H' m5=some (.lst v5)/\H m5=none->Q .non H'):φkindI C x nm pa te py co of li un wa H Q
theorem WJ (T:Tx w K mg t)(F:FunD K "__init__" "Kind.__init__" QG f fd):FnOk P w K mg base CX0 1 f fd ["self","title","parts","terms","pays","counts","offs","limit","unit","way"] (Tn (φkindI t.aC)):=by
 refine F.ok WB SK (λcdv A outer s H vs Q E hr h=>?_);obtain⟨_,nm,_,_,_,_,_,li,un,wa,rfl,p,dx,l1,l2,l3,l4,l5,v1,v2,v3,v4,v5,rfl,hp,rfl,k1,rfl,k2,rfl,k3,rfl,k4,rfl,k5,q⟩:=h;refine⟨_,((Qc (QH K rfl (pu 0) (pu 1))
   (Qc (QH K rfl (pu 0) (QE (ZQ K rfl) (by rfl) T.aO EC (Qa (pu 2) Qb)))
   (Qc (QH K rfl (pu 0) (QE (ZQ K rfl) (by rfl) T.aO EC (Qa (pu 3) Qb)))
   (Qc (QH K rfl (pu 0) (QE (ZQ K rfl) (by rfl) T.aO EC (Qa (pu 4) Qb)))
   (Qc (QH K rfl (pu 0) (QE (ZQ K rfl) (by rfl) T.aO EC (Qa (pu 5) Qb)))
   (Qc (QH K rfl (pu 0) (QE (ZQ K rfl) (by rfl) T.aO EC (Qa (pu 6) Qb)))
   (Qc (QH K rfl (pu 0) (pu 7))
   (Qc (QH K rfl (pu 0) (pu 8))
   (Qf (QH K rfl (pu 0) (pu 9)))))))))))),?_⟩
 walk_at "go";refine X6 hp T.aD T.cV (by decide) ?_;have o1:=(Oth.refl p H).put (o:=.ins t.aC dx (QO (Str.ofString "title") nm []));have i1:(upd H p (.ins t.aC dx (QO (Str.ofString "title") nm []))) p=some (.ins t.aC dx (QO (Str.ofString "title") nm [])):=Qe;have z1:(QO (Str.ofString "title") nm []).length<=1:=XS _ _ _;generalize upd H p (.ins t.aC dx (QO (Str.ofString "title") nm []))=H1 at *;walk_at "go";refine W2 o1 i1 hp k1 T.aD T.bZ (by omega) λm1 H2 fr1 o2 t2 i2 j1 np1=>?_
 have z2:=Y4 (f:=Str.ofString "parts") (v:=.ref m1) z1;walk_at "go";refine W2 o2 i2 hp k2 T.aD T.c7 (by omega) λm2 H3 fr2 o3 t3 i3 j2 np2=>?_
 have z3:=Y4 (f:=Str.ofString "terms") (v:=.ref m2) z2;walk_at "go";refine W2 o3 i3 hp k3 T.aD T.cW (by omega) λm3 H4 fr3 o4 t4 i4 j3 np3=>?_
 have z4:=Y4 (f:=Str.ofString "pays") (v:=.ref m3) z3;walk_at "go";refine W2 o4 i4 hp k4 T.aD T.cX (by omega) λm4 H5 fr4 o5 t5 i5 j4 np4=>?_
 have z5:=Y4 (f:=Str.ofString "counts") (v:=.ref m4) z4;walk_at "go";refine W2 o5 i5 hp k5 T.aD T.cY (by omega) λm5 H6 fr5 o6 t6 i6 j5 np5=>?_
 have z6:=Y4 (f:=Str.ofString "offs") (v:=.ref m5) z5;walk_at "go";refine X6 i6 T.aD T.c8 (by omega) ?_;have z7:=Y4 (f:=Str.ofString "limit") (v:=li) z6;walk_at "go";refine X6 Qe T.aD T.c9 (by omega) ?_;have z8:=Y4 (f:=Str.ofString "unit") (v:=un) z7;walk_at "go";refine X6 Qe T.aD T.cZ (by omega) ?_;have pn:∀m,m≠p->∀(a b c o:HO),H6 m=some o->(upd (upd (upd H6 p a) p b) p c) m=some o:=λm np a b c o h=>by rw[Qq np,Qq np,Qq np];exact h
 exact q _ m1 m2 m3 m4 m5 o6.put.put.put Qe ⟨pn _ np1 _ _ _ _ (t6 _ _ np1 (t5 _ _ np1 (t4 _ _ np1 (t3 _ _ np1 j1)))),fr1⟩ ⟨pn _ np2 _ _ _ _ (t6 _ _ np2 (t5 _ _ np2 (t4 _ _ np2 j2))),fr2⟩ ⟨pn _ np3 _ _ _ _ (t6 _ _ np3 (t5 _ _ np3 j3)),fr3⟩ ⟨pn _ np4 _ _ _ _ (t6 _ _ np4 j4),fr4⟩ ⟨pn _ np5 _ _ _ _ j5,fr5⟩
def cF (a b c:V):List (Str×V):=QO "titles" c (QO "each" b (QO "limit" a []))
def oF (a b:V):List (Str×V):=QO "caps" b (QO "kinds" a [])
def rF (a b c:V):List (Str×V):=QO "asked_for" c (QO "caps" b (QO "drafts" a []))
inductive φcapI (C:Addr)(x y z u:V)(H:Hp)(Q:VK):Prop
 | mk (p dx l:Addr) (vs:List V) (h1:x=.ref p) (h2:H p=some (.ins C dx [])) (h3:u=.ref l) (h4:H l=some (.lst vs)) (h5:∀H' m,Oth p H H'->H' p=some (.ins C dx (cF y z (.ref m)))->H' m=some (.lst vs)->H m=none->Q .non H'):φcapI C x y z u H Q
theorem W5 (T:Tx w K mg t)(F:Fun K "__init__" "Cap.__init__" Zs f fd):FnOk P w K mg base CX0 1 f fd ["self","limit","each","titles"] (Sp4 (φcapI t.aJ)):=by
 refine F.ok W4 GW (λcdv A outer s H vs Q E hr h=>?_);obtain⟨_,a,b,_,rfl,p,dx,l,vs,rfl,hp,rfl,kl,q⟩:=h;refine⟨_,((Qc (QH K rfl (pu 0) (pu 1))
   (Qc (QH K rfl (pu 0) (pu 2))
   (Qf (QH K rfl (pu 0) (QE (ZQ K rfl) (by rfl) T.aO EC (Qa (pu 3) Qb))))))),?_⟩
 walk_at "go";refine X6 hp T.bE T.d2 (by decide) ?_;walk_at "go";refine X6 Qe T.bE T.d5 len1 ?_;walk_at "go";refine W2 (Oth.refl _ _).put.put Qe hp kl T.bE T.cA len2 λm H2 fr o2 t2 i2 j2 np=>?_
 walk_at "go";exact q _ m o2 i2 j2 fr
inductive φoffI (C:Addr)(x y z:V)(H:Hp)(Q:VK):Prop
 | mk (p dx l1 l2:Addr) (v1 v2:List V) (h1:x=.ref p) (h2:H p=some (.ins C dx [])) (e1:y=.ref l1) (k1:H l1=some (.lst v1)) (e2:z=.ref l2) (k2:H l2=some (.lst v2)) (h5:∀H' m1 m2,Oth p H H'->H' p=some (.ins C dx (oF (.ref m1) (.ref m2)))->H' m1=some (.lst v1)/\H m1=none->H' m2=some (.lst v2)/\H m2=none->Q .non H'):φoffI C x y z H Q
theorem Y1 (T:Tx w K mg t)(F:Fun K "__init__" "Office.__init__" Ze f fd):FnOk P w K mg base CX0 1 f fd ["self","kinds","caps"] (Sp3 (φoffI t.aK)):=by
 refine F.ok YV KM (λcdv A outer s H vs Q E hr h=>?_);obtain⟨_,_,_,rfl,p,dx,l1,l2,v1,v2,rfl,hp,rfl,k1,rfl,k2,q⟩:=h;refine⟨_,((Qc (QH K rfl (pu 0) (QE (ZQ K rfl) (by rfl) T.aO EC (Qa (pu 1) Qb)))
   (Qf (QH K rfl (pu 0) (QE (ZQ K rfl) (by rfl) T.aO EC (Qa (pu 2) Qb)))))),?_⟩
 walk_at "go";refine W2 (Oth.refl _ _) hp hp k1 T.bI T.cB (by decide) λm1 H2 fr1 o2 t2 i2 j1 np1=>?_
 walk_at "go";refine W2 o2 i2 hp k2 T.bI T.cD len1 λm2 H3 fr2 o3 t3 i3 j2 np2=>?_
 walk_at "go";exact q _ m1 m2 o3 i3 ⟨t3 _ _ np1 j1,fr1⟩ ⟨j2,fr2⟩
inductive φrdI (C:Addr)(x:V)(H:Hp)(Q:VK):Prop
 | mk (p dx:Addr) (h1:x=.ref p) (h2:H p=some (.ins C dx [])) (h5:∀H' m1 m2 m3,Oth p H H'->H' p=some (.ins C dx (rF (.ref m1) (.ref m2) (.ref m3)))->H' m1=some (.lst [])/\H m1=none->H' m2=some (.lst [])/\H m2=none->H' m3=some (.lst [])/\H m3=none->m1≠m2->m1≠m3->m2≠m3->Q .non H'):φrdI C x H Q
theorem Mx {H0:Hp}{f:Str}{fs:List (Str×V)}(ot:Oth p H0 H)(hp:H p=some (.ins C dx fs)){D:Q6}{σ:L2.St}{i:Nat}(c:Cls K C)(n:NoAttr K C f)(hl:fs.length<1000)
  (q:∀l' H',H l'=none->H0 l'=none->Oth p H0 H'->Oth p H H'->H' p=some (.ins C dx (QO f (.ref l') fs))->H' l'=some (.lst [])->l'≠p->D.nx σ H') (e:σ[i]?=some (some (.ref p)):=by rfl):Ly K (X7 i) (RS Uu) f D σ H:=by
 refine⟨F7 _,λl' hl'=>?_⟩;have np:=Mz hp hl';show asVar σ[i]? _;rw[e];exact⟨p,C,dx,fs,rfl,by rw[Qq np.symm];exact hp,c,n,hl,q l' _ hl' (by cases e:H0 l' with|none=>rfl|some u=>rw[ot _ _ np e] at hl';cases hl') (ot.new hl').put ((Oth.refl p H).new hl').put Qe (by rw[Qq np];exact Qe) np⟩
theorem Y0 (T:Tx w K mg t)(F:Fun K "__init__" "Reader.__init__" Zd f fd):FnOk P w K mg base CX0 1 f fd ["self"] (Sp1 (φrdI t.aH)):=by
 refine F.ok YU YT (λcdv A outer s H vs Q E hr h=>?_);obtain⟨_,rfl,p,dx,rfl,hp,q⟩:=h;refine⟨_,((Qc (QH K rfl (pu 0) (QF Qb))
   (Qc (QH K rfl (pu 0) (QF Qb))
   (Qf (QH K rfl (pu 0) (QF Qb)))))),?_⟩
 walk_at "go";refine Mx (Oth.refl _ _) hp T.aE T.bF (by decide) λm1 H1 z1 f1 o1 t1 i1 j1 np1=>?_
 walk_at "go";refine Mx o1 i1 T.aE T.bO len1 λm2 H2 z2 f2 o2 t2 i2 j2 np2=>?_
 walk_at "go";refine Mx o2 i2 T.aE T.bV len2 λm3 H3 z3 f3 o3 t3 i3 j3 np3=>?_
 walk_at "go";have k1:=t2 _ _ np1 j1;exact q _ m1 m2 m3 o3 i3 ⟨t3 _ _ np1 k1,f1⟩ ⟨t3 _ _ np2 j2,f2⟩ ⟨j3,f3⟩ (Qm j1 z2) (Qm k1 z3) (Qm j2 z3)
def KdR (K:W.Frag)(t:Adr)(N:Addr->Prop)(H:Hp)(k:Str×List Itm)(v:V):Prop:=∃x dx li un wa,∃m:Nat->Addr,v=.ref x/\H x=some (.ins t.aC dx (kF (.str k.1) (.ref (m 0)) (.ref (m 1)) (.ref (m 2)) (.ref (m 3)) (.ref (m 4)) li un wa)) /\
 (∀j<5,N (m j)/\∃vs,H (m j)=some (.lst vs)/\All2 (PIt K t H) (k.2.filter λx=>decide (x.sl=j)) vs) /\
 (match k.2.filter λx=>decide (x.sl=5) with|.unt a::_=>li=.int a|_=>li=.non)/\match k.2.filter λx=>decide (x.sl=6) with|.rnd u z::_=>un=.int u/\wa=.str z|_=>un=.non
theorem X1 (g:Kp N H H'){xs:List Itm}{vs:List V}(h:All2 (PIt K t H) xs vs):All2 (PIt K t H') xs vs:=⟨h.1,λi a b ha hb=>(h.2 i a b ha hb).kp g⟩
theorem KdR.kp {k:Str×List Itm}(g:Kp N H H')(h:KdR K t N H k v):KdR K t N H' k v:=by
 obtain⟨x,dx,li,un,wa,m,e,h1,h2,h3,h4⟩:=h;refine⟨x,dx,li,un,wa,m,e,g.ins h1,λj hj=>?_,h3,h4⟩;obtain⟨n1,vs,h5,h6⟩:=h2 j hj;exact⟨n1,vs,g _ _ h5 (.inl n1),X1 g h6⟩
inductive φkof (K:W.Frag)(t:Adr)(x:V)(H:Hp)(Q:VK):Prop
 | mk (d:Addr) (z:Str) (xs:List Itm) (q:Nat->Addr) (h1:x=.ref d) (h2:DrR K t H d z xs q) (h3:∀v H',Same H H'->KdR K t (λb=>H b=none) H' (z,xs) v->Q v H'):φkof K t x H Q
theorem DrR.kp {d:Addr}{xs:List Itm}(g:Same H H')(h:DrR K t H d z xs q):DrR K t H' d z xs q:=by
 refine⟨g _ _ h.hd,λj hj=>?_⟩;obtain⟨vs,h1,h2⟩:=h.hq j hj;exact⟨vs,g _ _ h1,X1 (N:=λ_=>True) (.of g) h2⟩
theorem ZP {x:Addr}{b:Addr}(hx:H x=none)(hd:H dx=none)(h:H b=some o):nIn C x dx H b=some o:=by
 show upd (upd H dx (.own x)) x (.ins C dx []) b=some o;rw[Qq (Qm h hx),Qq (Qm h hd)];exact h
theorem XU {x:Addr}{b:Addr}(hx:H x=none)(hd:H dx=none)(h:nIn C x dx H b=none):H b=none:=by
 cases e:H b with
 | none=>rfl
 | some o=>rw[ZP hx hd e] at h;cases h
theorem Ua {d:Addr}{xs:List Itm}(hD:DrR K t H d z xs q):DGet H d (.str (q_ "title")) (some (.str z)):=by
 have:=DGet.k (k:=(Sum.inr (q_ "title"):Key)) hD.hd;rw[NA] at this;exact this
theorem LM {a:Int}(h:PIt K t H (.unt a) v):∃x,v=.ref x/\SqT K H x [.int a]:=by
 cases h with|unt _ x h=>exact⟨x,rfl,h⟩
theorem LN {u:Int}(h:PIt K t H (.rnd u z) v):∃x,v=.ref x/\SqT K H x [.int u,.str z]:=by
 cases h with|rnd _ _ x h=>exact⟨x,rfl,h⟩
theorem KO {x:Itm}(h:x.sl=5):∃a,x=.unt a:=by cases x<;>first|exact⟨_,rfl⟩|exact absurd h (by simp[Itm.sl])
theorem N4 {x:Itm}(h:x.sl=6):∃u z,x=.rnd u z:=by cases x<;>first|exact⟨_,_,rfl⟩|exact absurd h (by simp[Itm.sl])
theorem UN (T:Tx w K mg t)(F:Fun K "kind_of" "kind_of" XN f fd)(eD:Lh P w K mg base 1 t.aC ["self","title","parts","terms","pays","counts","offs","limit","unit","way"] [] (Sp10M (φkindI t.aC))):FnOk P w K mg base CX0 3 f fd ["draft"] (Sp1 (φkof K t)):=by
 refine F.ok sc_kind_of YT (λcdv A outer s H vs Q E hr h=>?_);obtain⟨_,rfl,d,z,xs,q',rfl,hD,q⟩:=h;refine⟨_,((Qc (Qw (i:=1) sc_kind_of.nd rfl (Or.inl rfl) (Jw (Ju (Zg (Xc hr) (pu 0) Qn (λ_ _=>rfl)) (λ_=>rfl)) (Qp (ixK K rfl) (Qp (ixK K rfl) (Zg (Xc hr) (pu 0) Qn (λ_ _=>rfl)) Qd (λ_ _=>rfl)) Qd (λ_ _=>rfl)) K1))
   (Qc (Qw (i:=2) sc_kind_of.nd rfl (Or.inl rfl) (Jw (Ju (Zg (Xc hr) (pu 0) Qn (λ_ _=>rfl)) (λ_=>rfl)) (Qp (ixK K rfl) (Zg (Xc hr) (pu 0) Qn (λ_ _=>rfl)) Qd (λ_ _=>rfl)) (QU (Qa K1 (Qa Qn Qb)))))
   (Qf (Ql (LX eD (hrm hr) rfl T.cK (Qa (Zg (Xc hr) (pu 0) Qn (λ_ _=>rfl)) (Qa (Zg (Xc hr) (pu 0) Qn (λ_ _=>rfl)) (Qa (Zg (Xc hr) (pu 0) Qn (λ_ _=>rfl)) (Qa (Zg (Xc hr) (pu 0) Qn (λ_ _=>rfl)) (Qa (Zg (Xc hr) (pu 0) Qn (λ_ _=>rfl)) (Qa (Zg (Xc hr) (pu 0) Qn (λ_ _=>rfl)) (Qa (pu 1) (Qa (Qp (ixK K rfl) (pu 2) Qd (λ_ _=>rfl)) (Qa (Qp (ixK K rfl) (pu 2) Qd (λ_ _=>rfl)) Qb))))))))))))))),?_⟩
 generalize hM:RR (YM t.aC _ _ _ _)=M;have fin:∀(D:Q6) (li un wa:V) (p:Addr) (H1:Hp),D.rt=Q->Same H H1->SqT K H1 p [un,wa]->(match xs.filter λx=>decide (x.sl=5) with|.unt a::_=>li=.int a|_=>li=.non)->(match xs.filter λx=>decide (x.sl=6) with|.rnd u z::_=>un=.int u/\wa=.str z|_=>un=.non)->M D [some (.ref d),some li,some (.ref p)] H1:=by
  subst hM;intro D li un wa p H1 hDr g1 hp c1 c2;have hD1:=hD.kp g1;simp only[BN,YM];walk_at "go";simp only[Wa];walk_at "go";obtain⟨v0,k0,a0⟩:=hD1.hq 0 (by decide);obtain⟨v1,k1,a1⟩:=hD1.hq 1 (by decide);obtain⟨v2,k2,a2⟩:=hD1.hq 2 (by decide);obtain⟨v3,k3,a3⟩:=hD1.hq 3 (by decide);obtain⟨v4,k4,a4⟩:=hD1.hq 4 (by decide);refine⟨d,_,rfl,Ua hD1,d,_,rfl,ZR hD1 (j:=0) (by decide),d,_,rfl,ZR hD1 (j:=1) (by decide),d,_,rfl,ZR hD1 (j:=2) (by decide),d,_,rfl,ZR hD1 (j:=3) (by decide),d,_,rfl,ZR hD1 (j:=4) (by decide),?_⟩;walk_at "go";intro x dx hx hdx _;refine⟨x,dx,q' 0,q' 1,q' 2,q' 3,q' 4,v0,v1,v2,v3,v4,rfl,X2,rfl,ZP hx hdx k0,rfl,ZP hx hdx k1,rfl,ZP hx hdx k2,rfl,ZP hx hdx k3,rfl,ZP hx hdx k4,λH' m0 m1 m2 m3 m4 o hx' b0 b1 b2 b3 b4=>⟨rfl,?_⟩⟩;have g2:=ZC hx hdx o;have fr:∀{b},nIn t.aC x dx H1 b=none->H b=none:=λh=>g1.free (XU hx hdx h)
  have kp:∀{l:List Itm} {vs:List V},All2 (PIt K t H1) l vs->All2 (PIt K t H') l vs:=λh=>X1 (N:=λ_=>True) (.of g2) h
  rw[hDr];refine q _ _ (g1.trans g2) ⟨x,dx,li,un,wa,λj=>match j with|0=>m0|1=>m1|2=>m2|3=>m3|_=>m4,rfl,hx',λj hj=>?_,c1,c2⟩;rcases(show j=0∨j=1∨j=2∨j=3∨j=4 by omega) with rfl|rfl|rfl|rfl|rfl
  ·exact⟨fr b0.2,v0,b0.1,kp a0⟩
  ·exact⟨fr b1.2,v1,b1.1,kp a1⟩
  ·exact⟨fr b2.2,v2,b2.1,kp a2⟩
  ·exact⟨fr b3.2,v3,b3.1,kp a3⟩
  ·exact⟨fr b4.2,v4,b4.1,kp a4⟩
 generalize hR:Y9 (VB _ (Wk 2)) M=R;have key:∀(D:Q6) (li:V),D.rt=Q->(match xs.filter λx=>decide (x.sl=5) with|.unt a::_=>li=.int a|_=>li=.non)->R D [some (.ref d),some li,none] H:=by
  subst hR;intro D li hDr c1;walk_at "go";simp only[Wa];walk_at "go";obtain⟨v6,k6,a6⟩:=hD.hq 6 (by decide);refine⟨d,_,rfl,ZR hD (j:=6) (by decide),_,.inl ⟨v6,SqL.of k6,rfl⟩,?_⟩;cases e:v6 with
  | nil=>
   rw[FC (by simp)];refine⟨by decide,λp hp=>fin _ _ .non (.str (q_ "down")) p _ hDr (Qg hp _) (SqT.of Qe) c1 ?_⟩;have:=a6.1;rw[e] at this;rw[List.eq_nil_of_length_eq_zero this]
  | cons v r=>
   rw[FD (by simp)];subst e;obtain⟨y,hy,hP⟩:=a6.getV (i:=0) (v:=v) rfl;obtain⟨_,hsl⟩:=Xe hy;obtain⟨u,z2,rfl⟩:=N4 hsl;obtain⟨p,rfl,hT⟩:=LN hP;refine⟨d,_,rfl,ZR hD (j:=6) (by decide),QX (SqL.of k6) (QW (j:=0) rfl) ?_⟩;refine fin _ _ _ _ p _ hDr (Same.refl _) hT c1 ?_;cases e2:xs.filter λx=>decide (x.sl=6) with
   | nil=>rw[e2] at hy;cases hy
   | cons y2 r2=>rw[e2] at hy;cases hy;exact⟨rfl,rfl⟩
 walk_at "go";simp only[Wa];walk_at "go";obtain⟨v5,k5,a5⟩:=hD.hq 5 (by decide);refine⟨d,_,rfl,ZR hD (j:=5) (by decide),_,.inl ⟨v5,SqL.of k5,rfl⟩,?_⟩;cases e:v5 with
 | nil=>
  rw[FC (by simp)];refine key _ _ rfl ?_;have:=a5.1;rw[e] at this;rw[List.eq_nil_of_length_eq_zero this]
 | cons v r=>
  rw[FD (by simp)];subst e;obtain⟨y,hy,hP⟩:=a5.getV (i:=0) (v:=v) rfl;obtain⟨_,hsl⟩:=Xe hy;obtain⟨u,rfl⟩:=KO hsl;obtain⟨p,rfl,hT⟩:=LM hP;refine⟨d,_,rfl,ZR hD (j:=5) (by decide),QX (SqL.of k5) (QW (j:=0) rfl) (ZE hT rfl ?_)⟩;refine key _ _ rfl ?_;cases e2:xs.filter λx=>decide (x.sl=5) with
  | nil=>rw[e2] at hy;cases hy
  | cons y2 r2=>rw[e2] at hy;cases hy;rfl
abbrev Cp:=Int×Int×List Str
variable {cs:List Cp}
def CpR (K:W.Frag)(t:Adr)(N:Addr->Prop)(H:Hp)(c:Cp)(v:V):Prop:=∃x dx l,v=.ref x/\H x=some (.ins t.aJ dx (cF (.int c.1) (.int c.2.1) (.ref l)))/\H l=some (.lst (c.2.2.map V.str))/\N l
theorem CpR.kp {c:Cp}(g:Kp N H H')(h:CpR K t N H c v):CpR K t N H' c v:=by
 obtain⟨x,dx,l,e,h1,h2,n⟩:=h;exact⟨x,dx,l,e,g.ins h1,g _ _ h2 (.inl n),n⟩
theorem Y5 (g:Kp N H H')(h:All2 (CpR K t N H) cs vs):All2 (CpR K t N H') cs vs:=⟨h.1,λi a b ha hb=>(h.2 i a b ha hb).kp g⟩
structure RdS (K:W.Frag)(t:Adr)(N:Addr->Prop)(ow:Addr->Nat)(H:Hp)(r dx a1 a2 a3:Addr)(ds:List Addr)(qs:Nat->Nat->Addr)(cvs:List V)(ks:List (Str×List Itm))(cs:List Cp)(as:List Str):Prop where
 hr:H r=some (.ins t.aH dx (rF (.ref a1) (.ref a2) (.ref a3)))
 h1:H a1=some (.lst (ds.map V.ref))
 h2:H a2=some (.lst cvs)
 h3:H a3=some (.lst (as.map V.str))
 n1:N a1
 n2:N a2
 n3:N a3
 dl:ds.length=ks.length
 dr:∀(i:Nat) d k,ds[i]?=some d->ks[i]?=some k->DrR K t H d k.1 k.2 (qs i)
 nq:∀i<ks.length,∀j<7,N (qs i j)
 cr:All2 (CpR K t (λl=>N l/\ow l=3) H) cs cvs
 o1:ow a1=0
 o2:ow a2=1
 o3:ow a3=2
 oq:∀i<ks.length,∀j<7,ow (qs i j)=10+7*i+j
theorem RdS.mono {ds:List Addr}(g:Same H H')(h:RdS K t N ow H r dx a1 a2 a3 ds qs cvs ks cs as):RdS K t N ow H' r dx a1 a2 a3 ds qs cvs ks cs as:=
 ⟨g _ _ h.hr,g _ _ h.h1,g _ _ h.h2,g _ _ h.h3,h.n1,h.n2,h.n3,h.dl,λi d k hd hk=>(h.dr i d k hd hk).kp g,h.nq,Y5 (.of g) h.cr,h.o1,h.o2,h.o3,h.oq⟩
def RdR (K:W.Frag)(t:Adr)(N:Addr->Prop)(H:Hp)(r:Addr)(ks:List (Str×List Itm))(cs:List Cp)(as:List Str):Prop:=∃ow dx a1 a2 a3 ds qs cvs,RdS K t N ow H r dx a1 a2 a3 ds qs cvs ks cs as
theorem ZT:(rF a b c).lookup (Str.ofString "drafts")=some a:=by kernel_rfl
theorem Jb:(rF a b c).lookup (Str.ofString "caps")=some b:=by kernel_rfl
theorem Jt:(rF a b c).lookup (Str.ofString "asked_for")=some c:=by kernel_rfl
theorem BZ:(rF a b c).lookup (Str.ofString "titles_told")=none:=by kernel_rfl
theorem LD:(rF a b c).lookup (Str.ofString "fits")=none:=by kernel_rfl
theorem Pe:(rF a b c).lookup (Str.ofString "caps_none_twice")=none:=by kernel_rfl
theorem LC:(rF a b c).lookup (Str.ofString "take")=none:=by kernel_rfl
theorem LB:(rF a b c).lookup (Str.ofString "office_told")=none:=by kernel_rfl
theorem Ku:(cF a b c).lookup (Str.ofString "titles")=some c:=by kernel_rfl
theorem La:(cF a b c).lookup (Str.ofString "limit")=some a:=by kernel_rfl
theorem BF:(cF a b c).lookup (Str.ofString "each")=some b:=by kernel_rfl
inductive φtt (K:W.Frag)(t:Adr)(x:V)(H:Hp)(Q:VK):Prop
 | mk (N:Addr->Prop) (r:Addr) (ks:List (Str×List Itm)) (cs:List Cp) (as:List Str) (h1:x=.ref r) (h2:RdR K t N H r ks cs as) (h3:ks.length<=1000) (h4:∀p H',Same H H'->H' p=some (.lst ((ks.map (·.1)).map V.str))->Q (.ref p) H'):φtt K t x H Q
def TtI (ks:List (Str×List Itm))(H:Hp)(i:Nat)(acc:List V)(σ':L2.St)(H':Hp):Prop:=∃x0,σ'=[x0]/\Same H H'/\acc=((ks.take i).map (·.1)).map V.str
theorem X9 (T:Tx w K mg t)(F:Fun K "titles_told" "Reader.titles_told" QZ f fd):FnOk P w K mg base CX0 1 f fd ["self"] (Sp1 (φtt K t)):=by
 refine F.ok X8 YT (λcdv A outer s H vs Q E hr h=>?_);obtain⟨_,rfl,N,r,ks,cs,as,rfl,⟨ow,dx,a1,a2,a3,ds,qs,cvs,S⟩,hn,q⟩:=h;refine⟨_,((Qf (Ql (Xz (N:=["draft"]) (caps:=[none]) rfl W8 (piK K rfl (QB K rfl (pu 0))) (λ_ _ _ _=>QA (i:=0) (show(["draft"]:List Str).Nodup by decide +kernel) rfl (Or.inl rfl) (.inr rfl)) (λ_ _ _ _=>Xh) (λ_ _ _ _=>(Zg (Xc hr) (pu 0) Qn (λ_ _=>rfl))))))),?_⟩;walk_at "go";simp only[Xi];walk_at "go";refine Q7 S.hr T.aE T.bF ZT ?_;have hdl:=S.dl;refine⟨a1,rfl,⟨_,SqL.of S.h1⟩,Wo (xs:=ds.map V.ref) (TtI ks H) ⟨none,rfl,Same.refl _,rfl⟩ (λi acc σ' H' _ h=>by obtain⟨_,_,g',_⟩:=h;exact g'.seq (SqL.of S.h1)) (by rw[FH];omega) ?_ ?_⟩
 ·rintro i v acc _ H2 hv hacc ⟨x0,rfl,g,rfl⟩;have hlt:=ZW hv;rw[F0] at hv;obtain⟨d,hd,rfl⟩:=F6.mp hv;obtain⟨k,hk⟩:∃k,ks[i]?=some k:=⟨_,FI (by rw[FH] at hlt;omega)⟩
  have hD:=(S.dr i d k hd hk).kp g;simp only[Y6,Wa];walk_at "go";refine⟨d,_,rfl,Ua hD,?_⟩;exact CN.mk hlt (by rw[FF,FK];omega) ⟨_,rfl,g,by rw[Et,hk,FR,FR];rfl⟩
 ·rintro acc _ H2 ⟨x0,rfl,g,rfl⟩ p hp;rw[Eg (by rw[FH];omega)];exact q _ _ (g.trans (Qg hp _)) Qe
inductive φcnt2 (K:W.Frag)(t:Adr)(x y:V)(H:Hp)(Q:VK):Prop
 | mk (N:Addr->Prop) (r a:Addr) (ns:List Str) (ks:List (Str×List Itm)) (cs:List Cp) (as:List Str) (h1:x=.ref r) (h1':y=.ref a) (h2:RdR K t N H r ks cs as) (h3:SqL K H a (ns.map V.str)) (h4:(ns++(cs.map (·.2.2)).flatten).Nodup) (h5:(ns++(cs.map (·.2.2)).flatten).length<=100) (h6:∀H',Same H H'->Q (.bl true) H'):φcnt2 K t x y H Q
def C2I (r a l:Addr)(ns:List Str)(cs:List Cp)(H:Hp)(i:Nat)(σ':L2.St)(H':Hp):Prop:=∃x3,σ'=[some (.ref r),some (.ref a),some (.ref l),x3]/\Same H H'/\H l=none/\H' l=some (.lst ((ns++((cs.take i).map (·.2.2)).flatten).map V.str))
theorem Xv (T:Tx w K mg t)(F:Fun K "caps_none_twice" "Reader.caps_none_twice" QN f fd):FnOk P w K mg base CX0 1 f fd ["self","titles"] (Sp2 (φcnt2 K t)):=by
 refine F.ok sc_Reader_caps_none_twice YS (λcdv A outer s H vs Q E hr h=>?_);obtain⟨_,_,rfl,N,r,a,ns,ks,cs,as,rfl,rfl,⟨ow,dx,a1,a2,a3,ds,qs,cvs,S⟩,hL,nd,hn,q⟩:=h;refine⟨_,((Qc (Qw (i:=2) sc_Reader_caps_none_twice.nd rfl (Or.inl rfl) (QE (ZQ K rfl) (by rfl) T.aO EC (Qa (pu 1) Qb)))
   (Qc (ZG Er rfl (piK K rfl (QB K rfl (pu 0))) (QA (i:=3) sc_Reader_caps_none_twice.nd rfl (Or.inl rfl))
   (Qf (QP (QQ K rfl F8 PySem.F.slot_list_extend PySem.F.type_list_extend Ko (pu 2) (Qa (QB K rfl (pu 3)) Qb)))))
   (Qf (Ql (Zj (eqM K rfl hr.units) (Qs NK (by rfl) T.aB FO (Qa (QE (NH K rfl rfl) (by rfl) T.gH boot_set (Qa (pu 2) Qb)) Qb)) (Qs (Zr K rfl) (by rfl) T.aB FO (Qa (pu 2) Qb)) (Qk _))))))),?_⟩
 walk_at "go";refine⟨a,_,rfl,.inl hL,λl hl=>?_⟩;have g1:=Qg hl (.lst (ns.map V.str));have hl1:(upd H l (.lst (ns.map V.str))) l=some (.lst (ns.map V.str)):=Qe;generalize upd H l (.lst (ns.map V.str))=H1 at *;walk_at "go";refine Q7 (g1 _ _ S.hr) T.aE T.bO Jb ?_;have hcl:=S.cr.1;refine⟨a2,rfl,⟨_,SqL.of (g1 _ _ S.h2)⟩,Yx (xs:=cvs) (C2I r a l ns cs H) ⟨none,rfl,g1,hl,by simpa using hl1⟩ (λi σ' H' _ h=>by obtain⟨_,_,g',_⟩:=h;exact SqL.of (g' _ _ S.h2)) ?_ ?_⟩
 ·rintro i v _ H2 hv ⟨x3,rfl,g,_,hl2⟩;obtain⟨c,hc,hP⟩:=S.cr.getV hv;obtain⟨x,dx',l',rfl,hx,hl',_⟩:=hP;have sub:((cs.take (i+1)).map (·.2.2)).flatten=((cs.take i).map (·.2.2)).flatten++c.2.2:=by rw[Et,hc,FR,Dd];simp
  have len:(ns++((cs.take (i+1)).map (·.2.2)).flatten).length<=100:=by
   refine F2 (List.Sublist.length_le ?_) hn;refine List.Sublist.append (List.Sublist.refl _) ?_
   conv=>rhs;rw [<-Dj (i+1) cs]
   rw[FR,Dd];exact List.sublist_append_left _ _
  walk_at "go";refine⟨.inl ⟨rfl,_,SqL.of hl2⟩,Q7 (g _ _ hx) T.bE T.cA Ku ⟨l,l',_,_,rfl,rfl,hl2,g _ _ hl',?_,?_⟩⟩
  ·rw [sub,<-List.append_assoc] at len;rw [<-FF,<-FR,FH,FN];exact F2 len (by decide)
  ·refine⟨_,rfl,λb o h=>by rw[Qq (Qm h hl)];exact g _ _ h,hl,?_⟩;simp only[Qe,sub,FR,List.append_assoc]
 ·rintro _ H2 ⟨x3,rfl,g,_,hl2⟩;rw[Eg (by omega)] at hl2;walk_at "go";refine⟨l,_,rfl,SqL.of hl2,nd,hn,λp hp=>⟨p,_,rfl,Qe,hn,?_⟩⟩;have hne:=Qm hl2 hp;refine QT (SqL.of (by rw[Qq hne];exact hl2)) ?_;walk_at "go";rw[FH,Ef rfl];exact q _ (g.trans (Qg hp _))
def U8 (ks:List (Str×List Itm))(cs:List Cp):Row->Prop
 | .kind z=>ks.length<8/\z∉ks.map (·.1)
 | .cap _ _ ns=>cs.length<4/\(ns++(cs.map (·.2.2)).flatten).Nodup
 | .itm x=>∃ks0 z xs,ks=ks0++[(z,xs)]/\YR xs x
structure Sml (n:Nat)(ks:List (Str×List Itm))(cs:List Cp)(as:List Str):Prop where
 k:ks.length<=n
 c:cs.length<=n
 a:as.length<=8*n
 x:∀k∈ks,k.2.length<=n
 m:∀c∈cs,c.2.2.length<=8
inductive φfits (K:W.Frag)(t:Adr)(x y z:V)(H:Hp)(Q:VK):Prop
 | mk (N:Addr->Prop) (r a:Addr) (vs:List V) (row:Row) (ks:List (Str×List Itm)) (cs:List Cp) (as:List Str) (h1:x=.ref r) (h2:y=.str row.srt) (h3:z=.ref a) (h4:RdR K t N H r ks cs as) (h5:SqL K H a vs) (h6:All2 (Pv K H) row.ds vs) (h7:U8 ks cs row) (h7':row.Ok) (h8:∃n,n<=100/\Sml n ks cs as) (h9:∀H',Same H H'->Q (.bl true) H'):φfits K t x y z H Q
theorem V8 (h:∀c∈cs,c.2.2.length<=8):(cs.map (·.2.2)).flatten.length<=8*cs.length:=by
 induction cs with
 | nil=>simp
 | cons c r ih=>
  have h1:=h c Eb;have h2:=ih λx hx=>h x (F5 _ hx)
  rw[El,List.flatten_cons,FF,Ea];omega
theorem Gh (x:Itm):(Row.itm x).srt≠q_ "kind"/\(Row.itm x).srt≠q_ "cap":=by
 cases x with
 | term u n l h'=>cases u;exact⟨show¬q_ "from"=q_ "kind" by decide +kernel,show¬q_ "from"=q_ "cap" by decide +kernel⟩;exact⟨show¬q_ "upto"=q_ "kind" by decide +kernel,show¬q_ "upto"=q_ "cap" by decide +kernel⟩
 | base=>exact⟨show¬q_ "base"=q_ "kind" by decide +kernel,show¬q_ "base"=q_ "cap" by decide +kernel⟩
 | each=>exact⟨show¬q_ "each"=q_ "kind" by decide +kernel,show¬q_ "each"=q_ "cap" by decide +kernel⟩
 | rent=>exact⟨show¬q_ "rent"=q_ "kind" by decide +kernel,show¬q_ "rent"=q_ "cap" by decide +kernel⟩
 | pay=>exact⟨show¬q_ "pay"=q_ "kind" by decide +kernel,show¬q_ "pay"=q_ "cap" by decide +kernel⟩
 | cnt=>exact⟨show¬q_ "counts"=q_ "kind" by decide +kernel,show¬q_ "counts"=q_ "cap" by decide +kernel⟩
 | off=>exact⟨show¬q_ "off"=q_ "kind" by decide +kernel,show¬q_ "off"=q_ "cap" by decide +kernel⟩
 | unt=>exact⟨show¬q_ "until"=q_ "kind" by decide +kernel,show¬q_ "until"=q_ "cap" by decide +kernel⟩
 | rnd=>exact⟨show¬q_ "round"=q_ "kind" by decide +kernel,show¬q_ "round"=q_ "cap" by decide +kernel⟩
theorem VI {K:W.Frag}{H:Hp}:∀{ns:List Str}{vs:List V},All2 (Pv K H) (ns.map D.str) vs->vs=ns.map V.str
 | [],vs,h=>List.eq_nil_of_length_eq_zero h.1.symm
 | n::ns,vs,h=>by
  match vs,h with
  | v::r,h=>
   have h0:=h.2 0 _ _ rfl rfl;rw[YX h0,VI (ns:=ns) (vs:=r) ⟨by have:=h.1;simpa using this,λi a b ha hb=>h.2 (i+1) a b (by simpa using ha) (by simpa using hb)⟩];rfl
theorem Mc {a b:Int}(h:All2 (Pv K H) (.int a::.int b::ns.map D.str) vs):vs=.int a::.int b::ns.map V.str:=by
 match vs,h with
 | v::u::r,h=>
  rw[Zx (h.2 0 _ _ rfl rfl),Zx (h.2 1 _ _ rfl rfl),VI (ns:=ns) (vs:=r) ⟨by have:=h.1;simpa using this,λi a b ha hb=>h.2 (i+2) a b (by simpa using ha) (by simpa using hb)⟩]
theorem Gy {ds:List Addr}{k:Str×List Itm}(S:RdS K t N ow H r dx a1 a2 a3 ds qs cvs (ks0++[k]) cs as):∃ds0 d,ds=ds0++[d]/\ds0.length=ks0.length/\DrR K t H d k.1 k.2 (qs ks0.length):=by
 have hl:=S.dl;rw[FF,FK] at hl;rcases List.eq_nil_or_concat ds with rfl|⟨ds0,d,rfl⟩
 ·simp at hl
 rw[List.concat_eq_append] at *;rw[FF,FK] at hl;have hl:ds0.length=ks0.length:=by omega
 exact ⟨ds0,d,rfl,hl,S.dr ks0.length d k (by rw [<-hl];simp) (by simp)⟩
theorem JB (T:Tx w K mg t)(F:Fun K "fits" "Reader.fits" ZA f fd)(eE:Cal P w K mg base 1 "fits_in" ["draft","sort","values"] (Sp3M (φfin K t)))(eF:Vw P w K mg base 1 t.aH "caps_none_twice" ["self","titles"] (Sp2M (φcnt2 K t)))(bP:Vw P w K mg base 1 t.aH "titles_told" ["self"] (Sp1M (φtt K t))):FnOk P w K mg base CX0 2 f fd ["self","sort","values"] (Sp3 (φfits K t)):=by
 refine F.ok Jq KM (λcdv A outer s H vs Q E hr h=>?_);obtain⟨_,_,_,rfl,N,r,a,vs,row,ks,cs,as,rfl,rfl,rfl,hR,hL,hA,hf,ok,⟨n,hn,sm⟩,q⟩:=h;refine⟨_,((Qc (Qy (Qj (eqM K rfl hr.units) (pu 1) Qn (Qk _)) (Qf (Ql (XA (Zj Xr (Qs (Zr K rfl) (by rfl) T.aB FO (Qa (QB K rfl (pu 0)) Qb)) (XT T.gU) (Qk _)) (Ys (Zj (XD K rfl) (Qp (ixK K rfl) (pu 2) Qd (λ_ _=>rfl)) (K2 bP (hrm hr) T.aE (pu 0)) (by with_unfolding_all rfl)))))) Qo)
   (Qc (Qy (Qj (eqM K rfl hr.units) (pu 1) Qn (Qk _)) (Qf (Ql (XA (Zj Xr (Qs (Zr K rfl) (by rfl) T.aB FO (Qa (QB K rfl (pu 0)) Qb)) (XT T.gV) (Qk _)) (Ys (UH eF (hrm hr) T.aE (pu 0) (Qa (Zp (slK K rfl) (pu 2) (Zv Qd) ZN) Qb)))))) Qo)
   (Qf (Ql (XA (Zj YZ (Qs (Zr K rfl) (by rfl) T.aB FO (Qa (QB K rfl (pu 0)) Qb)) Qd (Qk _)) (Ys (Qt eE (hrm hr) rfl (Qa (Qp (ixK K rfl) (QB K rfl (pu 0)) (Xa Zb Qd) (λ_ _=>rfl)) (Qa (pu 1) (Qa (pu 2) Qb))))))))))),?_⟩
 have hR':=hR;obtain⟨ow,dx,a1,a2,a3,ds,qs,cvs,S⟩:=hR';have hdl:=S.dl;have hcl:=S.cr.1;walk_at "go";cases row with
 | kind z=>
  obtain⟨v,rfl,h1⟩:=pv1 hA;cases YX h1;rw[FD (show(Row.kind z).srt=Str.ofString "kind" from rfl)];refine Q7 S.hr T.aE T.bF ZT (QT (SqL.of S.h1) ?_);rw[FH];walk_at "go";rw[FD (by have:=hf.1;omega)];refine QX hL (v:=.str z) rfl (GR S.hr BZ ?_);walk_at "go";have:=sm.k;exact⟨N,r,ks,cs,as,rfl,hR,by omega,λp H' g hp=>ZY (SqL.of hp) (by rw[F1 hf.2];exact q _ g)⟩
 | cap x y ns=>
  have e:=Mc hA;subst e;rw[FC (show¬(Row.cap x y ns).srt=Str.ofString "kind" from show¬q_ "cap"=q_ "kind" by decide +kernel),FD (show(Row.cap x y ns).srt=Str.ofString "cap" from rfl)];refine Q7 S.hr T.aE T.bO Jb (QT (SqL.of S.h2) ?_);walk_at "go";rw[FD (by have:=hf.1;omega)];refine GR S.hr Pe ?_;walk_at "go";refine Y7 hL λp hp=>?_
  rw[show X5 (V.int x::V.int y::ns.map V.str) (some 2) none=ns.map V.str from WT _ 2];have g1:=Qg hp (.lst (ns.map V.str));have k1:=V8 sm.m;have k2:=hf.1;have k3:=ok.2.2.2.2;exact⟨N,r,p,ns,ks,cs,as,rfl,rfl,⟨ow,dx,a1,a2,a3,ds,qs,cvs,S.mono g1⟩,SqL.of Qe,hf.2,by rw[FF];omega,λH' g=>q _ (g1.trans g)⟩
 | itm x=>
  obtain⟨e1,e2⟩:=Gh x;rw[FC e1,FC e2];obtain⟨ks0,z,xs,rfl,hfi⟩:=hf;obtain⟨ds0,d,rfl,hl0,hD⟩:=Gy S;have h1:=SqL.of (K:=K) S.h1;refine Q7 S.hr T.aE T.bF ZT (QT h1 ?_);walk_at "go";rw[FH,FF,FK,FD (by omega)];rw[FR] at h1;refine Q7 S.hr T.aE T.bF ZT (QX h1 (Zf _ _) ?_);have k1:xs.length<=n:=sm.x (z,xs) (by simp);exact⟨d,z,xs,_,x,a,vs,rfl,rfl,rfl,hD,hL,hA,hfi,by omega,λH' g=>q _ g⟩
def Vu:List (Str×List Itm)->Itm->List (Str×List Itm)
 | [],_=>[]
 | [k],x=>[(k.1,k.2++[x])]
 | k::r,x=>k::Vu r x
theorem WV {z:Str}{xs:List Itm}{x:Itm}:∀{ks0:List (Str×List Itm)},Vu (ks0++[(z,xs)]) x=ks0++[(z,xs++[x])]
 | []=>rfl
 | [k]=>rfl
 | k::k2::r=>by
  show k::Vu ((k2::r)++[(z,xs)]) x=_;rw[WV (ks0:=k2::r)];rfl
def kS (ks:List (Str×List Itm)):Row->List (Str×List Itm)
 | .kind z=>ks++[(z,[])]
 | .itm x=>Vu ks x
 | .cap ..=>ks
def cS (cs:List Cp):Row->List Cp
 | .cap a b ns=>cs++[(a,b,ns)]
 | _=>cs
def aS (as:List Str):Row->List Str
 | .cap _ _ ns=>as++ns
 | .itm (.cnt z _ _)=>as++[z]
 | _=>as
theorem Ul:∀{ks:List (Str×List Itm)}{x:Itm},(Vu ks x).length=ks.length
 | [],_=>rfl
 | [_],_=>rfl
 | _::k2::r,x=>by show(Vu (k2::r) x).length+1=_;rw[Ul];rfl
theorem Uk {n:Nat}{x:Itm}:∀{ks:List (Str×List Itm)},(∀k∈ks,k.2.length<=n)->∀k∈Vu ks x,k.2.length<=n+1
 | [],_,k,hk=>by cases hk
 | [k0],h,k,hk=>by
  have hk:k=(k0.1,k0.2++[x]):=FQ.mp hk;subst hk;have:=h k0 Eb;rw[FF,FK];omega
 | k0::k2::r,h,k,hk=>by
  rcases FP.mp (show k∈k0::Vu (k2::r) x from hk) with rfl|hk
  ·have:=h k Eb;omega
  ·exact Uk (λy hy=>h y (F5 _ hy)) k hk
theorem Sml.step {row:Row}(h:Sml n ks cs as)(ok:row.Ok):Sml (n+1) (kS ks row) (cS cs row) (aS as row):=by
 obtain⟨h1,h2,h3,h4,h5⟩:=h;cases row with
 | kind z=>
  refine⟨by show(ks++[(z,[])]).length<=_;rw[FF,FK];omega,by show cs.length<=_;omega,by show as.length<=_;omega,λk hk=>?_,h5⟩;rcases Ec.mp hk with hk|hk
  ·have:=h4 k hk;omega
  ·rw[FQ.mp hk];exact F7 _
 | cap a b ns=>
  have:=ok.2.2.2.2;refine⟨by show ks.length<=_;omega,by show(cs++[(a,b,ns)]).length<=_;rw[FF,FK];omega,by show(as++ns).length<=_;rw[FF];omega,λk hk=>by have:=h4 k hk;omega,λc hc=>?_⟩;rcases Ec.mp hc with hc|hc
  ·exact h5 c hc
  ·rw[FQ.mp hc];exact this
 | itm x=>
  refine⟨by show(Vu ks x).length<=_;rw[Ul];omega,by show cs.length<=_;omega,?_,Uk h4,h5⟩;cases x with
  | cnt z r s=>show(as++[z]).length<=_;rw[FF,FK];omega
  | _=>show as.length<=_;omega
def Sn (N:Addr->Prop)(H H':Hp):Prop:=∀b o,¬N b->H b=some o->H' b=some o
theorem Sn.of (g:Same H H'):Sn N H H':=λb o _ h=>g b o h
theorem Sn.trans (a:Sn N H H1)(b:Sn N H1 H2):Sn N H H2:=λc o n h=>b c o n (a c o n h)
theorem Sn.put {c:Addr}(n:N c):Sn N H (upd H c o):=λb u hn h=>by
 have:b≠c:=λe=>hn (by rw[e];exact n)
 rw[Qq this];exact h
theorem Q4 {c:Addr}{ws:List V}(hc:H c=some (.lst ws))(h:∀b,N b->b≠c):Kp N H (upd H c o):=λb u e k=>by
 have:b≠c:=by
  rcases k with k|k
  ·exact h b k
  ·intro e2;subst e2;rw[hc] at e;exact k ws (FX e).symm
 rw[Qq this];exact e
theorem DrR.upd {d:Addr}{xs:List Itm}{c:Addr}{ws:List V}(h:DrR K t H d z xs q)(hc:H c=some (.lst ws))(hn:∀j<7,q j≠c):DrR K t (L2.upd H c o) d z xs q:=by
 have g:=Q4 (N:=λb=>b≠c) (o:=o) hc λb h=>h
 refine⟨g _ _ h.hd (.inr λvs e=>nomatch e),λj hj=>?_⟩;obtain⟨vs,h1,h2⟩:=h.hq j hj;exact⟨vs,g _ _ h1 (.inl (hn j hj)),X1 g h2⟩
theorem DrR.add {d:Addr}{xs:List Itm}{x:Itm}(h:DrR K t H d z xs q)(hc:H (q x.sl)=some (.lst vs))(hinj:∀i<7,∀j<7,q i=q j->i=j)(hv:PIt K t H x v):DrR K t (L2.upd H (q x.sl) (.lst (vs++[v]))) d z (xs++[x]) q:=by
 have g:=Q4 (N:=λb=>b≠q x.sl) (o:=.lst (vs++[v])) hc λb h=>h
 refine⟨g _ _ h.hd (.inr λvs e=>nomatch e),λj hj=>?_⟩;obtain⟨us,h1,h2⟩:=h.hq j hj;rw[Dg];by_cases e:x.sl=j
 ·subst e;rw[hc] at h1;cases h1;refine⟨_,Qe,?_⟩;rw[show[x].filter (λy=>decide (y.sl=x.sl))=[x] by simp];have h3:=X1 g h2;have hl:=h3.1;refine⟨by rw[FF,FF,hl];rfl,λi a b ha hb=>?_⟩;by_cases hi:i<vs.length
  ·rw[En (by omega)] at ha;rw[En hi] at hb;exact h3.2 i a b ha hb
  ·have hi2:i<(vs++[v]).length:=(FZ.mp hb).1;rw[FF,FK] at hi2;have:i=vs.length:=by omega
   subst this;rw[Em (by omega),hl,Es] at ha;rw[Em (FE _),Es] at hb;cases ha;cases hb;exact hv.kp g
 ·refine⟨us,g _ _ h1 (.inl λe2=>e (hinj _ (Xx x) _ hj e2.symm)),?_⟩;rw[show[x].filter (λy=>decide (y.sl=j))=[] by simp[e],EH];exact X1 g h2
inductive φtake (K:W.Frag)(t:Adr)(x y z:V)(H:Hp)(Q:VK):Prop
 | mk (N:Addr->Prop) (Hp:Hp) (r a:Addr) (vs:List V) (row:Row) (ks:List (Str×List Itm)) (cs:List Cp) (as:List Str) (h1:x=.ref r) (h2:y=.str row.srt) (h3:z=.ref a) (h4:RdR K t N Hp r ks cs as) (g0:Same Hp H) (ha:Hp a=none) (h5:SqL K H a vs) (h6:All2 (Pv K H) row.ds vs) (h7:U8 ks cs row) (hN:∀b,H b=none->N b) (h8:∃n,n<=100/\Sml n ks cs as) (h7':row.Ok) (h9:∀H',Sn N H H'->RdR K t N H' r (kS ks row) (cS cs row) (aS as row)->Q .non H'):φtake K t x y z H Q
theorem U0 (h:∀j<7,ow (q j)=n+j):∀i<7,∀j<7,q i=q j->i=j:=λi hi j hj e=>by
 have h1:=h i hi;have h2:=h j hj;rw[e] at h1;omega
theorem RdS.lst_q {ds:List Addr}(S:RdS K t N ow H r dx a1 a2 a3 ds qs cvs ks cs as){i j:Nat}(hi:i<ks.length)(hj:j<7):∃vs,H (qs i j)=some (.lst vs):=by
 obtain⟨vs,h,_⟩:=(S.dr i ds[i]! ks[i] (by rw[List.getElem!_eq_getElem?_getD,FI (by rw[S.dl];exact hi)];rfl) (FI hi)).hq j hj;exact⟨vs,h⟩
theorem GK (h:All2 (CpR K t N H) cs vs)(hn:∀l us,H l=some (.lst us)->N l->N' l):All2 (CpR K t N' H) cs vs:=⟨h.1,λi a b ha hb=>by
 obtain⟨x,dx,l,e,h1,h2,n⟩:=h.2 i a b ha hb;exact⟨x,dx,l,e,h1,h2,hn _ _ h2 n⟩⟩
theorem RdS.reown {ds:List Addr}{ow':Addr->Nat}(S:RdS K t N ow H r dx a1 a2 a3 ds qs cvs ks cs as)(h:∀b vs,H b=some (.lst vs)->ow' b=ow b):RdS K t N ow' H r dx a1 a2 a3 ds qs cvs ks cs as:=
 ⟨S.hr,S.h1,S.h2,S.h3,S.n1,S.n2,S.n3,S.dl,S.dr,S.nq,GK S.cr λl us e n=>⟨n.1,by rw[h _ _ e];exact n.2⟩,by rw[h _ _ S.h1];exact S.o1,by rw[h _ _ S.h2];exact S.o2,by rw[h _ _ S.h3];exact S.o3,λi hi j hj=>by
  obtain⟨vs,e⟩:=S.lst_q hi hj;rw[h _ _ e];exact S.oq i hi j hj⟩
theorem QS (ow:Addr->Nat){a b:Addr}(h:ow a≠ow b):a≠b:=λe=>h (by rw[e])
theorem RdS.up1 {ds:List Addr}(S:RdS K t N ow H r dx a1 a2 a3 ds qs cvs ks cs as){d:Addr}{z:Str}{q:Nat->Addr}(hD:DrR K t H d z [] q)(hq:∀j<7,N (q j)/\ow (q j)=10+7*ks.length+j):RdS K t N ow (upd H a1 (.lst (ds.map V.ref++[.ref d]))) r dx a1 a2 a3 (ds++[d]) (λi=>if i=ks.length then q else qs i) cvs (ks++[(z,[])]) cs as:=by
 have hdl:=S.dl;have o1:=S.o1;have o2:=S.o2;have o3:=S.o3;have kc:Kp (λl=>N l/\ow l=3) H (upd H a1 (.lst (ds.map V.ref++[.ref d]))):=Q4 S.h1 λb hb=>QS ow (by rw[hb.2,o1];decide)
 refine⟨by rw[Qq (Kn S.hr S.h1 (by intro z;cases z))];exact S.hr,by rw[Qe,FR];rfl,by rw[Qq (QS ow (by rw[o1,o2];decide))];exact S.h2,by rw[Qq (QS ow (by rw[o1,o3];decide))];exact S.h3,S.n1,S.n2,S.n3,by rw[FF,FF,hdl];rfl,λi d' k hd' hk=>?_,λi hi j hj=>?_,Y5 kc S.cr,o1,o2,o3,λi hi j hj=>?_⟩
 ·have hi:i<(ks++[(z,([]:List Itm))]).length:=(FZ.mp hk).1;rw[FF,FK] at hi;by_cases e:i=ks.length
  ·subst e;rw [<-hdl,Em (FE _),Es] at hd';rw [Em (FE _),Es] at hk;cases hd';cases hk;simp only [if_true];exact hD.upd S.h1 fun j hj=>QS ow (by rw [(hq j hj).2,o1];omega)
  ·rw[En (by omega)] at hd' hk;simp only[FC e];exact(S.dr i d' k hd' hk).upd S.h1 λj hj=>QS ow (by rw[S.oq i (by omega) j hj,o1];omega)
 ·rw[FF,FK] at hi;by_cases e:i=ks.length
  ·subst e;simp only[if_true];exact(hq j hj).1
  ·simp only[FC e];exact S.nq i (by omega) j hj
 ·rw[FF,FK] at hi;by_cases e:i=ks.length
  ·subst e;simp only[if_true];exact(hq j hj).2
  ·simp only[FC e];exact S.oq i (by omega) j hj
theorem RdS.up3 {ds:List Addr}(S:RdS K t N ow H r dx a1 a2 a3 ds qs cvs ks cs as)(as':List Str):RdS K t N ow (upd H a3 (.lst (as'.map V.str))) r dx a1 a2 a3 ds qs cvs ks cs as':=by
 have o1:=S.o1;have o2:=S.o2;have o3:=S.o3;have kc:Kp (λl=>N l/\ow l=3) H (upd H a3 (.lst (as'.map V.str))):=Q4 S.h3 λb hb=>QS ow (by rw[hb.2,o3];decide)
 exact⟨by rw[Qq (Kn S.hr S.h3 (by intro z;cases z))];exact S.hr,by rw[Qq (QS ow (by rw[o1,o3];decide))];exact S.h1,by rw[Qq (QS ow (by rw[o2,o3];decide))];exact S.h2,Qe,S.n1,S.n2,S.n3,S.dl,λi d k hd hk=>(S.dr i d k hd hk).upd S.h3 λj hj=>QS ow (by rw[S.oq i (FZ.mp hk).1 j hj,o3];omega),S.nq,Y5 kc S.cr,o1,o2,o3,S.oq⟩
theorem RdS.up2 {ds:List Addr}(S:RdS K t N ow H r dx a1 a2 a3 ds qs cvs ks cs as){c:Cp}{v:V}(hc:CpR K t (λl=>N l/\ow l=3) H c v):RdS K t N ow (upd H a2 (.lst (cvs++[v]))) r dx a1 a2 a3 ds qs (cvs++[v]) ks (cs++[c]) as:=by
 have o1:=S.o1;have o2:=S.o2;have o3:=S.o3;have kc:Kp (λl=>N l/\ow l=3) H (upd H a2 (.lst (cvs++[v]))):=Q4 S.h2 λb hb=>QS ow (by rw[hb.2,o2];decide)
 refine⟨by rw[Qq (Kn S.hr S.h2 (by intro z;cases z))];exact S.hr,by rw[Qq (QS ow (by rw[o1,o2];decide))];exact S.h1,Qe,by rw[Qq (QS ow (by rw[o2,o3];decide))];exact S.h3,S.n1,S.n2,S.n3,S.dl,λi d k hd hk=>(S.dr i d k hd hk).upd S.h2 λj hj=>QS ow (by rw[S.oq i (FZ.mp hk).1 j hj,o2];omega),S.nq,?_,o1,o2,o3,S.oq⟩;have h:=Y5 kc S.cr;have hl:=h.1;refine⟨by rw[FF,FF,hl];rfl,λi a b ha hb=>?_⟩;by_cases hi:i<cvs.length
 ·rw[En (by omega)] at ha;rw[En hi] at hb;exact h.2 i a b ha hb
 ·have hi2:i<(cvs++[v]).length:=(FZ.mp hb).1;rw[FF,FK] at hi2;have:i=cvs.length:=by omega
  subst this;rw[Em (by omega),hl,Es] at ha;rw[Em (FE _),Es] at hb;cases ha;cases hb;exact hc.kp kc
theorem RdS.upx {ds:List Addr}{xs:List Itm}(S:RdS K t N ow H r dx a1 a2 a3 ds qs cvs (ks0++[(z,xs)]) cs as){x:Itm}{v:V}{vs:List V}(hv:H (qs ks0.length x.sl)=some (.lst vs))(hx:PIt K t H x v):RdS K t N ow (upd H (qs ks0.length x.sl) (.lst (vs++[v]))) r dx a1 a2 a3 ds qs cvs (ks0++[(z,xs++[x])]) cs as:=by
 have o1:=S.o1;have o2:=S.o2;have o3:=S.o3;have hlen:∀y:List Itm,(ks0++[(z,y)]).length=ks0.length+1:=λy=>by rw[FF];rfl
 have oq:ow (qs ks0.length x.sl)=10+7*ks0.length+x.sl:=S.oq _ (by rw[hlen];omega) _ (Xx x);have kc:Kp (λl=>N l/\ow l=3) H (upd H (qs ks0.length x.sl) (.lst (vs++[v]))):=Q4 hv λb hb=>QS ow (by rw[hb.2,oq];omega)
 refine⟨by rw[Qq (Kn S.hr hv (by intro z;cases z))];exact S.hr,by rw[Qq (QS ow (by rw[o1,oq];omega))];exact S.h1,by rw[Qq (QS ow (by rw[o2,oq];omega))];exact S.h2,by rw[Qq (QS ow (by rw[o3,oq];omega))];exact S.h3,S.n1,S.n2,S.n3,by rw[S.dl,hlen,hlen],λi d k hd hk=>?_,λi hi j hj=>S.nq i (by rw[hlen] at *;exact hi) j hj,Y5 kc S.cr,o1,o2,o3,λi hi j hj=>S.oq i (by rw[hlen] at *;exact hi) j hj⟩;have hi:=(FZ.mp hk).1;rw[hlen] at hi;by_cases e:i=ks0.length
 ·subst e;have hD:=S.dr ks0.length d (z,xs) hd (by simp);have ek:k=(z,xs++[x]):=by simpa using hk.symm
  subst ek;exact hD.add hv (U0 λj hj=>S.oq _ (by rw[hlen];omega) j hj) hx
 ·rw[En (by omega)] at hk;refine(S.dr i d k hd (by rw[En (by omega)];exact hk)).upd hv λj hj=>QS ow ?_
  rw[S.oq i (by rw[hlen];omega) j hj,oq];have:=Xx x;omega
theorem UR (ow:Addr->Nat)(q:Nat->Addr)(n:Nat)(hinj:∀i<7,∀j<7,q i=q j->i=j):∃ow':Addr->Nat,(∀j<7,ow' (q j)=n+j)/\∀b,(∀j<7,q j≠b)->ow' b=ow b:=by
 classical
 refine⟨λb=>if h:∃j,j<7/\q j=b then n+Classical.choose h else ow b,λj hj=>?_,λb hb=>?_⟩
 ·have h:∃i,i<7/\q i=q j:=⟨j,hj,rfl⟩
  simp only[dif_pos h];have c:=E4 h;rw[hinj _ c.1 _ hj c.2]
 ·have h:¬∃j,j<7/\q j=b:=λ⟨j,hj,e⟩=>hb j hj e
  simp only[dif_neg h]
theorem Gj {a c:Addr}(h:SqL K H a xs)(n:a≠c):SqL K (upd H c o) a xs:=by
 rcases h with (h|⟨u,h⟩)|h
 ·exact .inl (.inl (by rw[Qq n];exact h))
 ·exact .inl (.inr ⟨u,by rw[Qq n];exact h⟩)
 ·exact .inr h
theorem JA (T:Tx w K mg t)(F:Fun K "take" "Reader.take" Zz f fd)(eG:Cal P w K mg base 1 "new_draft" ["title"] (Sp1M φdraft))(eI:JY P w K mg base 1 t.aJ ["self","limit","each","titles"] (Sp4M (φcapI t.aJ)))(eJ:Cal P w K mg base 3 "thing_of" ["sort","values"] (Sp2M (φthing K t))):FnOk P w K mg base CX0 5 f fd ["self","sort","values"] (Sp3 (φtake K t)):=by
 refine F.ok Jp KM (λcdv A outer s H vs Q E hr h=>?_);obtain⟨_,_,_,rfl,N,Hp,r,a,vs,row,ks,cs,as,rfl,rfl,rfl,⟨ow,dx,a1,a2,a3,ds,qs,cvs,S0⟩,g0,ha,hL,hA,hf,hN,⟨n,hn,sm⟩,ok,q⟩:=h;refine⟨_,((Qf (Qy (Qj (eqM K rfl hr.units) (pu 1) Qn (Qk _)) (Qf (QP (QQ K rfl F8 Eh Ei QK (QB K rfl (pu 0)) (Qa (Qt eG (hrm hr) rfl (Qa (Qp (ixK K rfl) (pu 2) Qd (λ_ _=>rfl)) Qb)) Qb)))) (Qf (Qy (Qj (eqM K rfl hr.units) (pu 1) Qn (Qk _)) (Qc (QP (QQ K rfl F8 Eh Ei QK (QB K rfl (pu 0)) (Qa (YY eI (hrm hr) rfl T.cL (Qa (Qp (ixK K rfl) (pu 2) Qd (λ_ _=>rfl)) (Qa (Qp (ixK K rfl) (pu 2) Qd (λ_ _=>rfl)) (Qa (Zp (slK K rfl) (pu 2) (Zv Qd) ZN) Qb)))) Qb)))
   (Qf (QP (QQ K rfl F8 PySem.F.slot_list_extend PySem.F.type_list_extend Ko (QB K rfl (pu 0)) (Qa (Zp (slK K rfl) (pu 2) (Zv Qd) ZN) Qb))))) (Qc (QP (QQ K rfl F8 Eh Ei QK (Zg (Xc hr) (Qp (ixK K rfl) (QB K rfl (pu 0)) (Xa Zb Qd) (λ_ _=>rfl)) (We T.bM (pu 1) (λ_ _=>rfl)) (λ_ _=>rfl)) (Qa (Qt eJ (hrm hr) rfl (Qa (pu 1) (Qa (pu 2) Qb))) Qb)))
   (Qf (Qy (Qj (eqM K rfl hr.units) (pu 1) Qn (Qk _)) (Qf (QP (QQ K rfl F8 Eh Ei QK (QB K rfl (pu 0)) (Qa (Qp (ixK K rfl) (pu 2) Qd (λ_ _=>rfl)) Qb)))) Qo)))))))),?_⟩
 have S:=S0.mono g0;have hdl:=S.dl;have hcl:=S.cr.1;have s1:=sm.k;have s2:=sm.c;have s3:=sm.a;walk_at "go";cases row with
 | kind z=>
  obtain ⟨v,rfl,h1⟩:=pv1 hA;cases YX h1;rw [FD (show (Row.kind z).srt=Str.ofString "kind" from rfl)];refine Q7 S.hr T.aE T.bF ZT ⟨.inl ⟨rfl,_,SqL.of S.h1⟩,QX hL (v:=.str z) rfl ⟨z,rfl,fun d q' H1 g1 hd0 hd1 hq hinj=>?_⟩⟩;refine ⟨a1,_,_,rfl,rfl,g1 _ _ S.h1,by rw [FH,FN];omega,?_⟩;refine q _ ((Sn.of g1).trans (Sn.put S.n1)) ?_;obtain ⟨ow',w1,w2⟩:=UR ow q' (10+7*ks.length) hinj;have S1:=(S.reown (ow':=ow') fun b vs hb=>w2 b fun j hj e=>by rw [<-e,(hq j hj).1] at hb;cases hb).mono g1;exact ⟨ow',dx,a1,a2,a3,_,_,cvs,S1.up1 ⟨hd1,fun j hj=>⟨[],(hq j hj).2,rfl,fun i a b ha=>by simp at ha⟩⟩ fun j hj=>⟨hN _ (hq j hj).1,w1 j hj⟩⟩
 | cap x y ns=>
  have e:=Mc hA;subst e;rw[FC (show¬(Row.cap x y ns).srt=Str.ofString "kind" from show¬q_ "cap"=q_ "kind" by decide +kernel),FD (show(Row.cap x y ns).srt=Str.ofString "cap" from rfl)];refine Q7 S.hr T.aE T.bO Jb ⟨.inl ⟨rfl,_,SqL.of S.h2⟩,?_⟩;simp only[YM];walk_at "go";refine QX hL (QW (j:=0) rfl) (QX hL (QW (j:=1) rfl) (Y7 hL λp hp=>?_));rw[show X5 (V.int x::V.int y::ns.map V.str) (some 2) none=ns.map V.str from WT _ 2];have g1:=Qg hp (.lst (ns.map V.str));have hp1:(upd H p (.lst (ns.map V.str))) p=some (.lst (ns.map V.str)):=Qe;generalize upd H p (.lst (ns.map V.str))=H1 at *;intro c dc hc hdc _;refine⟨c,dc,p,_,rfl,X2,rfl,ZP hc hdc hp1,λH2 m o hx hm hm0=>⟨rfl,?_⟩⟩;have g2:=ZC hc hdc o;have g12:=g1.trans g2;have hm0:H m=none:=g1.free (XU hc hdc hm0);refine⟨a2,_,_,rfl,rfl,g12 _ _ S.h2,by rw[FN];omega,?_⟩;have w2:∀b,b≠m->(λb=>if b=m then 3 else ow b) b=ow b:=λb hb=>FC hb
  have S2:=((S.reown (ow':=λb=>if b=m then 3 else ow b) λb vs hb=>w2 b (Qm hb hm0)).mono g12).up2 (c:=(x,y,ns)) (v:=.ref c) ⟨c,dc,m,rfl,hx,hm,hN _ hm0,FD rfl⟩;refine Q7 S2.hr T.aE T.bV Jt ⟨.inl ⟨rfl,_,SqL.of S2.h3⟩,?_⟩;have na2:a≠a2:=λe=>by rw[e,S0.h2] at ha;cases ha
  have na3:a3≠a:=fun e=>by rw [<-e,S0.h3] at ha;cases ha
  refine Y7 (Gj (g12.seq hL) na2) λp2 hp2=>?_
  rw [show X5 (V.int x :: V.int y :: ns.map V.str) (some 2) none=ns.map V.str from WT _ 2];have g3:=Qg hp2 (.lst (ns.map V.str));have S3:=(S2.mono g3).up3 (as++ns);have l8:=ok.2.2.2.2;refine ⟨a3,p2,_,_,rfl,rfl,g3 _ _ S2.h3,Qe,by rw [FH,FH,FN];omega,?_⟩;rw [<-FR];exact q _ ((((Sn.of g12).trans (Sn.put S.n2)).trans (Sn.of g3)).trans (Sn.put S.n3)) ⟨_,_,_,_,_,_,_,_,S3⟩
 | itm x=>
  obtain⟨e1,e2⟩:=Gh x;rw[FC e1,FC e2];obtain⟨ks0,z,xs,rfl,hfi⟩:=hf;obtain⟨ds0,d,rfl,hl0,hD⟩:=Gy S;simp only[Wa,Ge];walk_at "go";have h1:=SqL.of (K:=K) S.h1;rw[FR] at h1;refine Q7 S.hr T.aE T.bF ZT (QX h1 (Zf _ _) ?_);obtain⟨us,hu,hU⟩:=hD.hq x.sl (Xx x);refine⟨Sum.inr x.srt,_,rfl,JD x,d,_,rfl,ZR hD (Xx x),.inl ⟨rfl,_,SqL.of hu⟩,x,a,vs,rfl,rfl,hL,hA,λv H1 g1 hP=>?_⟩;have hul:(xs.filter λy=>decide (y.sl=x.sl)).length=us.length:=hU.1;have hxl:xs.length<=n:=sm.x (z,xs) (by simp);have hfl:(xs.filter λy=>decide (y.sl=x.sl)).length<=xs.length:=EX _ _;refine⟨_,_,_,rfl,rfl,g1 _ _ hu,by rw[FN];omega,?_⟩;have S1:=(S.mono g1).upx (g1 _ _ hu) hP;have hlt:ks0.length<(ks0++[(z,xs)]).length:=by rw[FF];exact EG _
  have nq:=S.nq ks0.length hlt x.sl (Xx x);have na:a≠qs ks0.length x.sl:=λe=>by
   obtain ⟨ws,hw⟩:=S0.lst_q hlt (Xx x);rw [<-e,ha] at hw;cases hw
  have sn1:=(Sn.of (N:=N) g1).trans (Sn.put (o:=.lst (us++[v])) nq);have ek:kS (ks0++[(z,xs)]) (.itm x)=ks0++[(z,xs++[x])]:=WV;rw[ek] at q;refine Qz (λc=>?_) (λc=>?_)
  ·obtain⟨z2,r2,s2,rfl⟩:=Gi c;obtain⟨v1,v2,rfl,p1,p2⟩:=pv2 hA;cases YX p1;refine Q7 S1.hr T.aE T.bV Jt ⟨.inl ⟨rfl,_,SqL.of S1.h3⟩,QX (Gj (g1.seq hL) na) (v:=.str z2) rfl ⟨a3,_,_,rfl,rfl,S1.h3,by rw[FH,FN];omega,?_⟩⟩;have S3:=S1.up3 (as++[z2]);rw[FR] at S3;exact q _ (sn1.trans (Sn.put S.n3)) ⟨_,_,_,_,_,_,_,_,S3⟩
  ·have ea:aS as (.itm x)=as:=by
    cases x with
    | cnt=>exact absurd rfl c
    | _=>rfl
   rw[ea] at q;exact q _ sn1 ⟨_,_,_,_,_,_,_,_,S1⟩
def OfR (K:W.Frag)(t:Adr)(N:Addr->Prop)(H:Hp)(v:V)(ks:List (Str×List Itm))(cs:List Cp):Prop:=∃x dx m1 m2 kvs cvs,v=.ref x/\H x=some (.ins t.aK dx (oF (.ref m1) (.ref m2)))/\N m1/\N m2/\H m1=some (.lst kvs)/\H m2=some (.lst cvs)/\All2 (KdR K t N H) ks kvs/\All2 (CpR K t N H) cs cvs
theorem OfR.kp (g:Kp N H H')(h:OfR K t N H v ks cs):OfR K t N H' v ks cs:=by
 obtain⟨x,dx,m1,m2,kvs,cvs,e,h1,n1,n2,h2,h3,h4,h5⟩:=h;exact⟨x,dx,m1,m2,kvs,cvs,e,g.ins h1,n1,n2,g _ _ h2 (.inl n1),g _ _ h3 (.inl n2),⟨h4.1,λi a b ha hb=>(h4.2 i a b ha hb).kp g⟩,Y5 g h5⟩
theorem KdR.imp {k:Str×List Itm}(h:KdR K t N H k v)(hn:∀b,N b->N' b):KdR K t N' H k v:=by
 obtain⟨x,dx,li,un,wa,m,e,h1,h2,h3,h4⟩:=h;exact⟨x,dx,li,un,wa,m,e,h1,λj hj=>⟨hn _ (h2 j hj).1,(h2 j hj).2⟩,h3,h4⟩
inductive φtold (K:W.Frag)(t:Adr)(x:V)(H:Hp)(Q:VK):Prop
 | mk (N:Addr->Prop) (r:Addr) (ks:List (Str×List Itm)) (cs:List Cp) (as:List Str) (h1:x=.ref r) (h2:RdR K t N H r ks cs as) (h3:∀z∈as,z∈ks.map (·.1)) (h4:ks.length<=1000) (hN:∀b,H b=none->N b) (h9:∀v H',Same H H'->OfR K t N H' v ks cs->Q v H'):φtold K t x H Q
def AsI (r:Addr)(H:Hp)(i:Nat)(σ':L2.St)(H':Hp):Prop:=∃x1,σ'=[some (.ref r),x1]/\Same H H'
def KoI (K:W.Frag)(t:Adr)(N:Addr->Prop)(ks:List (Str×List Itm))(H:Hp)(i:Nat)(acc:List V)(σ':L2.St)(H':Hp):Prop:=∃x0,σ'=[x0]/\Same H H'/\All2 (KdR K t N H') (ks.take i) acc
theorem Yb (T:Tx w K mg t)(F:Fun K "office_told" "Reader.office_told" Q0 f fd)(eK:JY P w K mg base 1 t.aK ["self","kinds","caps"] (Sp3M (φoffI t.aK)))(eL:Cal P w K mg base 3 "kind_of" ["draft"] (Sp1M (φkof K t)))(bP:Vw P w K mg base 1 t.aH "titles_told" ["self"] (Sp1M (φtt K t))):FnOk P w K mg base CX0 5 f fd ["self"] (Sp1 (φtold K t)):=by
 refine F.ok sc_Reader_office_told YT (λcdv A outer s H vs Q E hr h=>?_);obtain⟨_,rfl,N,r,ks,cs,as,rfl,hR,ha,hk,hN,q⟩:=h;have hR':=hR;obtain⟨ow,dx,a1,a2,a3,ds,qs,cvs,S⟩:=hR';have hdl:=S.dl;refine⟨_,((Qc (ZG Er rfl (piK K rfl (QB K rfl (pu 0))) (QA (i:=1) sc_Reader_office_told.nd rfl (Or.inl rfl))
   (Qf (Qy (Qj (XD K rfl) (pu 1) (K2 bP (hrm hr) T.aE (pu 0)) (by with_unfolding_all rfl)) (Qf Jv) Qo)))
   (Qf (Ql (YY eK (hrm hr) rfl T.cM (Qa (Xz (N:=["draft"]) (caps:=[none]) rfl W8 (piK K rfl (QB K rfl (pu 0))) (λ_ _ _ _=>QA (i:=0) (show(["draft"]:List Str).Nodup by decide +kernel) rfl (Or.inl rfl) (.inr rfl)) (λ_ _ _ _=>Xh) (λ_ _ _ _=>(Qt eL (hrm hr) rfl (Qa (pu 0) Qb)))) (Qa (QB K rfl (pu 0)) Qb))))))),?_⟩
 walk_at "go";refine Q7 S.hr T.aE T.bV Jt ⟨a3,rfl,⟨_,SqL.of S.h3⟩,Yx (xs:=as.map V.str) (AsI r H) ⟨none,rfl,Same.refl _⟩ (λi σ' H' _ h=>by obtain⟨_,_,g'⟩:=h;exact g'.seq (SqL.of S.h3)) ?_ ?_⟩
 ·rintro i v _ H2 hv ⟨x1,rfl,g⟩;rw[F0] at hv;obtain⟨z,hz,rfl⟩:=F6.mp hv;have S2:=S.mono g;walk_at "go";refine GR S2.hr BZ ?_;walk_at "go";refine⟨N,r,ks,cs,as,rfl,⟨ow,dx,a1,a2,a3,ds,qs,cvs,S2⟩,hk,λp H' g2 hp=>ZY (SqL.of hp) ?_⟩;rw[Ef (ha z (EE hz))];walk_at "go";exact⟨_,rfl,g.trans g2⟩
 ·rintro _ H2 ⟨x1,rfl,g⟩;have S2:=S.mono g;walk_at "go";simp only[YM];walk_at "go";simp only[Xi];walk_at "go";refine Q7 S2.hr T.aE T.bF ZT ⟨a1,rfl,⟨_,SqL.of S2.h1⟩,Wo (xs:=ds.map V.ref) (KoI K t N ks H2) ⟨none,rfl,Same.refl _,rfl,λi a b h=>by simp at h⟩ (λi acc σ' H' _ h=>by obtain⟨_,_,g',_⟩:=h;exact g'.seq (SqL.of S2.h1)) (by rw[FH];omega) ?_ ?_⟩
  ·rintro i v acc _ H3 hv hacc ⟨x0,rfl,g3,hA⟩;have hlt:=ZW hv;rw[F0] at hv;obtain⟨d,hd,rfl⟩:=F6.mp hv;obtain⟨k,hk⟩:∃k,ks[i]?=some k:=⟨_,FI (by rw[FH] at hlt;omega)⟩
   have hD:=(S2.dr i d k hd hk).kp g3;simp only[Y6];walk_at "go";refine⟨d,k.1,k.2,_,rfl,hD,λv H4 g4 hK=>?_⟩;exact CN.mk hlt (by rw[FF,FK];omega) ⟨_,rfl,g3.trans g4,KA hA (λa b h=>KdR.kp (.of g4) h) hk (hK.imp λb hb=>hN b ((g.trans g3).free hb))⟩
  ·rintro acc _ H3 ⟨x0,rfl,g3,hA⟩ p hp;rw[Eg (by rw[FH];omega)] at hA;have g4:=Qg hp (.lst acc);have hp4:(upd H3 p (.lst acc)) p=some (.lst acc):=Qe;generalize upd H3 p (.lst acc)=H4 at *;have g24:=g3.trans g4;walk_at "go";refine Q7 (g24 _ _ S2.hr) T.aE T.bO Jb ?_;walk_at "go";intro x dx' hx hdx _;refine⟨x,dx',p,a2,acc,cvs,rfl,X2,rfl,ZP hx hdx hp4,rfl,ZP hx hdx (g24 _ _ S2.h2),λH5 m1 m2 o hx' b1 b2=>⟨rfl,?_⟩⟩;have g5:=ZC hx hdx o;have fr:∀{b},nIn t.aK x dx' H4 b=none->N b:=λh=>hN _ ((g.trans g24).free (XU hx hdx h))
   refine q _ _ ((g.trans g24).trans g5) ⟨x,dx',m1,m2,acc,cvs,rfl,hx',fr b1.2,fr b2.2,b1.1,b2.1,⟨hA.1,λi a b h1 h2=>KdR.kp (.of (g4.trans g5)) (hA.2 i a b h1 h2)⟩,?_⟩;exact GK (Y5 (.of (g24.trans g5)) S2.cr) λl us _ n=>n.1
def run:List (Str×List Itm)->List Cp->List Str->List Row->List (Str×List Itm)×List Cp×List Str
 | ks,cs,as,[]=>(ks,cs,as)
 | ks,cs,as,r::rs=>run (kS ks r) (cS cs r) (aS as r) rs
def Acc:List (Str×List Itm)->List Cp->List Row->Prop
 | _,_,[]=>True
 | ks,cs,r::rs=>r.Ok/\U8 ks cs r/\Acc (kS ks r) (cS cs r) rs
def Row.tx (r:Row):Str:=Txt.join blank (r.srt::r.ws)
theorem Vz {r:Row}(ok:r.Ok):Txt.split r.tx blank=r.srt::r.ws:=Uw (by simp) λz hz=>(r.plain ok z hz).2.2
theorem KG {r:Row}(ok:r.Ok):r.ws.length<=10:=by
 cases r with
 | kind z=>exact Nat.le_of_ble_eq_true rfl
 | cap a b ns=>have:=ok.2.2.2.2;show ns.length+1+1<=10;omega
 | itm x=>cases x<;>exact Nat.le_of_ble_eq_true rfl
theorem RM {r:Row}(ok:r.Ok):r.tx.length<=100000:=by
 have h:=MI blank (r.srt::r.ws);have h1:=KG ok;have h2:((r.srt::r.ws).map (·.length)).sum<=(r.srt::r.ws).length*1000:=by
  have:∀l:List Str,(∀z∈l,z.length<=1000)->(l.map (·.length)).sum<=l.length*1000:=by
   intro l
   induction l with
   | nil=>simp
   | cons x l ih=>
    intro h;have h1:=h x Eb;have h2:=ih λy hy=>h y (F5 _ hy)
    simp only[El,List.sum_cons,Ea];omega
  exact this _ λz hz=>(r.plain ok z hz).2.1
 have h3:blank.length=1:=rfl;rw[h3,Ea] at h;rw[Ea] at h2;show(Txt.join blank (r.srt::r.ws)).length<=_;omega
inductive φread (K:W.Frag)(t:Adr)(x:V)(H:Hp)(Q:VK):Prop
 | mk (a:Addr) (rs:List Row) (ks:List (Str×List Itm)) (cs:List Cp) (as:List Str) (h1:x=.ref a) (h2:SqL K H a (rs.map λr=>.str r.tx)) (h3:rs.length<=80) (h4:Acc [] [] rs) (h5:run [] [] [] rs=(ks,cs,as)) (h6:∀z∈as,z∈ks.map (·.1)) (h7:∀v H',Same H H'->OfR K t (λb=>H b=none) H' v ks cs->Q v H'):φread K t x H Q
def ReI (K:W.Frag)(t:Adr)(a r:Addr)(rs:List Row)(fin:List (Str×List Itm)×List Cp×List Str)(H:Hp)(i:Nat)(σ':L2.St)(H':Hp):Prop:=∃x2 x3 x4 x5,σ'=[some (.ref a),some (.ref r),x2,x3,x4,x5]/\Same H H'/\∃ks cs as,RdR K t (λb=>H b=none) H' r ks cs as/\Sml i ks cs as/\Acc ks cs (rs.drop i)/\run ks cs as (rs.drop i)=fin
theorem Ba (T:Tx w K mg t)(F:Fun K "read" "read" Jr f fd)(eM:Vw P w K mg base 5 t.aH "office_told" ["self"] (Sp1M (φtold K t)))(eN:Vw P w K mg base 5 t.aH "take" ["self","sort","values"] (Sp3M (φtake K t)))(eO:Vw P w K mg base 2 t.aH "fits" ["self","sort","values"] (Sp3M (φfits K t)))(eP:Wx P w K mg base 6 "values_of" ["words"] (Rp1M (φvals K)))(eQ:JY P w K mg base 1 t.aH ["self"] (Sp1M (φrdI t.aH))):FnOk P w K mg base CX0 7 f fd ["rows"] (Sp1 (φread K t)):=by
 refine F.ok sc_read YT (λcdv A outer s H vs Q E hr h=>?_);obtain⟨_,rfl,a,rs,ks,cs,as,rfl,hL,hn,hacc,hrun,has,q⟩:=h;refine⟨_,((Qc (Qw (i:=1) sc_read.nd rfl (Or.inl rfl) (LW eQ (hrm hr) rfl T.gK))
   (Qc (ZG Er rfl (LU K rfl rfl T.gD (Qa (pu 0) Qb)) (pgK (n:=2) K rfl rfl (QJ (QA (i:=2) sc_read.nd rfl (Or.inl rfl)) (QJ (QA (i:=3) sc_read.nd rfl (Or.inl rfl)) Xq)))
   (Qc (Qw (i:=4) sc_read.nd rfl (Or.inl rfl) (QQ K rfl PySem.F.plainAttrs_str PySem.F.slot_str_split PySem.F.type_str_split JC (pu 3) (Qa Qn Qb)))
   (Qc (Me ⟨rfl,rfl,rfl⟩ rfl T.aW (LJ (i:=5) sc_read.nd rfl (Or.inl rfl) (LI eP (hrm hr) rfl rfl (Qa (pu 4) Qb))) (λea=>(Qf Jv)))
   (Qc (Qy (Xp (Zu (UH eO (hrm hr) T.aE (pu 1) (Qa (Qp (ixK K rfl) (pu 4) Qd (λ_ _=>rfl)) (Qa (pu 5) Qb))))) (Qf Jv) Qo)
   (Qf (QP (UH eN (hrm hr) T.aE (pu 1) (Qa (Qp (ixK K rfl) (pu 4) Qd (λ_ _=>rfl)) (Qa (pu 5) Qb)))))))))
   (Qf (Ql (K2 eM (hrm hr) T.aE (pu 1))))))),?_⟩
 walk_at "go";simp only[YM];walk_at "go";intro r dx hr0 hd0 _;refine⟨r,dx,rfl,X2,λH1 m1 m2 m3 o hr1 b1 b2 b3 n12 n13 n23=>⟨rfl,?_⟩⟩;have g1:=ZC hr0 hd0 o;have R1:RdR K t (λb=>H b=none) H1 r [] [] []:=by
  refine⟨λb=>if b=m1 then 0 else if b=m2 then 1 else 2,dx,m1,m2,m3,[],λ_ _=>0,[],hr1,b1.1,b2.1,b3.1,XU hr0 hd0 b1.2,XU hr0 hd0 b2.2,XU hr0 hd0 b3.2,rfl,λi d k h=>by simp at h,λi h=>by simp at h,⟨rfl,λi a b h=>by simp at h⟩,FD rfl,?_,?_,λi h=>by simp at h⟩
  ·simp only[FC n12.symm,if_true]
  ·simp only[FC n13.symm,FC n23.symm]
 simp only[B7];walk_at "go";refine⟨a,rfl,⟨_,g1.seq hL⟩,Fi (xs:=rs.map λr=>.str r.tx) (ReI K t a r rs (ks,cs,as) H) ⟨none,none,none,none,rfl,g1,[],[],[],R1,⟨FE _,FE _,FE _,λk h=>by simp at h,λk h=>by simp at h⟩,hacc,hrun⟩ (λi σ' H' _ h=>by obtain⟨_,_,_,_,_,g',_⟩:=h;exact g'.seq hL) ?_ ?_⟩
 ·rintro i v _ H2 p hv ⟨x2,x3,x4,x5,rfl,g,ks1,cs1,as1,R,sm,ac,ru⟩ hp;rw[F0] at hv;obtain⟨row,hrow,rfl⟩:=F6.mp hv;have hi:i<rs.length:=(FZ.mp hrow).1;have ed:rs.drop i=row::rs.drop (i+1):=by rw[List.drop_eq_getElem_cons hi,(FZ.mp hrow).2]
  rw[ed] at ac ru;obtain⟨ok,fi,ac⟩:=ac;have g2:=Qg hp (.tup [.int (i:Nat),.str row.tx]);have hT:SqT K (upd H2 p (.tup [.int (i:Nat),.str row.tx])) p [.int (i:Nat),.str row.tx]:=SqT.of Qe;generalize upd H2 p (.tup [.int (i:Nat),.str row.tx])=H3 at *;walk_at "go";rw[XX];have sp:=Vz ok;have wl:=KG ok;refine⟨by trivial,row.tx,blank,rfl,rfl,by decide,by rw[FN];exact F2 (RM ok) (by decide),by rw[sp,FN,Ea];omega,λp2 hp2=>?_⟩;rw[sp];have g3:=Qg hp2 (.lst ((row.srt::row.ws).map V.str));have hw:SqL K (upd H3 p2 (.lst ((row.srt::row.ws).map V.str))) p2 ((row.srt::row.ws).map V.str):=SqL.of Qe;generalize upd H3 p2 (.lst ((row.srt::row.ws).map V.str))=H4 at *;walk_at "go";simp only[NY,sxA,Ur];walk_at "go";refine⟨row,p2,rfl,hw,ok,λp3 vs H5 g4 hz hp3 hA=>?_⟩;have g25:=(g2.trans g3).trans g4;have h0:atI ((row.srt::row.ws).map V.str) 0=some (.str row.srt):=QW (j:=0) rfl;obtain⟨ow,dx',a1,a2,a3,ds,qs,cvs,S⟩:=id R;have S5:=S.mono g25;walk_at "go";refine GR S5.hr LD ?_;walk_at "go";refine QX (g4.seq hw) h0 ⟨_,r,p3,vs,row,ks1,cs1,as1,rfl,rfl,rfl,⟨ow,dx',a1,a2,a3,ds,qs,cvs,S5⟩,SqL.of hp3,hA,fi,ok,⟨i,by omega,sm⟩,λH6 g6=>?_⟩;walk_at "go";refine GR (S5.mono g6).hr LC ?_;walk_at "go";have gg:=g.trans (g25.trans g6);refine QX ((g4.trans g6).seq hw) h0 ⟨_,H2,r,p3,vs,row,ks1,cs1,as1,rfl,rfl,rfl,R,g25.trans g6,(g2.trans g3).free hz,SqL.of (g6 _ _ hp3),⟨hA.1,λi a b h1 h2=>(hA.2 i a b h1 h2).mono g6⟩,fi,λb hb=>gg.free hb,⟨i,by omega,sm⟩,ok,λH7 sn R7=>?_⟩;exact⟨_,_,_,_,rfl,λb o h=>sn b o (λe=>by have e:H b=none:=e;rw[h] at e;cases e) (gg b o h),_,_,_,R7,sm.step ok,ac,ru⟩
 ·rintro _ H2 ⟨x2,x3,x4,x5,rfl,g,ks1,cs1,as1,R,sm,ac,ru⟩;rw[List.drop_eq_nil_of_le (by rw[FH];exact FE _)] at ru;cases ru;obtain⟨ow,dx',a1,a2,a3,ds,qs,cvs,S⟩:=id R;walk_at "go";refine GR S.hr LB ?_;walk_at "go";have:=sm.k;rw[FH] at this;exact⟨_,r,ks,cs,as,rfl,R,has,by omega,λb hb=>g.free hb,λv H' g' hO=>q _ _ (g.trans g') hO⟩
theorem Ng (T:Tx w K mg t)(F:Fun K "_law_cell" "_law_cell" Yo f fd):FnOk P w K mg base CX0 1 f fd ["_law_script","_law_k"] (Sp2 (φcell K)):=by
 refine F.ok GY YS (λcdv A outer s H vs Q E hr h=>?_);obtain⟨_,_,rfl,a,ns,k,rfl,rfl,hS,hk,q⟩:=h;refine⟨_,((Qc (Qy (Qj Xr (pu 1) (Qs (Zr K rfl) (by rfl) T.aB FO (Qa (pu 0) Qb)) (Qk _)) (Qf (Ql (Qp (ixK K rfl) (pu 0) (pu 1) (λ_ _=>rfl)))) Qo)
   (Qf (Ql Qd)))),?_⟩
 walk_at "go";rw[FH];refine Qz (λc=>?_) (λc=>?_)
 ·obtain⟨n,rfl⟩:=Ez hk;have hn:n<ns.length:=by omega
  refine QX hS (v:=.int (ns.getD n 0)) ?_ ?_
  ·refine QW ?_;rw[F0,FI hn,Da,FI hn];rfl
  ·exact q
 ·have e:ns.getD k.toNat 0=0:=by
   rw[Da,ED (by omega)];rfl
  unfold cl at q;rw[e] at q;exact q
theorem VP (T:Tx w K mg t)(F:Fun K "_law_common" "_law_common" Xm f fd):FnOk P w K mg base CX0 1 f fd ["_law_one","_law_other"] (Sp2 φgcdA):=by
 refine F.ok sc_l_common YS (λcdv A outer s H vs Q E hr h=>?_);obtain⟨_,_,rfl,a,b,rfl,rfl,q⟩:=h;refine⟨_,((Qc (Qw (i:=0) sc_l_common.nd rfl (Or.inl rfl) (Qs Ui (by rfl) T.cH boot_abs (Qa (pu 0) Qb)))
   (Qc (Qw (i:=1) sc_l_common.nd rfl (Or.inl rfl) (Qs Ui (by rfl) T.cH boot_abs (Qa (pu 1) Qb)))
   (Qc (VJ Er (Qj YZ (pu 1) Qd (Qk _)) (Qf (Pi (i:=0) (j:=1) rfl sc_l_common.nd rfl rfl (by decide) rfl rfl (Qa (pu 1) (Qa (Qr QD (pu 0) (pu 1)) Qb)) rfl)))
   (Qf (Ql (pu 0))))))),?_⟩
 walk_at "go";refine⟨λm σ' H'=>∃(a' b':Int),σ'=[some (.int a'),some (.int b')]/\H'=H/\0<=a'/\0<=b'/\b'.toNat=m/\Int.gcd a' b'=Int.gcd a b,⟨_,_,_,rfl,rfl,Lc a,Lc b,rfl,Bs a b⟩,?_⟩;rintro m _ _ ⟨a',b',rfl,rfl,ha',hb',rfl,hg⟩;walk_at "go";by_cases hz:b'=0
 ·subst hz;rw [FC (by simp)];have e:(Int.gcd a' 0:Int)=a':=V5 ha';rw [hg] at e;rw [<-e];exact q
 ·rw[FD (by omega)];refine⟨λσ' H'=>∃m',m'<b'.toNat/\∃(a'' b'':Int),σ'=[some (.int a''),some (.int b'')]/\H'=_/\0<=a''/\0<=b''/\b''.toNat=m'/\Int.gcd a'' b''=Int.gcd a b,λ_ _ h=>h,?_⟩;refine⟨by omega,(a' % b').toNat,?_,b',a' % b',rfl,rfl,hb',F9 _ hz,rfl,?_⟩
  ·have:=Ej a' (b:=b') (by omega);have:=F9 a' hz;omega
  ·rw[V6 ha' (by omega)];exact hg
theorem Nd (T:Tx w K mg t)(F:Fun K "_law_made" "_law_made" Ym f fd)(eR:Cal P w K mg base 1 "_law_common" ["_law_one","_law_other"] (Sp2M φgcdA)):FnOk P w K mg base CX0 2 f fd ["_law_top","_law_bottom"] (Sp2 φfrac):=by
 refine F.ok sc_l_made YS (λcdv A outer s H vs Q E hr h=>?_);obtain⟨_,_,rfl,t,b,rfl,rfl,hb,hs,q⟩:=h;refine⟨_,((Qc (Qw (i:=2) sc_l_made.nd rfl (Or.inl rfl) (Qt eR (hrm hr) rfl (Qa (pu 0) (Qa (pu 1) Qb))))
   (Qc (Qy (Qj Xr (pu 1) Qd (Qk _)) (Qf (Qw (i:=2) sc_l_made.nd rfl (Or.inl rfl) (Xa Zb (pu 2)))) Qo)
   (Qf (Ql (QU (Qa (Qr QR (pu 0) (pu 2)) (Qa (Qr QR (pu 1) (pu 2)) Qb)))))))),?_⟩
 walk_at "go";refine⟨_,_,rfl,rfl,?_⟩;walk_at "go";have hg:=U2 (t:=t) hb;have hl:=P8 (t:=t) hb;have key:KB (fsg t b):=⟨hg,hs.le hl⟩
 by_cases hn:b<0
 ·rw[FD hn];have e:-(Int.gcd t b:Int)=fsg t b:=by unfold fsg;rw[FD hn]
  rw[e];refine⟨key,key,by decide,q⟩
 ·rw[FC hn];have e:(Int.gcd t b:Int)=fsg t b:=by unfold fsg;rw[FC hn]
  rw[e];refine⟨key,key,by decide,q⟩
inductive φmix (x y:V)(H:Hp)(Q:VK):Prop
 | mk (c k:Int) (h1:x=.int c) (h2:y=.int k) (h3:0<=k/\k<=7) (h4:∀(i:Int) H',Same H H'->0<=i->i<1000000000039->Q (.int i) H'):φmix x y H Q
theorem bdm {i:Int}(h:0<=i)(h':i<1000000000000000)(hm:60<=m:=by decide):Bd m i:=(show Bd 60 i by unfold Bd;omega).mono hm
theorem UL (T:Tx w K mg t)(F:Fun K "_law_mixed" "_law_mixed" XJ f fd):FnOk P w K mg base CX0 1 f fd ["_law_cell_here","_law_k"] (Sp2 φmix):=by
 refine F.ok sc_l_mixed YS (λcdv A outer s H vs Q E hr h=>?_);obtain⟨_,_,rfl,c,k,rfl,rfl,hk,q⟩:=h;refine⟨_,((Qc (Qw (i:=2) sc_l_mixed.nd rfl (Or.inl rfl) (Qp (ixK K rfl) (QF (Qa Qd (Qa Qd (Qa Qd (Qa Qd Qb))))) (Qr QD (pu 1) Qd) (λ_ _=>rfl)))
   (Qf (Ql (Qr QD (Qr Jy (Qr Jy (Qr QI (Qr QI (Qr QD (pu 0) Qd) (Qr Jy Qd (pu 1))) Qd) (pu 2)) (pu 2)) Qd))))),?_⟩
 walk_at "go";refine⟨by decide,λp hp=>⟨trivial,?_⟩⟩;have g:=Qg hp (.lst [V.int 48271,V.int 16807,V.int 69621,V.int 39373]);have kp:(upd H p (.lst [V.int 48271,V.int 16807,V.int 69621,V.int 39373])) p=some (.lst [V.int 48271,V.int 16807,V.int 69621,V.int 39373]):=Qe;generalize upd H p (.lst [V.int 48271,V.int 16807,V.int 69621,V.int 39373])=H1 at *;obtain⟨v,hv,v0,v1⟩:∃v:Int,atI [V.int 48271,V.int 16807,V.int 69621,V.int 39373] (k % 4)=some (.int v)/\0<=v/\v<=100000:=by
  rcases(show k % 4=0∨k % 4=1∨k % 4=2∨k % 4=3 by omega) with e|e|e|e<;>rw[e]
  ·exact⟨48271,rfl,by decide,by decide⟩
  ·exact⟨16807,rfl,by decide,by decide⟩
  ·exact⟨69621,rfl,by decide,by decide⟩
  ·exact⟨39373,rfl,by decide,by decide⟩
 refine QX (SqL.of kp) hv ⟨trivial,⟨bdm (by decide) (by decide),bdm (by omega) (by omega)⟩,?_⟩;walk_at "go";have m0:=F9 c (show(1000000000039:Int)≠0 by decide);have m1:=Ej c (show 0<(1000000000039:Int) by decide);have b1:Bd 60 (c % 1000000000039+7*k+3):=bdm (by omega) (by omega);have b2:Bd 60 v:=bdm v0 (by omega);refine⟨⟨b1.mono (by decide),b2.mono (by decide)⟩,⟨(b1.mul b2).mono (by decide),b2.mono (by decide)⟩,trivial,q _ _ g (F9 _ (by decide)) (Ej _ (by decide))⟩
inductive φname (x:V)(H:Hp)(Q:VK):Prop
 | mk (c:Int) (h1:x=.int c) (h2:0<=c/\c<1000000000039) (h3:∀z:Str,YB z->Q (.str z) H):φname x H Q
def abc:Str:=Str.ofString "abcdefghijklmnopqrstuvwxyz"
theorem Vv:abc.length=26:=by decide
theorem Le:abc.length<=1000:=by rw[Vv];decide
def Lt (z:Str):Prop:=∀c∈z.cps.toList,W6 c=true
theorem Ld:Lt abc:=by
 have:∀c∈abc.cps.toList,W6 c=true:=by decide +kernel
 exact this
theorem MD {c:Nat}(h:W6 c=true):Lt ⟨#[c]⟩:=λd hd=>by
 have hd:d∈[c]:=hd;rw[FQ.mp hd];exact h
theorem UU {a b:Str}(ha:Lt a)(hb:Lt b):Lt (a++b):=λc hc=>by
 rw[Wr] at hc;rcases Ec.mp hc with h|h
 ·exact ha c h
 ·exact hb c h
theorem B4 (h1:1<=z.length)(h2:z.length<=8)(h:Lt z):YB z:=by
 show(decide (1<=z.length)&&decide (z.length<=8)&&z.cps.toList.all W6)=true;rw[Ef h1,Ef h2,Ex.mpr h];rfl
theorem Hj {n:Int}(h0:0<=n)(h1:n<=8):PySem.MulOk (Str.ofString "a") n/\((Txt.mul (Str.ofString "a") n).length:Int)=n/\Lt (Txt.mul (Str.ofString "a") n):=by
 have e:(Str.ofString "a").length=1:=by decide
 have key:∀m:Nat,m<9->(Txt.mul (Str.ofString "a") (m:Int)).length=m/\(Txt.mul (Str.ofString "a") (m:Int)).cps.toList.all W6=true:=by decide +kernel
 refine⟨⟨?_,?_,?_⟩,?_⟩
 ·rw[Bool.or_eq_false_iff];exact⟨F1 (by omega),F1 (by omega)⟩
 ·intro hn _;rw[e];rcases(show n=1∨n=2∨n=3∨n=4∨n=5∨n=6∨n=7∨n=8 by omega) with rfl|rfl|rfl|rfl|rfl|rfl|rfl|rfl<;>decide
 ·intro hn _;rw[e];rcases(show n=1∨n=2∨n=3∨n=4∨n=5∨n=6∨n=7∨n=8 by omega) with rfl|rfl|rfl|rfl|rfl|rfl|rfl|rfl<;>decide
 ·obtain⟨m,rfl⟩:=Ez h0;obtain⟨k1,k2⟩:=key m (by omega);exact⟨by rw[k1],Ex.mp k2⟩
def NaI (c:Int)(H:Hp)(i:Nat)(σ':L2.St)(H':Hp):Prop:=∃(z:Str) (k0:Option V) (s a:Int),σ'=[some (.int c),some (.str abc),some (.int s),some (.int a),some (.str z),k0]/\H'=H/\z.length=i/\Lt z
theorem Nc (T:Tx w K mg t)(F:Fun K "_law_name" "_law_name" Yl f fd):FnOk P w K mg base CX0 1 f fd ["_law_cell_here"] (Sp1 φname):=by
 refine F.ok sc_l_name YT (λcdv A outer s H vs Q E hr h=>?_);obtain⟨_,rfl,c,rfl,hc,q⟩:=h;refine⟨_,((Qc (Qw (i:=1) sc_l_name.nd rfl (Or.inl rfl) Qn)
   (Qc (Qw (i:=2) sc_l_name.nd rfl (Or.inl rfl) (Qr QI Qd (Qr QD (pu 0) Qd)))
   (Qc (Qw (i:=3) sc_l_name.nd rfl (Or.inl rfl) (Qr QD (Qr QR (pu 0) Qd) (pu 2)))
   (Qc (Qy (Qj (eqM K rfl hr.units) (Qr QD (Qr QR (pu 0) Qd) Qd) Qd (Qk _)) (Qf (Ql (Qr QI (Qr QI (Qr Wf Qn (pu 3)) (Qp (ixK K rfl) (pu 1) (Qr QD (Qr QR (pu 0) Qd) Qd) (λ_ _=>rfl))) (Qr Wf Qn (Qr YE (Qr YE (pu 2) (pu 3)) Qd))))) Qo)
   (Qc (Qw (i:=4) sc_l_name.nd rfl (Or.inl rfl) Qn)
   (Qc (ZG Er rfl (ZU rfl T.bH (Qa (pu 2) Qb)) (QA (i:=5) sc_l_name.nd rfl (Or.inl rfl))
   (Qf (Qw (i:=4) sc_l_name.nd rfl (Or.inl rfl) (Qr QI (pu 4) (Qp (ixK K rfl) (pu 1) (Qr QD (Qr QR (pu 0) (Qr QI Qd (Qr Wf (Qr Wf Qd (pu 5)) (pu 5)))) Qd) (λ_ _=>rfl))))))
   (Qf (Ql (pu 4)))))))))),?_⟩
 walk_at "go";have s0:=F9 c (show(8:Int)≠0 by decide);have s1:=Ej c (show 0<(8:Int) by decide);have a0:=F9 (c.fdiv 8) (show 1+c % 8≠0 by omega);have a1:=Ej (c.fdiv 8) (show 0<1+c % 8 by omega);generalize c.fdiv 8 % (1+c % 8)=at' at *;have cd:∀j:Int,0<j->j<1000000->KB j:=λj h1 h2=>⟨by omega,(bdm (m:=60) (by omega) (by omega)).mono (by decide)⟩
 refine⟨trivial,cd _ (by decide) (by decide),by omega,cd _ (by decide) (by decide),trivial,Qz (λ_=>?_) (λ_=>?_)⟩
 ·obtain⟨o1,l1,t1⟩:=Hj a0 (show at'<=8 by omega);obtain⟨o2,l2,t2⟩:=Hj (n:=1+c % 8-at'-1) (by omega) (by omega);refine⟨o1,cd _ (by decide) (by decide),trivial,?_⟩;have d0:=F9 (c.fdiv 128) (show(26:Int)≠0 by decide);have d1:=Ej (c.fdiv 128) (show 0<(26:Int) by decide);refine Sa (z:=abc) Le d0 (by rw[Vv];exact d1) λcc hcc=>?_
  have hy:(⟨#[cc]⟩:Str).length=1:=rfl;walk_at "go";refine⟨Zw (by omega),o2,?_⟩;walk_at "go";exact⟨Zw (by rw[Zc];omega),q _ (B4 (by rw[Zc,Zc];omega) (by rw[Zc,Zc];omega) (UU (UU t1 (MD (Ld _ hcc))) t2))⟩
 ·refine⟨by omega,by omega,U3 (NaI c H) ⟨Str.ofString "",none,_,_,rfl,rfl,rfl,λc hc=>by cases hc⟩ ?_ ?_⟩
  ·rintro i _ H2 hi ⟨z,k0,s,a,rfl,rfl,hz,hlt⟩;have hi8:i<8:=by omega
   have hii:(0:Int)<=27*(0+(i:Int))*(0+(i:Int))/\27*(0+(i:Int))*(0+(i:Int))<=10000:=by
    rcases(show i=0∨i=1∨i=2∨i=3∨i=4∨i=5∨i=6∨i=7 by omega) with rfl|rfl|rfl|rfl|rfl|rfl|rfl|rfl<;>decide
   walk_at "go";refine⟨⟨bdm (by decide) (by decide),bdm (by omega) (by omega)⟩,⟨bdm (by omega) (by omega),bdm (by omega) (by omega)⟩,?_⟩;generalize 27*(0+(i:Int))*(0+(i:Int))=ii at *;walk_at "go";have d0:=F9 (c.fdiv (128+ii)) (show(26:Int)≠0 by decide);have d1:=Ej (c.fdiv (128+ii)) (show 0<(26:Int) by decide);refine⟨cd _ (by omega) (by omega),trivial,Sa (z:=abc) Le d0 (by rw[Vv];exact d1) λcc hcc=>?_⟩;have hy:(⟨#[cc]⟩:Str).length=1:=rfl;walk_at "go";exact⟨Zw (by omega),z++⟨#[cc]⟩,_,_,_,rfl,rfl,by rw[Zc];omega,UU hlt (MD (Ld _ hcc))⟩
  ·rintro _ H2 ⟨z,k0,s,a,rfl,rfl,hz,hlt⟩;walk_at "go";exact q _ (B4 (by omega) (by omega) hlt)
inductive φrate (K:W.Frag)(x y:V)(H:Hp)(Q:VK):Prop
 | mk (c k:Int) (h1:x=.int c) (h2:y=.int k) (h3:0<=k/\k<=2) (h4:∀p r s H',Same H H'->Xs r s->H' p=some (.tup [.int r,.int s])->Q (.ref p) H'):φrate K x y H Q
theorem VM (i:Int):∃v,atI [a,b] (i % 2)=some v/\(v=a∨v=b):=by
 rcases(show i % 2=0∨i % 2=1 by omega) with e|e<;>rw[e]
 ·exact⟨a,rfl,.inl rfl⟩
 ·exact⟨b,rfl,.inr rfl⟩
theorem Mh (i:Int):∃v,atI [a,b,c] (i % 3)=some v/\(v=a∨v=b∨v=c):=by
 rcases(show i % 3=0∨i % 3=1∨i % 3=2 by omega) with e|e|e<;>rw[e]
 ·exact⟨a,rfl,.inl rfl⟩
 ·exact⟨b,rfl,.inr (.inl rfl)⟩
 ·exact⟨c,rfl,.inr (.inr rfl)⟩
theorem G0 {t b:Int}(h0:0<=t)(h1:t<=9999)(h2:1<=b)(h3:b<=9999):Xs (Yc t b) (Yd t b):=by
 have hb:b≠0:=by omega
 have n1:=Bv (t:=t) hb;have n2:=Bx (t:=t) hb;have p:=MQ (t:=t) hb;have n0:0<=Yc t b:=by
  have e:=By (t:=t) hb;have h:0<=Yc t b*b:=by rw[e];exact Int.mul_nonneg h0 (by omega)
  exact Int.nonneg_of_mul_nonneg_left h (by omega)
 exact⟨n0,by omega,by omega,by omega,MR hb⟩
theorem G9 (T:Tx w K mg t)(F:Fun K "_law_rate" "_law_rate" Yi f fd)(eS:Cal P w K mg base 2 "_law_made" ["_law_top","_law_bottom"] (Sp2M φfrac))(aA:Cal P w K mg base 1 "_law_mixed" ["_law_cell_here","_law_k"] (Sp2M φmix)):FnOk P w K mg base CX0 3 f fd ["_law_cell_here","_law_k"] (Sp2 (φrate K)):=by
 refine F.ok sc_l_rate YS (λcdv A outer s H vs Q E hr h=>?_);obtain⟨_,_,rfl,c,k,rfl,rfl,hk,q⟩:=h;refine⟨_,((Qc (Qw (i:=2) sc_l_rate.nd rfl (Or.inl rfl) (Qr QD (Qt aA (hrm hr) rfl (Qa (pu 0) (Qa (pu 1) Qb))) (Qp (ixK K rfl) (QF (Qa Qd (Qa Qd Qb))) (Qr QD (Qt aA (hrm hr) rfl (Qa (pu 0) (Qa Qd Qb))) Qd) (λ_ _=>rfl))))
   (Qc (Qw (i:=3) sc_l_rate.nd rfl (Or.inl rfl) (Qr QI Qd (Qr QD (Qt aA (hrm hr) rfl (Qa (pu 0) (Qa (Qr QI (pu 1) Qd) Qb))) (Qp (ixK K rfl) (QF (Qa Qd (Qa Qd Qb))) (Qr QD (Qt aA (hrm hr) rfl (Qa (pu 0) (Qa Qd Qb))) Qd) (λ_ _=>rfl)))))
   (Qc (Qy (Qj (eqM K rfl hr.units) (Qr QD (Qr QR (Qt aA (hrm hr) rfl (Qa (pu 0) (Qa Qd Qb))) Qd) Qd) Qd (Qk _)) (Qf (Ql (Qp (ixK K rfl) (QF (Qa (QU (Qa Qd (Qa Qd Qb))) (Qa (QU (Qa Qd (Qa Qd Qb))) Qb))) (Qr QD (Qt aA (hrm hr) rfl (Qa (pu 0) (Qa (pu 1) Qb))) Qd) (λ_ _=>rfl)))) Qo)
   (Qf (Ql (Qt eS (hrm hr) rfl (Qa (pu 2) (Qa (pu 3) Qb))))))))),?_⟩
 walk_at "go";refine⟨c,k,rfl,rfl,by omega,λm1 H1 g1 m1a m1b=>?_⟩;walk_at "go";refine⟨by decide,λp1 hp1=>⟨c,3,rfl,rfl,by omega,λm2 H2 g2 m2a m2b=>?_⟩⟩;have g12:=(g1.trans (Qg hp1 _)).trans g2;have k1:=g2 _ _ (Qe (H:=H1) (a:=p1) (o:=.lst [.int 40,.int 10000]));walk_at "go";obtain⟨v1,hv1,hv1'⟩:=VM (a:=.int 40) (b:=.int 10000) m2;obtain⟨w1,rfl,w1a,w1b⟩:∃w:Int,v1=.int w/\0<w/\w<=10000:=by rcases hv1' with rfl|rfl;exact⟨_,rfl,by decide,by decide⟩;exact⟨_,rfl,by decide,by decide⟩
 refine⟨trivial,QX (SqL.of k1) hv1 ?_⟩;walk_at "go";have t0:=F9 m1 (show w1≠0 by omega);have t1:=Ej m1 w1a;refine⟨w1a,c,k+1,rfl,rfl,by omega,λm3 H3 g3 m3a m3b=>?_⟩;generalize m1 % w1=top at *;walk_at "go";refine⟨by decide,λp2 hp2=>⟨c,3,rfl,rfl,by omega,λm4 H4 g4 m4a m4b=>?_⟩⟩;have g14:=((g12.trans g3).trans (Qg hp2 _)).trans g4;have k2:=g4 _ _ (Qe (H:=H3) (a:=p2) (o:=.lst [.int 12,.int 9999]));walk_at "go";obtain⟨v2,hv2,hv2'⟩:=VM (a:=.int 12) (b:=.int 9999) m4;obtain⟨w2,rfl,w2a,w2b⟩:∃w:Int,v2=.int w/\0<w/\w<=9999:=by rcases hv2' with rfl|rfl;exact⟨_,rfl,by decide,by decide⟩;exact⟨_,rfl,by decide,by decide⟩
 refine⟨trivial,QX (SqL.of k2) hv2 ?_⟩;walk_at "go";have b0:=F9 m3 (show w2≠0 by omega);have b1:=Ej m3 w2a;refine⟨w2a,c,3,rfl,rfl,by omega,λm5 H5 g5 m5a m5b=>?_⟩;generalize m3 % w2=bot at *;have g15:=g14.trans g5;walk_at "go";refine⟨⟨by decide,(bdm (m:=60) (by decide) (by decide)).mono (by decide)⟩,trivial,Qz (λ_=>?_) (λ_=>?_)⟩
 ·refine⟨by decide,λp3 hp3=>⟨by decide,λp4 hp4=>⟨by decide,λp5 hp5=>⟨c,k,rfl,rfl,by omega,λm6 H6 g6 m6a m6b=>?_⟩⟩⟩⟩;have ga:=Qg hp3 (.tup [.int 9999,.int 1]);have ka:=Qe (H:=H5) (a:=p3) (o:=.tup [.int 9999,.int 1]);generalize upd H5 p3 (.tup [.int 9999,.int 1])=Ha at *;have gb:=Qg hp4 (.tup [.int 1,.int 9999]);have kb:=Qe (H:=Ha) (a:=p4) (o:=.tup [.int 1,.int 9999]);generalize upd Ha p4 (.tup [.int 1,.int 9999])=Hb at *;have gc:=Qg hp5 (.lst [.ref p3,.ref p4]);have kc:=Qe (H:=Hb) (a:=p5) (o:=.lst [.ref p3,.ref p4]);generalize upd Hb p5 (.lst [.ref p3,.ref p4])=Hc at *;walk_at "go";obtain⟨v3,hv3,hv3'⟩:=VM (a:=.ref p3) (b:=.ref p4) m6;refine⟨trivial,QX (SqL.of (g6 _ _ kc)) hv3 ?_⟩;have gg:=g15.trans (((ga.trans gb).trans gc).trans g6);rcases hv3' with rfl|rfl
  ·exact q _ _ _ _ gg ⟨by decide,by decide,by decide,by decide,by decide⟩ (((gb.trans gc).trans g6) _ _ ka)
  ·exact q _ _ _ _ gg ⟨by decide,by decide,by decide,by decide,by decide⟩ ((gc.trans g6) _ _ kb)
 ·refine⟨top,1+bot,rfl,rfl,by omega,(bdm (m:=60) (by omega) (by omega)).mono (by decide),λp hp=>?_⟩;exact q _ _ _ _ (g15.trans (Qg hp _)) (G0 t0 (by omega) (by omega) (by omega)) Qe
inductive φshw (K:W.Frag)(x:V)(H:Hp)(Q:VK):Prop
 | mk (p:Addr) (r s:Int) (h1:x=.ref p) (h2:SqT K H p [.int r,.int s]) (h3:Xs r s) (h4:Q (.str (ZI r s)) H):φshw K x H Q
theorem UK (T:Tx w K mg t)(F:Fun K "_law_shown" "_law_shown" XI f fd):FnOk P w K mg base CX0 1 f fd ["_law_rate_here"] (Sp1 (φshw K)):=by
 refine F.ok UB YT (λcdv A outer s H vs Q E hr h=>?_);obtain⟨_,rfl,p,r,s',rfl,hT,ok,q⟩:=h;refine⟨_,((Qc (Qy (Qj (eqM K rfl hr.units) (Qp (ixK K rfl) (pu 0) Qd (λ_ _=>rfl)) Qd (Qk _)) (Qf (Ql (QE ZJ (by rfl) T.bA boot_str (Qa (Qp (ixK K rfl) (pu 0) Qd (λ_ _=>rfl)) Qb)))) Qo)
   (Qf (Ql (Qr QI (Qr QI (QE ZJ (by rfl) T.bA boot_str (Qa (Qp (ixK K rfl) (pu 0) Qd (λ_ _=>rfl)) Qb)) Qn) (QE ZJ (by rfl) T.bA boot_str (Qa (Qp (ixK K rfl) (pu 0) Qd (λ_ _=>rfl)) Qb))))))),?_⟩
 obtain⟨r0,r1,s0,s1,_⟩:=ok;have l1:(nt r).length<=100:=len_num r0 (by omega);have l2:(nt s').length<=100:=len_num (n:=s') (by omega) (by omega);unfold ZI at q;walk_at "go";refine Qz (λe=>?_) (λe=>?_)
 ·rw[FD e] at q;walk_at "go";exact .inl ⟨r,rfl,Yv r0 (by omega),q⟩
 ·rw[FC e] at q;walk_at "go";refine .inl ⟨r,rfl,Yv r0 (by omega),?_⟩;walk_at "go";rw[N3];refine⟨Zw (by show(nt r).length+1<=1000;omega),?_⟩;walk_at "go";refine .inl ⟨s',rfl,Yv (by omega) (by omega),?_⟩;walk_at "go";exact⟨Zw (show(Str.ofString (toString r)++sla).length+(nt s').length<=1000 by rw[Zc];show(nt r).length+1+(nt s').length<=1000;omega),q⟩
inductive φages (K:W.Frag)(x:V)(H:Hp)(Q:VK):Prop
 | mk (c:Int) (h1:x=.int c) (h4:∀p l h H',Same H H'->KC l h->H' p=some (.tup [.int l,.int h])->Q (.ref p) H'):φages K x H Q
theorem Nh (T:Tx w K mg t)(F:Fun K "_law_ages" "_law_ages" Yp f fd)(aA:Cal P w K mg base 1 "_law_mixed" ["_law_cell_here","_law_k"] (Sp2M φmix)):FnOk P w K mg base CX0 2 f fd ["_law_cell_here"] (Sp1 (φages K)):=by
 refine F.ok sc_l_ages YT (λcdv A outer s H vs Q E hr h=>?_);obtain⟨_,rfl,c,rfl,q⟩:=h;refine⟨_,((Qc (Qw (i:=1) sc_l_ages.nd rfl (Or.inl rfl) (Qr QD (Qt aA (hrm hr) rfl (Qa (pu 0) (Qa Qd Qb))) Qd))
   (Qc (Qy (Qj (eqM K rfl hr.units) (Qr QD (Qt aA (hrm hr) rfl (Qa (pu 0) (Qa Qd Qb))) Qd) Qd (Qk _)) (Qf (Ql (QU (Qa (Qp (ixK K rfl) (QF (Qa (pu 1) (Qa Qd Qb))) (Qr QD (Qt aA (hrm hr) rfl (Qa (pu 0) (Qa Qd Qb))) Qd) (λ_ _=>rfl)) (Qa Qd Qb))))) Qo)
   (Qf (Ql (QU (Qa (pu 1) (Qa (Qr QI (pu 1) (Qr QD (Qt aA (hrm hr) rfl (Qa (pu 0) (Qa Qd Qb))) (Qr YE Qd (pu 1)))) Qb)))))))),?_⟩
 walk_at "go";refine⟨c,1,rfl,rfl,by omega,λm1 H1 g1 m1a m1b=>?_⟩;walk_at "go";have t0:=F9 m1 (show(151:Int)≠0 by decide);have t1:=Ej m1 (show(0:Int)<151 by decide);generalize m1 % 151=low at *;refine⟨trivial,c,3,rfl,rfl,by omega,λm2 H2 g2 m2a m2b=>?_⟩;have g12:=g1.trans g2;walk_at "go";refine⟨trivial,Qz (λ_=>?_) (λ_=>?_)⟩
 ·refine⟨by decide,λp1 hp1=>⟨c,2,rfl,rfl,by omega,λm3 H3 g3 m3a m3b=>?_⟩⟩;have k1:=g3 _ _ (Qe (H:=H2) (a:=p1) (o:=.lst [.int low,.int 150]));have g13:=(g12.trans (Qg hp1 _)).trans g3;walk_at "go";obtain⟨v1,hv1,hv1'⟩:=VM (a:=.int low) (b:=.int 150) m3;obtain⟨w1,rfl,w1a,w1b⟩:∃w:Int,v1=.int w/\0<=w/\w<=150:=by rcases hv1' with rfl|rfl;exact⟨_,rfl,by omega,by omega⟩;exact⟨_,rfl,by decide,by decide⟩
  refine⟨trivial,QX (SqL.of k1) hv1 ?_⟩;walk_at "go";exact⟨by decide,λp hp=>q _ _ _ _ (g13.trans (Qg hp _)) ⟨w1a,w1b,by decide⟩ Qe⟩
 ·refine⟨c,2,rfl,rfl,by omega,λm3 H3 g3 m3a m3b=>?_⟩;walk_at "go";have d0:=F9 m3 (show(151-low:Int)≠0 by omega);have d1:=Ej m3 (show(0:Int)<151-low by omega);exact⟨by omega,by decide,λp hp=>q _ _ _ _ ((g12.trans g3).trans (Qg hp _)) ⟨t0,by omega,by omega⟩ Qe⟩
inductive φamt (x y:V)(H:Hp)(Q:VK):Prop
 | mk (c k:Int) (h1:x=.int c) (h2:y=.int k) (h3:0<=k/\k<=6) (h4:∀n H',Same H H'->XC n->Q (.int n) H'):φamt x y H Q
theorem VQ (T:Tx w K mg t)(F:Fun K "_law_amount" "_law_amount" Xn f fd)(aA:Cal P w K mg base 1 "_law_mixed" ["_law_cell_here","_law_k"] (Sp2M φmix)):FnOk P w K mg base CX0 2 f fd ["_law_cell_here","_law_k"] (Sp2 φamt):=by
 refine F.ok sc_l_amount YS (λcdv A outer s H vs Q E hr h=>?_);obtain⟨_,_,rfl,c,k,rfl,rfl,hk,q⟩:=h;refine⟨_,((Qc (Qw (i:=2) sc_l_amount.nd rfl (Or.inl rfl) (Qt aA (hrm hr) rfl (Qa (pu 0) (Qa (pu 1) Qb))))
   (Qc (Qy (Qj (eqM K rfl hr.units) (Qr QD (pu 2) Qd) Qd (Qk _)) (Qf (Ql (Qr YF Qd Qd))) Qo)
   (Qf (Ql (Qr QD (Qr QR (pu 2) Qd) (Qp (ixK K rfl) (QF (Qa Qd (Qa Qd (Qa (Qr QI (Qr YF Qd Qd) Qd) Qb)))) (Qr QD (Qt aA (hrm hr) rfl (Qa (pu 0) (Qa (Qr QI (pu 1) Qd) Qb))) Qd) (λ_ _=>rfl)))))))),?_⟩
 walk_at "go";refine⟨c,k,rfl,rfl,by omega,λm1 H1 g1 m1a m1b=>?_⟩;walk_at "go";refine⟨trivial,Qz (λ_=>?_) (λ_=>?_)⟩
 ·refine⟨by unfold Uq;decide,q _ _ g1 ⟨by decide,by decide⟩⟩
 ·refine⟨⟨by decide,(bdm (m:=60) (by decide) (by decide)).mono (by decide)⟩,by unfold Uq;decide,by decide,λp1 hp1=>⟨c,k+1,rfl,rfl,by omega,λm2 H2 g2 m2a m2b=>?_⟩⟩;have k1:=g2 _ _ (Qe (H:=H1) (a:=p1) (o:=.lst [.int 4,.int 60,.int (10 ^ Int.toNat 9+1)]));have g12:=(g1.trans (Qg hp1 _)).trans g2;walk_at "go";obtain⟨v1,hv1,hv1'⟩:=Mh (a:=.int 4) (b:=.int 60) (c:=.int (10 ^ Int.toNat 9+1)) m2;obtain⟨w1,rfl,w1a,w1b⟩:∃w:Int,v1=.int w/\0<w/\w<=1000000001:=by
   rcases hv1' with rfl|rfl|rfl
   ·exact⟨_,rfl,by decide,by decide⟩
   ·exact⟨_,rfl,by decide,by decide⟩
   ·exact⟨_,rfl,by decide,by decide⟩
  refine⟨trivial,QX (SqL.of k1) hv1 ?_⟩;walk_at "go";have d0:=F9 (m1.fdiv 6) (show(w1:Int)≠0 by omega);have d1:=Ej (m1.fdiv 6) w1a;exact⟨w1a,q _ _ g12 ⟨d0,by omega⟩⟩
inductive φpool (K:W.Frag)(x y:V)(H:Hp)(Q:VK):Prop
 | mk (c m:Int) (h1:x=.int c) (h2:y=.int m) (h3:1<=m/\m<=8) (h4:∀a (ns:List Str) H',Same H H'->H a=none->H' a=some (.lst (ns.map V.str))->ns.Nodup->(∀z∈ns,YB z)->1<=ns.length->ns.length<=8->Q (.ref a) H'):φpool K x y H Q
def words8:List Str:=[q_ "kind",q_ "cap",q_ "off",q_ "counts",q_ "base",q_ "round",q_ "until",q_ "pay"]
theorem words8_nd:words8.Nodup:=by decide +kernel
theorem GS:∀z∈words8,YB z:=by
 have:∀z∈words8,Vj (.str z)=true:=by decide +kernel
 exact this
def PoI (c m:Int)(l:Addr)(H:Hp)(i:Nat)(σ':L2.St)(H':Hp):Prop:=∃(x3 x4:Option V) (ns:List Str),σ'=[some (.int c),some (.int m),some (.ref l),x3,x4]/\Same H H'/\H l=none/\H' l=some (.lst (ns.map V.str))/\ns.Nodup/\(∀z∈ns,YB z)/\ns.length<=i/\(1<=i->1<=ns.length)
theorem Na (T:Tx w K mg t)(F:Fun K "_law_pool" "_law_pool" Yj f fd)(eT:Cal P w K mg base 1 "_law_name" ["_law_cell_here"] (Sp1M φname))(aA:Cal P w K mg base 1 "_law_mixed" ["_law_cell_here","_law_k"] (Sp2M φmix)):FnOk P w K mg base CX0 2 f fd ["_law_cell_here","_law_most"] (Sp2 (φpool K)):=by
 refine F.ok sc_l_pool YS (λcdv A outer s H vs Q E hr h=>?_);obtain⟨_,_,rfl,c,m,rfl,rfl,hm,q⟩:=h;refine⟨_,((Qc (Qw (i:=2) sc_l_pool.nd rfl (Or.inl rfl) (QF Qb))
   (Qc (Qy (Qj (eqM K rfl hr.units) (Qr QD (Qr QR (pu 0) Qd) Qd) Qd (Qk _)) (Qf (Ql (Zp (slK K rfl) (QF (Qa Qn (Qa Qn (Qa Qn (Qa Qn (Qa Qn (Qa Qn (Qa Qn (Qa Qn Qb))))))))) ZN (Zv (pu 1))))) Qo)
   (Qc (ZG Er rfl (ZU rfl T.bH (Qa (pu 1) Qb)) (QA (i:=3) sc_l_pool.nd rfl (Or.inl rfl))
   (Qc (Qw (i:=4) sc_l_pool.nd rfl (Or.inl rfl) (Qt eT (hrm hr) rfl (Qa (Qt aA (hrm hr) rfl (Qa (Qr QI (Qr QR (pu 0) Qd) (Qr Mq (pu 3) (pu 3))) (Qa (pu 3) Qb))) Qb)))
   (Qf (Qy (Qj (XD K rfl) (pu 4) (pu 2) (by with_unfolding_all rfl)) (Qf (QP (QQ K rfl F8 Eh Ei QK (pu 2) (Qa (pu 4) Qb)))) Qo))))
   (Qf (Ql (pu 2))))))),?_⟩
 walk_at "go";refine⟨by decide,λl hl=>?_⟩;have g1:=Qg hl (.lst []);have hl1:=Qe (H:=H) (a:=l) (o:=.lst []);generalize upd H l (.lst [])=H1 at *;walk_at "go";obtain⟨k,rfl⟩:=Ez (show 0<=m by omega);have cd:∀j:Int,0<j->j<1000000->KB j:=λj h1 h2=>⟨by omega,(bdm (m:=60) (by omega) (by omega)).mono (by decide)⟩
 refine⟨cd _ (by decide) (by decide),trivial,Qz (λ_=>?_) (λ_=>?_)⟩
 ·refine⟨by decide,λp hp=>Y7 (SqL.of Qe) λp2 hp2=>?_⟩;refine q p2 (words8.take k) _ (g1.trans ((Qg hp _).trans (Qg hp2 _))) ((g1.trans (Qg hp _)).free hp2) ?_ (words8_nd.sublist (List.take_sublist _ _)) (λz hz=>GS z (List.mem_of_mem_take hz)) ?_ ?_
  ·rw[Qe,U5,List.map_take];rfl
  ·rw[Ep];show 1<=min k 8;omega
  ·rw[Ep];exact Nat.min_le_right _ _
 ·refine⟨by omega,by omega,U3 (PoI c k l H) ⟨none,none,[],rfl,g1,hl,hl1,Dh,(λz hz=>by cases hz),FE _,λh=>by omega⟩ ?_ ?_⟩
  ·rintro i _ H2 hi ⟨x3,x4,ns,rfl,g,_,hl2,nd,ok,len,pos⟩;have hi8:i<8:=by omega
   have sq:(0:Int)<=(0+(i:Int))*(0+(i:Int))/\(0+(i:Int))*(0+(i:Int))<=100:=by
    rcases(show i=0∨i=1∨i=2∨i=3∨i=4∨i=5∨i=6∨i=7 by omega) with rfl|rfl|rfl|rfl|rfl|rfl|rfl|rfl<;>decide
   walk_at "go";refine⟨cd _ (by decide) (by decide),⟨bdm (by omega) (by omega),bdm (by omega) (by omega)⟩,?_⟩;walk_at "go";refine⟨_,_,rfl,rfl,by omega,λn H3 g3 n0 n1=>⟨n,rfl,⟨n0,n1⟩,λz hz=>?_⟩⟩;have hl3:=g3 _ _ hl2;have gg:=g.trans g3;walk_at "go";refine ZY (SqL.of hl3) ?_;walk_at "go";refine Qz (λhm=>?_) (λhm=>?_)
   ·refine ⟨.inl ⟨rfl,_,SqL.of hl3⟩,l,_,_,rfl,rfl,hl3,by rw [FH,FN];omega,?_⟩;refine ⟨_,_,ns++[z],rfl,fun b o h=>by rw [Qq (Qm h hl)];exact gg _ _ h,hl,by rw [Qe,FR];rfl,EN.mpr ⟨nd,by simp,fun a ha b hb e=>hm (by rw [FQ.mp hb] at e;rw [<-e];exact ha)⟩,fun y hy=>?_,by rw [FF,FK];omega,fun _=>by rw [FF,FK];omega⟩;rcases Ec.mp hy with hy | hy
    ·exact ok y hy
    ·rw[FQ.mp hy];exact hz
   ·have hm:z∈ns:=Classical.not_not.mp hm;exact⟨_,_,ns,rfl,gg,hl,hl3,nd,ok,by omega,λ_=>List.length_pos_of_mem hm⟩
  ·rintro _ H2 ⟨x3,x4,ns,rfl,g,_,hl2,nd,ok,len,pos⟩;walk_at "go";exact q l ns _ g hl hl2 nd ok (pos (by omega)) (by omega)
inductive LIt (K:W.Frag)(H:Hp):Itm->V->Prop
 | base (a:Int) (x:Addr) (h:SqT K H x [.str (q_ "base"),.int a]):LIt K H (.base a) (.ref x)
 | each (a l h':Int) (x:Addr) (h:SqT K H x [.str (q_ "each"),.int a,.int l,.int h']):LIt K H (.each a l h') (.ref x)
 | rent (r s m:Int) (x p:Addr) (h:SqT K H x [.str (q_ "rent"),.ref p,.int m]) (hp:SqT K H p [.int r,.int s]):LIt K H (.rent r s m) (.ref x)
 | from' (n l h':Int) (x:Addr) (h:SqT K H x [.str (q_ "from"),.int n,.int l,.int h']):LIt K H (.term false n l h') (.ref x)
 | upto (n l h':Int) (x:Addr) (h:SqT K H x [.str (q_ "upto"),.int n,.int l,.int h']):LIt K H (.term true n l h') (.ref x)
 | pay (r s l h':Int) (x p:Addr) (h:SqT K H x [.ref p,.int l,.int h']) (hp:SqT K H p [.int r,.int s]):LIt K H (.pay r s l h') (.ref x)
 | cnt (z:Str) (r s:Int) (x p:Addr) (h:SqT K H x [.str z,.ref p]) (hp:SqT K H p [.int r,.int s]):LIt K H (.cnt z r s) (.ref x)
 | off (l r s:Int) (x p:Addr) (h:SqT K H x [.int l,.ref p]) (hp:SqT K H p [.int r,.int s]):LIt K H (.off l r s) (.ref x)
 | unt (a:Int):LIt K H (.unt a) (.int a)
 | rnd (u:Int) (z:Str) (x:Addr) (h:SqT K H x [.int u,.str z]):LIt K H (.rnd u z) (.ref x)
theorem LIt.kp (g:Kp N H H'){x:Itm}{v:V}(h:LIt K H x v):LIt K H' x v:=by
 cases h with
 | base a x h=>exact .base a x (g.sqT h)
 | each a l h' x h=>exact .each a l h' x (g.sqT h)
 | rent r s m x p h hp=>exact .rent r s m x p (g.sqT h) (g.sqT hp)
 | from' n l h' x h=>exact .from' n l h' x (g.sqT h)
 | upto n l h' x h=>exact .upto n l h' x (g.sqT h)
 | pay r s l h' x p h hp=>exact .pay r s l h' x p (g.sqT h) (g.sqT hp)
 | cnt z r s x p h hp=>exact .cnt z r s x p (g.sqT h) (g.sqT hp)
 | off l r s x p h hp=>exact .off l r s x p (g.sqT h) (g.sqT hp)
 | unt a=>exact .unt a
 | rnd u z x h=>exact .rnd u z x (g.sqT h)
theorem YH (g:Kp N H H'){xs:List Itm}{vs:List V}(h:All2 (LIt K H) xs vs):All2 (LIt K H') xs vs:=⟨h.1,λi a b ha hb=>(h.2 i a b ha hb).kp g⟩
inductive φpart (K:W.Frag)(x:V)(H:Hp)(Q:VK):Prop
 | mk (c:Int) (h1:x=.int c) (h2:∀x' v H',Same H H'->x'.Ok->x'.sl=0->LIt K H' x' v->Q v H'):φpart K x H Q
theorem Nb (T:Tx w K mg t)(F:Fun K "_law_part" "_law_part" Yk f fd)(aY:Cal P w K mg base 3 "_law_rate" ["_law_cell_here","_law_k"] (Sp2M (φrate K)))(aA:Cal P w K mg base 1 "_law_mixed" ["_law_cell_here","_law_k"] (Sp2M φmix))(bG:Cal P w K mg base 2 "_law_ages" ["_law_cell_here"] (Sp1M (φages K)))(aZ:Cal P w K mg base 2 "_law_amount" ["_law_cell_here","_law_k"] (Sp2M φamt)):FnOk P w K mg base CX0 4 f fd ["_law_cell_here"] (Sp1 (φpart K)):=by
 refine F.ok sc_l_part YT (λcdv A outer s H vs Q E hr h=>?_);obtain⟨_,rfl,c,rfl,q⟩:=h;refine⟨_,((Qc (Qw (i:=1) sc_l_part.nd rfl (Or.inl rfl) (Qt aZ (hrm hr) rfl (Qa (pu 0) (Qa Qd Qb))))
   (Qc (KZ (Qt bG (hrm hr) rfl (Qa (pu 0) Qb)) (pgK (n:=2) K rfl rfl (QJ (QA (i:=2) sc_l_part.nd rfl (Or.inl rfl)) (QJ (QA (i:=3) sc_l_part.nd rfl (Or.inl rfl)) Xq))))
   (Qc (Qw (i:=4) sc_l_part.nd rfl (Or.inl rfl) (Qr QD (Qr QR (Qt aA (hrm hr) rfl (Qa (pu 0) (Qa Qd Qb))) Qd) Qd))
   (Qc (Qy (Qj (eqM K rfl hr.units) (pu 4) Qd (Qk _)) (Qf (Ql (QU (Qa Qn (Qa (pu 1) Qb))))) Qo)
   (Qc (Qy (Qj (eqM K rfl hr.units) (pu 4) Qd (Qk _)) (Qf (Ql (QU (Qa Qn (Qa (pu 1) (Qa (pu 2) (Qa (pu 3) Qb))))))) Qo)
   (Qf (Ql (QU (Qa Qn (Qa (Qt aY (hrm hr) rfl (Qa (pu 0) (Qa Qd Qb))) (Qa (pu 1) Qb)))))))))))),?_⟩
 walk_at "go";refine⟨c,3,rfl,rfl,by omega,λn H1 g1 hn=>?_⟩;walk_at "go";refine⟨c,rfl,λp l h' H2 g2 ha hp=>?_⟩;have hT:=SqT.of (K:=K) hp;walk_at "go";refine⟨c,0,rfl,rfl,by omega,λm H3 g3 m0 m1=>?_⟩;have g13:=(g1.trans g2).trans g3;walk_at "go";refine⟨⟨by decide,(bdm (m:=60) (by decide) (by decide)).mono (by decide)⟩,trivial,Qz (λ_=>?_) (λ_=>Qz (λ_=>?_) (λ_=>?_))⟩
 ·exact⟨by decide,λp4 hp4=>q (.base n) _ _ (g13.trans (Qg hp4 _)) hn rfl (.base n p4 (SqT.of Qe))⟩
 ·exact⟨by decide,λp4 hp4=>q (.each n l h') _ _ (g13.trans (Qg hp4 _)) ⟨hn,ha⟩ rfl (.each n l h' p4 (SqT.of Qe))⟩
 ·refine⟨c,0,rfl,rfl,by omega,λp5 r s' H4 g4 hr' hp5=>?_⟩;walk_at "go";exact⟨by decide,λp4 hp4=>q (.rent r s' n) _ _ ((g13.trans g4).trans (Qg hp4 _)) ⟨hr',hn⟩ rfl (.rent r s' n p4 p5 (SqT.of Qe) ((Qg hp4 _).sqT (SqT.of hp5)))⟩
inductive φterm (K:W.Frag)(x:V)(H:Hp)(Q:VK):Prop
 | mk (c:Int) (h1:x=.int c) (h2:∀x' v H',Same H H'->x'.Ok->x'.sl=1->LIt K H' x' v->Q v H'):φterm K x H Q
theorem G7 (T:Tx w K mg t)(F:Fun K "_law_term" "_law_term" Yg f fd)(aA:Cal P w K mg base 1 "_law_mixed" ["_law_cell_here","_law_k"] (Sp2M φmix))(bG:Cal P w K mg base 2 "_law_ages" ["_law_cell_here"] (Sp1M (φages K))):FnOk P w K mg base CX0 3 f fd ["_law_cell_here"] (Sp1 (φterm K)):=by
 refine F.ok sc_l_term YT (λcdv A outer s H vs Q E hr h=>?_);obtain⟨_,rfl,c,rfl,q⟩:=h;refine⟨_,((Qc (KZ (Qt bG (hrm hr) rfl (Qa (pu 0) Qb)) (pgK (n:=2) K rfl rfl (QJ (QA (i:=1) sc_l_term.nd rfl (Or.inl rfl)) (QJ (QA (i:=2) sc_l_term.nd rfl (Or.inl rfl)) Xq))))
   (Qc (Qw (i:=3) sc_l_term.nd rfl (Or.inl rfl) (Qr QD (Qr QR (Qt aA (hrm hr) rfl (Qa (pu 0) (Qa Qd Qb))) Qd) Qd))
   (Qc (Qy (Qj (eqM K rfl hr.units) (Qr QD (Qt aA (hrm hr) rfl (Qa (pu 0) (Qa Qd Qb))) Qd) Qd (Qk _)) (Qf (Qw (i:=3) sc_l_term.nd rfl (Or.inl rfl) Qd)) Qo)
   (Qf (Ql (QU (Qa (Qp (ixK K rfl) (QF (Qa Qn (Qa Qn Qb))) (Qr QD (Qt aA (hrm hr) rfl (Qa (pu 0) (Qa Qd Qb))) Qd) (λ_ _=>rfl)) (Qa (pu 3) (Qa (pu 1) (Qa (pu 2) Qb))))))))))),?_⟩
 walk_at "go";refine⟨c,rfl,λp l h' H2 g2 ha hp=>?_⟩;have hT:=SqT.of (K:=K) hp;walk_at "go";refine⟨c,3,rfl,rfl,by omega,λm H3 g3 m0 m1=>?_⟩;have g13:=g2.trans g3;have fin:∀(n:Int) (H4:Hp),Same H H4->0<=n/\n<=60->2<=sizeLine/\∀p,H4 p=none->φmix (.int c) (.int 0) (upd H4 p (.lst [.str (Str.ofString "from"),.str (Str.ofString "upto")])) λx H1=>sI (λx j=>0<j) (λi j=>V.int (i % j)) x (.int 2) H1 λy H2=>rIx K (.ref p) y H2 λx H1=>4<=sizeLine/\∀p,H1 p=none->Q (.ref p) (upd H1 p (.tup [x,.int n,.int l,.int h'])):=λn H4 g4 hn=>by
  refine⟨by decide,λp1 hp1=>⟨c,0,rfl,rfl,by omega,λm2 H5 g5 _ _=>?_⟩⟩;have k1:=g5 _ _ (Qe (H:=H4) (a:=p1) (o:=.lst [.str (Str.ofString "from"),.str (Str.ofString "upto")]));have g6:=(g4.trans (Qg hp1 _)).trans g5;walk_at "go";obtain⟨v1,hv1,hv1'⟩:=VM (a:=.str (Str.ofString "from")) (b:=.str (Str.ofString "upto")) m2;refine⟨trivial,QX (SqL.of k1) hv1 ⟨by decide,λp2 hp2=>?_⟩⟩;rcases hv1' with rfl|rfl
  ·exact q (.term false n l h') _ _ (g6.trans (Qg hp2 _)) ⟨hn,ha⟩ rfl (.from' n l h' p2 (SqT.of Qe))
  ·exact q (.term true n l h') _ _ (g6.trans (Qg hp2 _)) ⟨hn,ha⟩ rfl (.upto n l h' p2 (SqT.of Qe))
 walk_at "go";have d0:=F9 (m.fdiv 2) (show(61:Int)≠0 by decide);have d1:=Ej (m.fdiv 2) (show(0:Int)<61 by decide);refine⟨⟨by decide,(bdm (m:=60) (by decide) (by decide)).mono (by decide)⟩,trivial,c,2,rfl,rfl,by omega,λm2 H4 g4 _ _=>?_⟩;walk_at "go";refine⟨trivial,Qz (λ_=>fin 60 _ (g13.trans g4) ⟨by decide,by decide⟩) (λ_=>fin _ _ (g13.trans g4) ⟨d0,by omega⟩)⟩
def Wv (K:W.Frag)(H:Hp)(z:Str)(v:V):Prop:=(v=.str z∨(∃n,v=.int n/\XC n/\z=nt n)∨∃p r s,v=.ref p/\SqT K H p [.int r,.int s]/\Xs r s/\z=ZI r s)/\z.length<=1000
inductive φwds (K:W.Frag)(x:V)(H:Hp)(Q:VK):Prop
 | mk (a:Addr) (vs:List V) (zs:List Str) (h1:x=.ref a) (h2:SqT K H a vs) (h3:All2 (Wv K H) zs vs) (h4:zs.length<=20) (h5:∀H',Same H H'->Q (.str (Txt.join blank zs)) H'):φwds K x H Q
def WoI (a l:Addr)(zs:List Str)(H:Hp)(i:Nat)(σ':L2.St)(H':Hp):Prop:=∃x2,σ'=[some (.ref a),some (.ref l),x2]/\Same H H'/\H l=none/\H' l=some (.lst ((zs.take i).map V.str))
theorem UJ (T:Tx w K mg t)(F:Fun K "_law_words" "_law_words" XH f fd)(eU:Cal P w K mg base 1 "_law_shown" ["_law_rate_here"] (Sp1M (φshw K))):FnOk P w K mg base CX0 2 f fd ["_law_row"] (Sp1 (φwds K)):=by
 refine F.ok sc_l_words YT (λcdv A outer s H vs Q E hr h=>?_);obtain⟨_,rfl,a,vs,zs,rfl,hT,hA,hn,q⟩:=h;refine⟨_,((Qc (Qw (i:=1) sc_l_words.nd rfl (Or.inl rfl) (QF Qb))
   (Qc (ZG Er rfl (Fc K rfl (pu 0)) (QA (i:=2) sc_l_words.nd rfl (Or.inl rfl))
   (Qf (Qy (Zu (Qs (Kd K rfl) (by rfl) T.aV boot_isinstance (Qa (pu 2) (Qa (B3 T.cJ boot_tuple) Qb)))) (Qf (QP (QQ K rfl F8 Eh Ei QK (pu 1) (Qa (Qt eU (hrm hr) rfl (Qa (pu 2) Qb)) Qb)))) (Qf (QP (QQ K rfl F8 Eh Ei QK (pu 1) (Qa (QE ZJ (by rfl) T.bA boot_str (Qa (pu 2) Qb)) Qb)))))))
   (Qf (Ql (QQ K rfl PySem.F.plainAttrs_str PySem.F.slot_str_join PySem.F.type_str_join (Gv K rfl) Qn (Qa (pu 1) Qb))))))),?_⟩
 walk_at "go";refine⟨by decide,λl hl=>?_⟩;have g1:=Qg hl (.lst []);have hl1:=Qe (H:=H) (a:=l) (o:=.lst []);generalize upd H l (.lst [])=H1 at *;walk_at "go";have hwl:=hA.1;refine⟨a,rfl,⟨_,g1.sqT hT⟩,Bu (xs:=vs) (WoI a l zs H) ⟨none,rfl,g1,hl,hl1⟩ (λi σ' H' _ h=>by obtain⟨_,_,g',_⟩:=h;exact g'.sqT hT) ?_ ?_⟩
 ·rintro i v _ H2 hv ⟨x2,rfl,g,_,hl2⟩;obtain⟨z,hz,hw,hzl⟩:=hA.getV hv;have hi:i<vs.length:=ZW hv;have st:(zs.take (i+1)).map V.str=(zs.take i).map V.str++[V.str z]:=by rw[Et,hz,FR];rfl
  have ln:((zs.take i).map V.str).length<sizeLine:=by rw[FH,Ep,FN];omega
  have fin:∀x:V,WoI a l zs H (i+1) [some (.ref a),some (.ref l),some x] (upd H2 l (.lst ((zs.take i).map V.str++[.str z]))):=λx=>⟨_,rfl,λb o h=>by rw[Qq (Qm h hl)];exact g _ _ h,hl,by rw[Qe,st]⟩
  rcases hw with rfl|⟨n,rfl,hn',rfl⟩|⟨p,r,s',rfl,hp,ok,rfl⟩
  ·walk_at "go";refine Jj (.str z) (by rfl) ?_;walk_at "go";exact⟨.inl ⟨rfl,_,SqL.of hl2⟩,.inr ⟨z,rfl,l,_,_,rfl,rfl,hl2,ln,fin _⟩⟩
  ·walk_at "go";exact⟨.inl ⟨rfl,_,SqL.of hl2⟩,.inl ⟨n,rfl,Yv hn'.1 (by have:=hn'.2;omega),l,_,_,rfl,rfl,hl2,ln,fin _⟩⟩
  ·have hp2:=g.sqT hp;walk_at "go";exact⟨.inl ⟨rfl,_,SqL.of hl2⟩,p,r,s',rfl,hp2,ok,l,_,_,rfl,rfl,hl2,ln,fin _⟩
 ·rintro _ H2 ⟨x2,rfl,g,_,hl2⟩;rw[Eg (by omega)] at hl2;walk_at "go";rw[XX];refine⟨by trivial,blank,l,zs,rfl,rfl,SqL.of hl2,?_,q _ g⟩;have:∀l:List Str,(∀z∈l,z.length<=1000)->(l.map (·.length)).sum<=l.length*1000:=by
   intro l
   induction l with
   | nil=>simp
   | cons x l ih=>
    intro h;have h1:=h x Eb;have h2:=ih λy hy=>h y (F5 _ hy)
    simp only[El,List.sum_cons,Ea];omega
  have h1:=this zs λz hz=>by
   obtain⟨k,hk⟩:=List.getElem?_of_mem hz;obtain⟨v,_,hw⟩:=hA.get hk;exact hw.2
  have h2:blank.length=1:=rfl;rw[h2];omega
inductive φlim (K:W.Frag)(x y:V)(H:Hp)(Q:VK):Prop
 | mk (a:Addr) (c:Int) (xs:List Itm) (vs:List V) (h1:x=.ref a) (h2:y=.int c) (h3:SqL K H a vs) (h4:All2 (LIt K H) xs vs) (h5:∀x∈xs,x.sl=4/\x.Ok) (h6:∀n H',Same H H'->0<=n->Q (.int n) H'):φlim K x y H Q
theorem Gw {l r s:Int}(h:LIt K H (.off l r s) v):∃x p,v=.ref x/\SqT K H x [.int l,.ref p]/\SqT K H p [.int r,.int s]:=by
 cases h with|off _ _ _ x p h hp=>exact⟨x,p,rfl,h,hp⟩
theorem Gx {r s:Int}(h:LIt K H (.cnt z r s) v):∃x p,v=.ref x/\SqT K H x [.str z,.ref p]/\SqT K H p [.int r,.int s]:=by
 cases h with|cnt _ _ _ x p h hp=>exact⟨x,p,rfl,h,hp⟩
theorem Xg (h1:SqL K H p vs)(h2:SqL K H r [])(q:Q (.bl vs.isEmpty) H):RX K (.ref p) (.ref r) H Q:=by
 cases vs with
 | nil=>
  have r1:Rep K H (.lst []) (.ref p):=.lst h1 rfl λi d x e _=>by simp at e
  have r2:Rep K H (.lst []) (.ref r):=.lst h2 rfl λi d x e _=>by simp at e
  have r3:DB 30 (.lst []):=.lst λd hd=>by cases hd
  exact .inl (BO r1 r2 r3 ⟨λ_=>rfl,λ_=>rfl⟩ q)
 | cons v r'=>exact .inr ⟨p,r,_,_,rfl,rfl,h1,h2,by simp,q⟩
theorem UM (T:Tx w K mg t)(F:Fun K "_law_limit" "_law_limit" XM f fd)(aA:Cal P w K mg base 1 "_law_mixed" ["_law_cell_here","_law_k"] (Sp2M φmix)):FnOk P w K mg base CX0 2 f fd ["_law_offs","_law_cell_here"] (Sp2 (φlim K)):=by
 refine F.ok sc_l_limit YS (λcdv A outer s H vs Q E hr h=>?_);obtain⟨_,_,rfl,a,c,xs,vs,rfl,rfl,hL,hA,hx,q⟩:=h;refine⟨_,((Qc (Qw (i:=2) sc_l_limit.nd rfl (Or.inl rfl) (Qr QI Qd (Qr QD (Qt aA (hrm hr) rfl (Qa (pu 1) (Qa Qd Qb))) (Qp (ixK K rfl) (QF (Qa Qd (Qa (Qr YF Qd Qd) (Qa (Qr YF Qd Qd) Qb)))) (Qr QD (Qt aA (hrm hr) rfl (Qa (pu 1) (Qa Qd Qb))) Qd) (λ_ _=>rfl)))))
   (Qc (Qy (Qj (eqM K rfl hr.units) (Qr QD (Qr QR (Qt aA (hrm hr) rfl (Qa (pu 1) (Qa Qd Qb))) Qd) Qd) Qd (Qk _)) (Qf (Ql (Qr YF Qd Qd))) Qo)
   (Qc (Qy (Qj (Vn K rfl hr.units) (pu 0) (QF Qb) (Qk _)) (Qf (Ql (Qr YE (pu 2) Qd))) Qo)
   (Qf (Ql (Qr QI (Qp (ixK K rfl) (Qp (ixK K rfl) (pu 0) (Xa Zb Qd) (λ_ _=>rfl)) Qd (λ_ _=>rfl)) (pu 2)))))))),?_⟩
 walk_at "go";refine⟨c,1,rfl,rfl,by omega,λm1 H1 g1 a1 b1=>?_⟩;walk_at "go";refine⟨by unfold Uq;decide,by unfold Uq;decide,by decide,λp1 hp1=>⟨c,2,rfl,rfl,by omega,λm2 H2 g2 a2 b2=>?_⟩⟩;have k1:=g2 _ _ (Qe (H:=H1) (a:=p1) (o:=.lst [.int 3,.int (10 ^ Int.toNat 4),.int (10 ^ Int.toNat 8)]));have g12:=(g1.trans (Qg hp1 _)).trans g2;walk_at "go";obtain⟨v1,hv1,hv1'⟩:=Mh (a:=.int 3) (b:=.int (10 ^ Int.toNat 4)) (c:=.int (10 ^ Int.toNat 8)) m2;obtain⟨w1,rfl,w1a⟩:∃w:Int,v1=.int w/\0<w:=by
  rcases hv1' with rfl|rfl|rfl
  ·exact⟨_,rfl,by decide⟩
  ·exact⟨_,rfl,by decide⟩
  ·exact⟨_,rfl,by decide⟩
 refine⟨trivial,QX (SqL.of k1) hv1 ?_⟩;walk_at "go";have d0:=F9 m1 (show(w1:Int)≠0 by omega);refine⟨w1a,c,2,rfl,rfl,by omega,λm3 H3 g3 a3 b3=>?_⟩;generalize m1 % w1=st at *;have g13:=g12.trans g3;walk_at "go";refine⟨⟨by decide,(bdm (m:=60) (by decide) (by decide)).mono (by decide)⟩,trivial,Qz (λ_=>⟨by unfold Uq;decide,q _ _ g13 (by decide)⟩) (λ_=>⟨by decide,λp2 hp2=>?_⟩)⟩;have g14:=g13.trans (Qg hp2 (.lst []));refine Xg (g14.seq hL) (SqL.of Qe) ?_;walk_at "go";rcases List.eq_nil_or_concat vs with rfl|⟨w0,v,rfl⟩
 ·refine Qz (λ_=>?_) (λe=>absurd rfl e);exact q _ _ g14 (by omega)
 ·rw[List.concat_eq_append] at *;refine Qz (λe=>absurd e (by simp)) (λ_=>?_);obtain⟨y,hy,hP⟩:=hA.getV (i:=w0.length) (v:=v) (by rw[Em (FE _),Es];rfl);obtain⟨hsl,hok⟩:=hx y (EE hy);obtain⟨l2,r2,s2,rfl⟩:=Ux hsl;obtain⟨p,p3,rfl,hT,_⟩:=Gw hP;refine QX (g14.seq hL) (Zf _ _) (ZE (g14.sqT hT) rfl ?_);walk_at "go";have:=hok.1.1;exact q _ _ g14 (by omega)
theorem GM (K:W.Frag){X:Cx}(h:X.K=K):OpR X (binaryOp .Add) (Mb K):=by subst h;exact L8
structure KL (K:W.Frag)(H:Hp)(p:Addr)(z:Str)(xs:List Itm)(q:Nat->Addr):Prop where
 hp:H p=some (.tup [.str z,.ref (q 0),.ref (q 1),.ref (q 2),.ref (q 3),.ref (q 4),.ref (q 5),.ref (q 6)])
 hq:∀j<7,∃vs,H (q j)=some (.lst vs)/\All2 (LIt K H) (xs.filter λx=>decide (x.sl=j)) vs
theorem KL.mono {xs:List Itm}(g:Same H H')(h:KL K H p z xs q):KL K H' p z xs q:=by
 refine⟨g _ _ h.hp,λj hj=>?_⟩;obtain⟨vs,h1,h2⟩:=h.hq j hj;exact⟨vs,g _ _ h1,YH (N:=λ_=>True) (.of g) h2⟩
theorem KL.upd {xs:List Itm}{c:Addr}{ws:List V}(h:KL K H p z xs q)(hc:H c=some (.lst ws))(hn:∀j<7,q j≠c):KL K (L2.upd H c o) p z xs q:=by
 have g:=Q4 (N:=λb=>b≠c) (o:=o) hc λb h=>h
 refine⟨g _ _ h.hp (.inr λvs e=>nomatch e),λj hj=>?_⟩;obtain⟨vs,h1,h2⟩:=h.hq j hj;exact⟨vs,g _ _ h1 (.inl (hn j hj)),YH g h2⟩
theorem KL.add {xs:List Itm}{x:Itm}(h:KL K H p z xs q)(hc:H (q x.sl)=some (.lst vs))(hinj:∀i<7,∀j<7,q i=q j->i=j)(hv:LIt K H x v):KL K (L2.upd H (q x.sl) (.lst (vs++[v]))) p z (xs++[x]) q:=by
 have g:=Q4 (N:=λb=>b≠q x.sl) (o:=.lst (vs++[v])) hc λb h=>h
 refine⟨g _ _ h.hp (.inr λvs e=>nomatch e),λj hj=>?_⟩;obtain⟨us,h1,h2⟩:=h.hq j hj;rw[Dg];by_cases e:x.sl=j
 ·subst e;rw[hc] at h1;cases h1;refine⟨_,Qe,?_⟩;rw[show[x].filter (λy=>decide (y.sl=x.sl))=[x] by simp];have h3:=YH g h2;have hl:=h3.1;refine⟨by rw[FF,FF,hl];rfl,λi a b ha hb=>?_⟩;by_cases hi:i<vs.length
  ·rw[En (by omega)] at ha;rw[En hi] at hb;exact h3.2 i a b ha hb
  ·have hi2:i<(vs++[v]).length:=(FZ.mp hb).1;rw[FF,FK] at hi2;have:i=vs.length:=by omega
   subst this;rw[Em (by omega),hl,Es] at ha;rw[Em (FE _),Es] at hb;cases ha;cases hb;exact hv.kp g
 ·refine⟨us,g _ _ h1 (.inl λe2=>e (hinj _ (Xx x) _ hj e2.symm)),?_⟩;rw[show[x].filter (λy=>decide (y.sl=j))=[] by simp[e],EH];exact YH g h2
theorem tx2 (a b:Str):Txt.join blank [a,b]=a++blank++b:=StrLaws.glued_eq_join blank [a,b]
theorem tx3 (a b c:Str):Txt.join blank [a,b,c]=a++blank++(b++blank++c):=StrLaws.glued_eq_join blank [a,b,c]
theorem KD (h:z.length<=1000):Wv K H z (.str z):=⟨.inl rfl,h⟩
theorem Y8 {n:Int}(h:XC n):Wv K H (nt n) (.int n):=⟨.inr (.inl ⟨n,rfl,h,rfl⟩),(Za h).2.1⟩
theorem NT {r s:Int}(h:Xs r s)(hp:SqT K H p [.int r,.int s]):Wv K H (ZI r s) (.ref p):=⟨.inr (.inr ⟨p,r,s,rfl,hp,h,rfl⟩),(Z9 h).2.1⟩
theorem QV {R:α->V->Prop}:All2 R [] []:=⟨rfl,λi a b h=>by simp at h⟩
theorem Qv {R:α->V->Prop}{a:α}{l:List α}(h:R a v)(t:All2 R l vs):All2 R (a::l) (v::vs):=⟨by rw[Ea,Ea,t.1],λi=>by
 cases i with
 | zero=>intro x y hx hy;cases hx;cases hy;exact h
 | succ j=>intro x y hx hy;exact t.2 j x y (by simpa using hx) (by simpa using hy)⟩
theorem XB {l h:Int}(a:KC l h):XC l/\XC h:=⟨⟨a.1,by have:=a.2;omega⟩,⟨by have:=a;unfold KC at this;omega,by have:=a.2;omega⟩⟩
theorem PM {x:Itm}(h:LIt K H x v)(ok:x.Ok)(hs:x.sl=0∨x.sl=1):∃a us,v=.ref a/\SqT K H a us/\All2 (Wv K H) (x.srt::x.ws) us:=by
 cases h with
 | base n a h=>exact⟨a,_,rfl,h,Qv (KD (Zi _ (Xw (.itm _))).2.1) (Qv (Y8 ok) QV)⟩
 | each n l h' a h=>exact⟨a,_,rfl,h,Qv (KD (Zi _ (Xw (.itm _))).2.1) (Qv (Y8 ok.1) (Qv (Y8 (XB ok.2).1) (Qv (Y8 (XB ok.2).2) QV)))⟩
 | rent r s m a p h hp=>exact⟨a,_,rfl,h,Qv (KD (Zi _ (Xw (.itm _))).2.1) (Qv (NT ok.1 hp) (Qv (Y8 ok.2) QV))⟩
 | from' n l h' a h=>exact⟨a,_,rfl,h,Qv (KD (Zi _ (Xw (.itm _))).2.1) (Qv (Y8 ⟨ok.1.1,by have:=ok.1.2;omega⟩) (Qv (Y8 (XB ok.2).1) (Qv (Y8 (XB ok.2).2) QV)))⟩
 | upto n l h' a h=>exact⟨a,_,rfl,h,Qv (KD (Zi _ (Xw (.itm _))).2.1) (Qv (Y8 ⟨ok.1.1,by have:=ok.1.2;omega⟩) (Qv (Y8 (XB ok.2).1) (Qv (Y8 (XB ok.2).2) QV)))⟩
 | _=>simp[Itm.sl] at hs
inductive φput (K:W.Frag)(x y z:V)(H:Hp)(Q:VK):Prop
 | mk (p pl:Addr) (c:Int) (tl:Str) (xs:List Itm) (q:Nat->Addr) (ns:List Str) (h1:x=.ref p) (h2:y=.ref pl) (h3:z=.int c) (h4:KL K H p tl xs q) (h5:∀i<7,∀j<7,q i=q j->i=j) (h6:SqL K H pl (ns.map V.str)) (h6':∀j<7,q j≠pl) (h7:∀z∈ns,YB z) (h8:1<=ns.length/\ns.length<=8) (h9:∀y∈xs,y.Ok) (h10:xs.length<=200)
   (q0:∀H',Same H H'->Q (.str (q_ "")) H')
   (q1:∀x v vs H1 H',Same H H1->x.Ok->YR xs x->(∀z r s,x=.cnt z r s->z∈ns)->H1 (q x.sl)=some (.lst vs)->LIt K H1 x v->Same (upd H1 (q x.sl) (.lst (vs++[v]))) H'->Q (.str (Row.itm x).tx) H'):φput K x y z H Q
theorem PL {x:Itm}(h:LIt K H x v)(ok:x.Ok)(hs:x.sl=2∨x.sl=3∨x.sl=4):∃a us,v=.ref a/\SqT K H a us/\us≠[]/\All2 (Wv K H) x.ws us:=by
 cases h with
 | pay r s l h' a p h hp=>exact⟨a,_,rfl,h,by simp,Qv (NT ok.1 hp) (Qv (Y8 (XB ok.2).1) (Qv (Y8 (XB ok.2).2) QV))⟩
 | cnt z r s a p h hp=>exact⟨a,_,rfl,h,by simp,Qv (KD (ZH ok.1).2.1) (Qv (NT ok.2 hp) QV)⟩
 | off l r s a p h hp=>exact⟨a,_,rfl,h,by simp,Qv (Y8 ok.1) (Qv (NT ok.2 hp) QV)⟩
 | _=>simp[Itm.sl] at hs
theorem Wv.kp (g:Kp N H H'){z:Str}{v:V}(h:Wv K H z v):Wv K H' z v:=by
 obtain⟨h|h|⟨p,r,s,e,hp,ok,e2⟩,l⟩:=h
 ·exact⟨.inl h,l⟩
 ·exact⟨.inr (.inl h),l⟩
 ·exact⟨.inr (.inr ⟨p,r,s,e,g.sqT hp,ok,e2⟩),l⟩
theorem NS (g:Kp N H H'){zs:List Str}{vs:List V}(h:All2 (Wv K H) zs vs):All2 (Wv K H') zs vs:=⟨h.1,λi a b ha hb=>(h.2 i a b ha hb).kp g⟩
theorem Yy {xs:List Itm}{x:Itm}(h3:x.sl≠3)(h4:x.sl≠4)(h:((xs.filter λy=>decide (y.sl=x.sl)).length:Int)<mo x.sl):YR xs x:=by
 cases x with
 | cnt=>exact absurd rfl h3
 | off=>exact absurd rfl h4
 | _=>exact h
theorem Lx (a b c:Str):a++b++c=a++(b++c):=KJ (by rw[Wr,Wr,Wr,Wr,List.append_assoc])
theorem RK (a:Int):(Row.itm (.unt a)).tx=Str.ofString "until "++nt a:=by
 show Txt.join blank [q_ "until",nt a]=_;rw[tx2,show Str.ofString "until "=q_ "until"++blank by decide +kernel]
theorem RL (u:Int)(z:Str):(Row.itm (.rnd u z)).tx=Str.ofString "round "++nt u++Str.ofString " "++z:=by
 show Txt.join blank [q_ "round",nt u,z]=_;rw[tx3,show Str.ofString "round "=q_ "round"++blank by decide +kernel,XX];simp only[Lx]
def OfI (fl:List Itm)(n:Int)(H:Hp)(i:Nat)(acc:List V)(σ':L2.St)(H':Hp):Prop:=∃x0,σ'=[x0,some (.int n)]/\Same H H'/\(acc=[]->∀y∈fl.take i,∀l r s,y=.off l r s->l<n)
def CmI (fl:List Itm)(H:Hp)(i:Nat)(acc:List V)(σ':L2.St)(H':Hp):Prop:=∃x0,σ'=[x0]/\Same H H'/\acc=((fl.take i).map cnN).map V.str
theorem Ms (T:Tx w K mg t)(F:Fun K "_law_put" "_law_put" Wb f fd)(aA:Cal P w K mg base 1 "_law_mixed" ["_law_cell_here","_law_k"] (Sp2M φmix))(aZ:Cal P w K mg base 2 "_law_amount" ["_law_cell_here","_law_k"] (Sp2M φamt))(bC:Cal P w K mg base 2 "_law_words" ["_law_row"] (Sp1M (φwds K)))(aY:Cal P w K mg base 3 "_law_rate" ["_law_cell_here","_law_k"] (Sp2M (φrate K)))(eV:Cal P w K mg base 2 "_law_limit" ["_law_offs","_law_cell_here"] (Sp2M (φlim K)))(bG:Cal P w K mg base 2 "_law_ages" ["_law_cell_here"] (Sp1M (φages K)))(eW:Cal P w K mg base 3 "_law_term" ["_law_cell_here"] (Sp1M (φterm K)))(eX:Cal P w K mg base 4 "_law_part" ["_law_cell_here"] (Sp1M (φpart K))):FnOk P w K mg base CX0 5 f fd ["_law_last","_law_pool_here","_law_cell_here"] (Sp3 (φput K)):=by
 refine F.ok sc_l_put KM (λcdv A outer s H vs Q E hr h=>?_);obtain⟨_,_,_,rfl,p,pl,c,tl,xs,q',ns,rfl,rfl,rfl,hK,hinj,hP,hqp,hns,hnl,hok,hxl,q0,q1⟩:=h;refine⟨_,((Qc (Qw (i:=3) sc_l_put.nd rfl (Or.inl rfl) (Qr QD (pu 2) Qd))
   (Qc (Qy (PW.pt (ZF (Qj Xr (pu 3) Qd (Qk _)) (Zt (Qj Xr (Qs (Zr K rfl) (by rfl) T.aB FO (Qa (Qp (ixK K rfl) (pu 0) Qd (λ_ _=>rfl)) Qb)) Qd (Qk _))))) (Qc (QP (QQ K rfl F8 Eh Ei QK (Qp (ixK K rfl) (pu 0) Qd (λ_ _=>rfl)) (Qa (Qt eX (hrm hr) rfl (Qa (pu 2) Qb)) Qb)))
   (Qf (Ql (Qt bC (hrm hr) rfl (Qa (Qp (ixK K rfl) (Qp (ixK K rfl) (pu 0) Qd (λ_ _=>rfl)) (Xa Zb Qd) (λ_ _=>rfl)) Qb))))) Qo)
   (Qc (Qy (PW.pt (ZF (Qj (eqM K rfl hr.units) (pu 3) Qd (Qk _)) (Zt (Qj Xr (Qs (Zr K rfl) (by rfl) T.aB FO (Qa (Qp (ixK K rfl) (pu 0) Qd (λ_ _=>rfl)) Qb)) Qd (Qk _))))) (Qc (QP (QQ K rfl F8 Eh Ei QK (Qp (ixK K rfl) (pu 0) Qd (λ_ _=>rfl)) (Qa (Qt eW (hrm hr) rfl (Qa (pu 2) Qb)) Qb)))
   (Qf (Ql (Qt bC (hrm hr) rfl (Qa (Qp (ixK K rfl) (Qp (ixK K rfl) (pu 0) Qd (λ_ _=>rfl)) (Xa Zb Qd) (λ_ _=>rfl)) Qb))))) Qo)
   (Qc (Qy (PW.pt (ZF (Qj (eqM K rfl hr.units) (pu 3) Qd (Qk _)) (Zt (Qj Xr (Qs (Zr K rfl) (by rfl) T.aB FO (Qa (Qp (ixK K rfl) (pu 0) Qd (λ_ _=>rfl)) Qb)) Qd (Qk _))))) (Qc (KZ (Qt bG (hrm hr) rfl (Qa (pu 2) Qb)) (pgK (n:=2) K rfl rfl (QJ (QA (i:=4) sc_l_put.nd rfl (Or.inl rfl)) (QJ (QA (i:=5) sc_l_put.nd rfl (Or.inl rfl)) Xq))))
   (Qc (QP (QQ K rfl F8 Eh Ei QK (Qp (ixK K rfl) (pu 0) Qd (λ_ _=>rfl)) (Qa (QU (Qa (Qt aY (hrm hr) rfl (Qa (pu 2) (Qa Qd Qb))) (Qa (pu 4) (Qa (pu 5) Qb)))) Qb)))
   (Qf (Ql (Qt bC (hrm hr) rfl (Qa (Qr (GM K rfl) (QU (Qa Qn Qb)) (Qp (ixK K rfl) (Qp (ixK K rfl) (pu 0) Qd (λ_ _=>rfl)) (Xa Zb Qd) (λ_ _=>rfl))) Qb)))))) Qo)
   (Qc (Qw (i:=6) sc_l_put.nd rfl (Or.inl rfl) (Qp (ixK K rfl) (pu 1) (Qr QD (Qt aA (hrm hr) rfl (Qa (pu 2) (Qa Qd Qb))) (Qs (Zr K rfl) (by rfl) T.aB FO (Qa (pu 1) Qb))) (λ_ _=>rfl)))
   (Qc (Qy (PW.pt (ZF (Qj (eqM K rfl hr.units) (pu 3) Qd (Qk _)) (Zt (Qj (XD K rfl) (pu 6) (Xz (N:=["_law_one"]) (caps:=[none]) rfl W8 (piK K rfl (Qp (ixK K rfl) (pu 0) Qd (λ_ _=>rfl))) (λ_ _ _ _=>QA (i:=0) (show(["_law_one"]:List Str).Nodup by decide +kernel) rfl (Or.inl rfl) (.inr rfl)) (λ_ _ _ _=>Xh) (λ_ _ _ _=>(Qp (ixK K rfl) (pu 0) Qd (λ_ _=>rfl)))) (by with_unfolding_all rfl))))) (Qc (QP (QQ K rfl F8 Eh Ei QK (Qp (ixK K rfl) (pu 0) Qd (λ_ _=>rfl)) (Qa (QU (Qa (pu 6) (Qa (Qt aY (hrm hr) rfl (Qa (pu 2) (Qa Qd Qb))) Qb))) Qb)))
   (Qf (Ql (Qt bC (hrm hr) rfl (Qa (Qr (GM K rfl) (QU (Qa Qn Qb)) (Qp (ixK K rfl) (Qp (ixK K rfl) (pu 0) Qd (λ_ _=>rfl)) (Xa Zb Qd) (λ_ _=>rfl))) Qb))))) Qo)
   (Qc (Qw (i:=7) sc_l_put.nd rfl (Or.inr rfl) (Qt eV (hrm hr) rfl (Qa (Qp (ixK K rfl) (pu 0) Qd (λ_ _=>rfl)) (Qa (pu 2) Qb))))
   (Qc (Qy (PW.pt (ZF (Qj (eqM K rfl hr.units) (pu 3) Qd (Qk _)) (ZF (Qj Xr (Qs (Zr K rfl) (by rfl) T.aB FO (Qa (Qp (ixK K rfl) (pu 0) Qd (λ_ _=>rfl)) Qb)) Qd (Qk _)) (ZF (Qj Pw (pu 7) (Qr YF Qd Qd) (Qk _)) (Zt (Qj (Vn K rfl hr.units) (Xz (N:=["_law_one","_law_limit_here"]) (caps:=[none,some 7]) rfl W8 (piK K rfl (Qp (ixK K rfl) (pu 0) Qd (λ_ _=>rfl))) (λ_ _ _ _=>QA (i:=0) (show(["_law_one","_law_limit_here"]:List Str).Nodup by decide +kernel) rfl (Or.inl rfl) (.inr rfl)) (λ_ _ _ _=>KY (Qj Py (Qp (ixK K rfl) (pu 0) Qd (λ_ _=>rfl)) (pu 1) (Qk _))) (λ_ _ _ _=>(pu 0))) (QF Qb) (Qk _))))))) (Qc (QP (QQ K rfl F8 Eh Ei QK (Qp (ixK K rfl) (pu 0) Qd (λ_ _=>rfl)) (Qa (QU (Qa (pu 7) (Qa (Qt aY (hrm hr) rfl (Qa (pu 2) (Qa Qd Qb))) Qb))) Qb)))
   (Qf (Ql (Qt bC (hrm hr) rfl (Qa (Qr (GM K rfl) (QU (Qa Qn Qb)) (Qp (ixK K rfl) (Qp (ixK K rfl) (pu 0) Qd (λ_ _=>rfl)) (Xa Zb Qd) (λ_ _=>rfl))) Qb))))) Qo)
   (Qc (Qy (PW.pt (ZF (Qj (eqM K rfl hr.units) (pu 3) Qd (Qk _)) (Zt (Qj (Vn K rfl hr.units) (Qp (ixK K rfl) (pu 0) Qd (λ_ _=>rfl)) (QF Qb) (Qk _))))) (Qc (QP (QQ K rfl F8 Eh Ei QK (Qp (ixK K rfl) (pu 0) Qd (λ_ _=>rfl)) (Qa (Qt aZ (hrm hr) rfl (Qa (pu 2) (Qa Qd Qb))) Qb)))
   (Qf (Ql (Qr QI Qn (QE ZJ (by rfl) T.bA boot_str (Qa (Qp (ixK K rfl) (Qp (ixK K rfl) (pu 0) Qd (λ_ _=>rfl)) Qd (λ_ _=>rfl)) Qb)))))) Qo)
   (Qc (Qy (PW.pt (ZF (Qj (eqM K rfl hr.units) (pu 3) Qd (Qk _)) (Zt (Qj (Vn K rfl hr.units) (Qp (ixK K rfl) (pu 0) Qd (λ_ _=>rfl)) (QF Qb) (Qk _))))) (Qc (Qw (i:=8) sc_l_put.nd rfl (Or.inl rfl) (Qs (NJ rfl) (by rfl) T.gG boot_max (Qa Qd (Qa (Qt aZ (hrm hr) rfl (Qa (pu 2) (Qa Qd Qb))) Qb))))
   (Qc (QP (QQ K rfl F8 Eh Ei QK (Qp (ixK K rfl) (pu 0) Qd (λ_ _=>rfl)) (Qa (QU (Qa (pu 8) (Qa (Qp (ixK K rfl) (QF (Qa Qn (Qa Qn (Qa Qn Qb)))) (Qr QD (Qt aA (hrm hr) rfl (Qa (pu 2) (Qa Qd Qb))) Qd) (λ_ _=>rfl)) Qb))) Qb)))
   (Qf (Ql (Qr QI (Qr QI (Qr QI Qn (QE ZJ (by rfl) T.bA boot_str (Qa (pu 8) Qb))) Qn) (Qp (ixK K rfl) (Qp (ixK K rfl) (Qp (ixK K rfl) (pu 0) Qd (λ_ _=>rfl)) Qd (λ_ _=>rfl)) Qd (λ_ _=>rfl))))))) Qo)
   (Qf (Ql Qn))))))))))))),?_⟩
 have hfl:∀j,(xs.filter λy=>decide (y.sl=j)).length<=200:=λj=>F2 (EX _ _) hxl
 have fin1:∀(x:Itm) (v:V) (vs:List V) (H1:Hp),Same H H1->x.Ok->YR xs x->(x.sl=0∨x.sl=1)->LIt K H1 x v->H1 (q' x.sl)=some (.lst vs)->φwds K v (upd H1 (q' x.sl) (.lst (vs++[v]))) Q:=λx v vs H1 g ok fi hs lit hv=>by
  obtain⟨a,us,rfl,hS,hA⟩:=PM lit ok hs;have kp:=Q4 (N:=λb=>b≠q' x.sl) (o:=.lst (vs++[.ref a])) hv λb h=>h
  refine⟨a,us,x.srt::x.ws,rfl,kp.sqT hS,NS kp hA,by have:=KG (r:=.itm x) ok;show x.ws.length+1<=20;have:x.ws.length<=10:=this;omega,λH' g'=>q1 x _ vs H1 H' g ok fi (λz r s e=>by subst e;simp[Itm.sl] at hs) hv lit g'⟩
 have fin2:∀(x:Itm) (v:V) (vs:List V) (H1 H2:Hp) (p1:Addr),Same H H1->x.Ok->YR xs x->(∀z r s,x=.cnt z r s->z∈ns)->(x.sl=2∨x.sl=3∨x.sl=4)->LIt K H1 x v->H1 (q' x.sl)=some (.lst vs)->Same (upd H1 (q' x.sl) (.lst (vs++[v]))) H2->H2 p1=some (.tup [.str x.srt])->Mb K (.ref p1) v H2 λy H3=>φwds K y H3 Q:=λx v vs H1 H2 p1 g ok fi hc hs lit hv g2 hp1=>by
  obtain⟨a,us,rfl,hS,ne,hA⟩:=PL lit ok hs;have kp:=(Q4 (N:=λb=>b≠q' x.sl) (o:=.lst (vs++[.ref a])) hv λb h=>h).trans (.of g2);have hwl:x.ws.length<=10:=KG (r:=.itm x) ok;have hul:=hA.1;refine⟨p1,a,_,us,rfl,rfl,SqT.of hp1,kp.sqT hS,by simp,by rw[FN];show 1+us.length<=_;omega,λe=>absurd e ne,λ_ p2 hp2=>?_⟩;have g3:=Qg hp2 (.tup ([.str x.srt]++us));exact⟨p2,_,x.srt::x.ws,rfl,SqT.of Qe,Qv (KD (Zi _ (Xw (.itm x))).2.1) (NS (kp.trans (.of g3)) hA),by show x.ws.length+1<=20;omega,λH' g'=>q1 x _ vs H1 H' g ok fi hc hv lit (g2.trans (g3.trans g'))⟩
 generalize hR9:Y9 (W3 (KI (uB (tOp (sEq K) (X7 3) (tC (V.int 7)))) _) _ _) _=R9;generalize hR8:Y9 (W3 (KI (uB (tOp (sEq K) (X7 3) (tC (V.int 6)))) _) _ _) _=R8;generalize hR7:Y9 (W3 (KI (uB (tOp (sEq K) (X7 3) (tC (V.int 5)))) _) _ _) _=R7;generalize hR6:Y9 (VB _ (Wk 7)) _=R6;generalize hR5:Y9 (W3 (KI (uB (tOp (sEq K) (X7 3) (tC (V.int 4)))) _) _ _) _=R5;generalize hR4:Y9 (VB _ (Wk 6)) _=R4;generalize hR3:Y9 (W3 (KI (uB (tOp (sEq K) (X7 3) (tC (V.int 3)))) _) _ _) _=R3;generalize hR2:Y9 (W3 (KI (uB (tOp (sEq K) (X7 3) (tC (V.int 2)))) _) _ _) _=R2;have key9:∀(D:Q6) (x4 x5 x6 x7 x8:Option V) (H1:Hp),D.rt=Q->Same H H1->R9 D [some (.ref p),some (.ref pl),some (.int c),some (.int (c % 8)),x4,x5,x6,x7,x8] H1:=by
  subst hR9;intro D x4 x5 x6 x7 x8 H1 hD g;have hT:=SqT.of (K:=K) (g _ _ hK.hp);walk_at "go";rw[hD];refine Qz (λ_=>?_) (λ_=>q0 _ g);obtain⟨v6,k6,a6⟩:=hK.hq 6 (by decide);refine ZE hT rfl ⟨by decide,λp1 hp1=>?_⟩;have g1:=g.trans (Qg hp1 (.lst []));refine Xg (SqL.of (g1 _ _ k6)) (SqL.of Qe) ?_;walk_at "go";refine Qz (λe=>?_) (λ_=>q0 _ g1);have e6:v6=[]:=by simpa using e
  subst e6;generalize upd H1 p1 (.lst [])=H1' at *;refine⟨c,3,rfl,rfl,by omega,λn H2 g2 hn=>⟨1,n,rfl,?_⟩⟩;have g12:=g1.trans g2;have hu:1<=(if n > 1 then n else 1)/\(if n > 1 then n else 1)<=1000000000:=by have:=hn.2;split<;>omega
  generalize (if n > 1 then n else 1)=u at *;refine ZE (SqT.of (g12 _ _ hK.hp)) rfl ⟨.inl ⟨rfl,_,SqL.of (g12 _ _ k6)⟩,by decide,λp2 hp2=>⟨c,1,rfl,rfl,by omega,λm H3 g3 _ _=>?_⟩⟩;have kw:=g3 _ _ (Qe (H:=H2) (a:=p2) (o:=.lst [.str (Str.ofString "down"),.str (Str.ofString "up"),.str (Str.ofString "near")]));have g13:=(g12.trans (Qg hp2 _)).trans g3;walk_at "go";obtain⟨w1,hw1,hw'⟩:=Mh (a:=.str (Str.ofString "down")) (b:=.str (Str.ofString "up")) (c:=.str (Str.ofString "near")) m;obtain⟨zw,rfl,hz⟩:∃z,w1=.str z/\JI z=true:=by
   rcases hw' with rfl|rfl|rfl
   ·exact⟨_,rfl,by decide +kernel⟩
   ·exact⟨_,rfl,by decide +kernel⟩
   ·exact⟨_,rfl,by decide +kernel⟩
  refine⟨trivial,QX (SqL.of kw) hw1 ⟨by decide,λp3 hp3=>?_⟩⟩;have g4:=g13.trans (Qg hp3 (.tup [.int u,.str zw]));have k3:=Qe (H:=H3) (a:=p3) (o:=.tup [.int u,.str zw]);generalize upd H3 p3 (.tup [.int u,.str zw])=H4 at *;have kq:=g4 _ _ k6;have lu:(nt u).length<=100:=len_num (by omega) (by omega);have lz:=(Kk hz).2.1;have lr:(Str.ofString "round ").length=6:=by decide +kernel
  have lb:(Str.ofString " ").length=1:=by decide +kernel
  refine⟨q' 6,[],_,rfl,rfl,kq,by rw[FN];decide,.inl ⟨u,rfl,Yv (by omega) (by omega),?_⟩⟩;walk_at "go";have lu':(Str.ofString (toString u)).length<=100:=lu;have kp:=Q4 (N:=λb=>b≠q' 6) (o:=.lst ([]++[.ref p3])) kq λb h=>h
  refine⟨Zw (by omega),Zw (by rw[Zc];omega),ZE (kp.sqT (SqT.of (g4 _ _ hK.hp))) rfl (QX (SqL.of Qe) (v:=.ref p3) rfl (ZE (kp.sqT (SqT.of k3)) rfl ?_))⟩;walk_at "go";refine⟨by rw[FN,Zc,Zc];omega,?_⟩;have fi:YR xs (.rnd u zw):=Yy (by simp[Itm.sl]) (by simp[Itm.sl]) (by
   have:=a6.1;show((xs.filter λy=>decide (y.sl=6)).length:Int)<1;rw[this];decide)
  have:=q1 (.rnd u zw) (.ref p3) [] H4 _ g4 ⟨hu,hz⟩ fi (λz r s e=>nomatch e) kq (.rnd u zw p3 (SqT.of k3)) (Same.refl _);rw[RL] at this;exact this
 have key8:∀(D:Q6) (x4 x5 x6 x7 x8:Option V) (H1:Hp),D.rt=Q->Same H H1->R8 D [some (.ref p),some (.ref pl),some (.int c),some (.int (c % 8)),x4,x5,x6,x7,x8] H1:=by
  subst hR8;intro D x4 x5 x6 x7 x8 H1 hD g;have hT:=SqT.of (K:=K) (g _ _ hK.hp);walk_at "go";refine Qz (λ_=>?_) (λ_=>key9 _ _ _ _ _ _ _ hD g);obtain⟨v5,k5,a5⟩:=hK.hq 5 (by decide);refine ZE hT rfl ⟨by decide,λp1 hp1=>?_⟩;have g1:=g.trans (Qg hp1 (.lst []));refine Xg (SqL.of (g1 _ _ k5)) (SqL.of Qe) ?_;walk_at "go";refine Qz (λe=>?_) (λ_=>key9 _ _ _ _ _ _ _ hD g1);have e5:v5=[]:=by simpa using e
  subst e5;generalize upd H1 p1 (.lst [])=H1' at *;refine ZE (SqT.of (g1 _ _ hK.hp)) rfl ⟨.inl ⟨rfl,_,SqL.of (g1 _ _ k5)⟩,c,3,rfl,rfl,by omega,λn H2 g2 hn=>?_⟩;have g12:=g1.trans g2;have kq:=g12 _ _ k5;have kp:=Q4 (N:=λb=>b≠q' 5) (o:=.lst ([]++[.int n])) kq λb h=>h
  refine⟨q' 5,[],_,rfl,rfl,kq,by rw[FN];decide,ZE (kp.sqT (SqT.of (g12 _ _ hK.hp))) rfl (QX (SqL.of Qe) (v:=.int n) rfl (.inl ⟨n,rfl,Yv hn.1 (by have:=hn.2;omega),?_⟩))⟩;walk_at "go";have lu:(Str.ofString (toString n)).length<=100:=len_num hn.1 (by have:=hn.2;omega);have lr:(Str.ofString "until ").length=6:=by decide +kernel
  have fi:YR xs (.unt n):=Yy (by simp[Itm.sl]) (by simp[Itm.sl]) (by
   have:=a5.1;show((xs.filter λy=>decide (y.sl=5)).length:Int)<1;rw[this];decide)
  have:=q1 (.unt n) (.int n) [] H2 _ g12 hn fi (λz r s e=>nomatch e) kq (.unt n) (Same.refl _);rw[RK] at this;rw[hD];exact⟨Zw (by omega),this⟩
 have key7:∀(D:Q6) (n:Int) (x4 x5 x6 x8:Option V) (H1:Hp),D.rt=Q->Same H H1->0<=n->R7 D [some (.ref p),some (.ref pl),some (.int c),some (.int (c % 8)),x4,x5,x6,some (.int n),x8] H1:=by
  subst hR7;intro D n x4 x5 x6 x8 H1 hD g hn;have hT:=SqT.of (K:=K) (g _ _ hK.hp);walk_at "go";refine Qz (λ_=>?_) (λ_=>key8 _ _ _ _ _ _ _ hD g);obtain⟨v4,k4,a4⟩:=hK.hq 4 (by decide);refine ZE hT rfl (QT (SqL.of (g _ _ k4)) ?_);walk_at "go";rw[hD];have h4l:=a4.1;have h4f:=hfl 4;refine Qz (λl6=>⟨by unfold Uq;decide,Qz (λhle=>?_) (λ_=>key8 _ _ _ _ _ _ _ hD g)⟩) (λ_=>key8 _ _ _ _ _ _ _ hD g);simp only[Xi];walk_at "go";refine⟨q' 4,rfl,⟨_,SqL.of (g _ _ k4)⟩,Wo (xs:=v4) (OfI (xs.filter λx=>decide (x.sl=4)) n H1) ⟨none,rfl,Same.refl _,λ_ y hy=>by simp at hy⟩ (λi acc σ' H' _ h=>by obtain⟨_,_,g',_⟩:=h;exact(g.trans g').seq (SqL.of k4)) (by omega) ?_ ?_⟩
  ·rintro i v acc _ H2 hv hacc ⟨x0,rfl,g',hz⟩;obtain⟨y,hy,hP'⟩:=a4.getV hv;obtain⟨_,hsl⟩:=Xe hy;obtain⟨l2,r2,s2,rfl⟩:=Ux hsl;obtain⟨p5,p6,rfl,hT5,_⟩:=Gw hP';have hT6:=(g.trans g').sqT hT5;walk_at "go";refine Qz (λ_=>?_) (λhlt=>?_)
   ·exact CN.mk (ZW hv) (by rw[FF,FK];omega) ⟨_,rfl,g',λe=>absurd e (by simp)⟩
   ·refine CN.mk (ZW hv) (by omega) ⟨_,rfl,g',λe y hy' l r s e2=>?_⟩;rw[Et,hy] at hy';rcases Ec.mp hy' with h|h
    ·exact hz e y h l r s e2
    ·have:y=.off l2 r2 s2:=by simpa using h
     rw[this] at e2;cases e2;omega
  ·rintro acc _ H2 ⟨x0,rfl,g',hz⟩ p1 hp1;have ga:=(g.trans g').trans (Qg hp1 (.lst acc));have ka:=Qe (H:=H2) (a:=p1) (o:=.lst acc);generalize upd H2 p1 (.lst acc)=H3 at *;refine⟨by decide,λp2 hp2=>?_⟩;have gb:=ga.trans (Qg hp2 (.lst []));refine Xg (SqL.of (Qg hp2 _ _ _ ka)) (SqL.of Qe) ?_;walk_at "go";refine Qz (λe=>?_) (λ_=>key8 _ _ _ _ _ _ _ hD gb);have e4:acc=[]:=by simpa using e
   rw[Eg (by omega)] at hz;have hz:=hz e4;generalize upd H3 p2 (.lst [])=H4 at *;refine ZE (SqT.of (gb _ _ hK.hp)) rfl ⟨.inl ⟨rfl,_,SqL.of (gb _ _ k4)⟩,c,0,rfl,rfl,by omega,λp7 r s' H5 g5 hrt hp7=>⟨by decide,λp8 hp8=>?_⟩⟩;have g6:=Qg hp8 (.tup [.int n,.ref p7]);have k8:=Qe (H:=H5) (a:=p8) (o:=.tup [.int n,.ref p7]);generalize upd H5 p8 (.tup [.int n,.ref p7])=H6 at *;have gc:=(gb.trans g5).trans g6;have kq:=gc _ _ k4;refine⟨q' 4,_,_,rfl,rfl,kq,by rw[FN];omega,by decide,λp9 hp9=>?_⟩;have g9:=Qg hp9 (.tup [.str (Str.ofString "off")]);have kp:=(Q4 (N:=λb=>b≠q' 4) (o:=.lst (v4++[.ref p8])) kq λb h=>h).trans (.of g9);refine ZE (kp.sqT (SqT.of (gc _ _ hK.hp))) rfl (QX (SqL.of (g9 _ _ Qe)) (Zf _ _) ?_);refine fin2 (.off n r s') (.ref p8) v4 H6 _ p9 gc ⟨⟨hn,hle⟩,hrt⟩ ⟨by rw[h4l];omega,λy hy l2 r2 s2 e2=>hz y (Eu.mpr ⟨hy,by rw[e2];rfl⟩) l2 r2 s2 e2⟩ (λz r s e=>nomatch e) (.inr (.inr rfl)) (.off n r s' p8 p7 (SqT.of k8) (SqT.of (g6 _ _ hp7))) kq g9 Qe
 have key6:∀(D:Q6) (x4 x5 x6 x7 x8:Option V) (H1:Hp),D.rt=Q->Same H H1->R6 D [some (.ref p),some (.ref pl),some (.int c),some (.int (c % 8)),x4,x5,x6,x7,x8] H1:=by
  subst hR6;intro D x4 x5 x6 x7 x8 H1 hD g;have hT:=SqT.of (K:=K) (g _ _ hK.hp);walk_at "go";obtain⟨v4,k4,a4⟩:=hK.hq 4 (by decide);refine⟨q' 4,c,_,v4,rfl,rfl,SqL.of (g _ _ k4),YH (N:=λ_=>True) (.of g) a4,λx hx=>?_,λn H2 g2 hn=>?_⟩
  ·obtain⟨h1,h2⟩:=Eu.mp hx;exact⟨EI h2,hok x h1⟩
  ·exact key7 _ n _ _ _ _ _ hD (g.trans g2) hn
 have key5:∀(D:Q6) (z:Str) (x4 x5 x7 x8:Option V) (H1:Hp),D.rt=Q->Same H H1->z∈ns->R5 D [some (.ref p),some (.ref pl),some (.int c),some (.int (c % 8)),x4,x5,some (.str z),x7,x8] H1:=by
  subst hR5;intro D z x4 x5 x7 x8 H1 hD g hz;have hT:=SqT.of (K:=K) (g _ _ hK.hp);walk_at "go";rw[hD];refine Qz (λ_=>?_) (λ_=>key6 _ _ _ _ _ _ _ hD g);obtain⟨v3,k3,a3⟩:=hK.hq 3 (by decide);have h3l:=a3.1;have h3f:=hfl 3;simp only[Xi];walk_at "go";refine⟨q' 3,rfl,⟨_,SqL.of (g _ _ k3)⟩,Wo (xs:=v3) (CmI (xs.filter λx=>decide (x.sl=3)) H1) ⟨none,rfl,Same.refl _,rfl⟩ (λi acc σ' H' _ h=>by obtain⟨_,_,g',_⟩:=h;exact(g.trans g').seq (SqL.of k3)) (by omega) ?_ ?_⟩
  ·rintro i v acc _ H2 hv hacc ⟨x0,rfl,g',rfl⟩;obtain⟨y,hy,hP'⟩:=a3.getV hv;obtain⟨_,hsl⟩:=Xe hy;obtain⟨z2,r2,s2,rfl⟩:=Jo hsl;obtain⟨p5,p6,rfl,hT5,_⟩:=Gx hP';have hT6:=(g.trans g').sqT hT5;simp only[Y6];walk_at "go";exact CN.mk (ZW hv) (by rw[FF,FK];omega) ⟨_,rfl,g',by rw[Et,hy,FR,FR];rfl⟩
  ·rintro acc _ H2 ⟨x0,rfl,g',rfl⟩ p1 hp1;rw[Eg (by omega)] at *;have ga:=(g.trans g').trans (Qg hp1 (.lst (((xs.filter λx=>decide (x.sl=3)).map cnN).map V.str)));refine ZY (SqL.of Qe) ?_;generalize upd H2 p1 (.lst (((xs.filter λx=>decide (x.sl=3)).map cnN).map V.str))=H4 at *;walk_at "go";refine Qz (λhm=>?_) (λ_=>key6 _ _ _ _ _ _ _ hD ga);refine ZE (SqT.of (ga _ _ hK.hp)) rfl ⟨.inl ⟨rfl,_,SqL.of (ga _ _ k3)⟩,c,2,rfl,rfl,by omega,λp7 r s' H5 g5 hrt hp7=>⟨by decide,λp8 hp8=>?_⟩⟩;have g6:=Qg hp8 (.tup [.str z,.ref p7]);have k8:=Qe (H:=H5) (a:=p8) (o:=.tup [.str z,.ref p7]);generalize upd H5 p8 (.tup [.str z,.ref p7])=H6 at *;have gc:=(ga.trans g5).trans g6;have kq:=gc _ _ k3;refine⟨q' 3,_,_,rfl,rfl,kq,by rw[FN];omega,by decide,λp9 hp9=>?_⟩;have g9:=Qg hp9 (.tup [.str (Str.ofString "counts")]);have kp:=(Q4 (N:=λb=>b≠q' 3) (o:=.lst (v3++[.ref p8])) kq λb h=>h).trans (.of g9);refine ZE (kp.sqT (SqT.of (gc _ _ hK.hp))) rfl (QX (SqL.of (g9 _ _ Qe)) (Zf _ _) ?_);refine fin2 (.cnt z r s') (.ref p8) v3 H6 _ p9 gc ⟨hns z hz,hrt⟩ (λy hy z2 r2 s2 e2 e3=>hm (EB.mpr ⟨y,Eu.mpr ⟨hy,by rw[e2];rfl⟩,by rw[e2];exact e3⟩)) (λz2 r2 s2 e=>by cases e;exact hz) (.inr (.inl rfl)) (.cnt z r s' p8 p7 (SqT.of k8) (SqT.of (g6 _ _ hp7))) kq g9 Qe
 have key4:∀(D:Q6) (x4 x5 x6 x7 x8:Option V) (H1:Hp),D.rt=Q->Same H H1->R4 D [some (.ref p),some (.ref pl),some (.int c),some (.int (c % 8)),x4,x5,x6,x7,x8] H1:=by
  subst hR4;intro D x4 x5 x6 x7 x8 H1 hD g;walk_at "go";refine⟨c,0,rfl,rfl,by omega,λm H2 g2 m0 _=>?_⟩;have hP2:=(g.trans g2).seq hP;walk_at "go";rw[FH];have d0:=F9 m (show(ns.length:Int)≠0 by omega);have d1:=Ej m (show(0:Int)<ns.length by omega);obtain⟨k,hk⟩:=Ez d0;rw[hk];have hkl:k<ns.length:=by omega
  refine⟨by omega,QX hP2 (v:=.str ns[k]) (QW (by rw[F0,FI hkl];rfl)) ?_⟩;exact key5 _ _ _ _ _ _ _ hD (g.trans g2) (List.getElem_mem hkl)
 have key3:∀(D:Q6) (x4 x5 x6 x7 x8:Option V) (H1:Hp),D.rt=Q->Same H H1->R3 D [some (.ref p),some (.ref pl),some (.int c),some (.int (c % 8)),x4,x5,x6,x7,x8] H1:=by
  subst hR3;intro D x4 x5 x6 x7 x8 H1 hD g;have hT:=SqT.of (K:=K) (g _ _ hK.hp);walk_at "go";refine Qz (λ_=>?_) (λ_=>key4 _ _ _ _ _ _ _ hD g);obtain⟨v2,k2,a2⟩:=hK.hq 2 (by decide);have h2l:=a2.1;refine ZE hT rfl (QT (SqL.of (g _ _ k2)) ?_);walk_at "go";rw[hD];refine Qz (λl4=>?_) (λ_=>key4 _ _ _ _ _ _ _ hD g);refine⟨c,rfl,λpa l h' H2 g2 hag hpa=>?_⟩;have hTa:=SqT.of (K:=K) hpa;have ga:=g.trans g2;have hT2:=SqT.of (K:=K) (ga _ _ hK.hp);walk_at "go";refine⟨.inl ⟨rfl,_,SqL.of (ga _ _ k2)⟩,c,1,rfl,rfl,by omega,λp7 r s' H5 g5 hrt hp7=>?_⟩;walk_at "go";refine⟨by decide,λp8 hp8=>?_⟩;have g6:=Qg hp8 (.tup [.ref p7,.int l,.int h']);have k8:=Qe (H:=H5) (a:=p8) (o:=.tup [.ref p7,.int l,.int h']);generalize upd H5 p8 (.tup [.ref p7,.int l,.int h'])=H6 at *;have gc:=(ga.trans g5).trans g6;have kq:=gc _ _ k2;refine⟨q' 2,_,_,rfl,rfl,kq,by rw[FN];omega,by decide,λp9 hp9=>?_⟩;have g9:=Qg hp9 (.tup [.str (Str.ofString "pay")]);have kp:=(Q4 (N:=λb=>b≠q' 2) (o:=.lst (v2++[.ref p8])) kq λb h=>h).trans (.of g9);refine ZE (kp.sqT (SqT.of (gc _ _ hK.hp))) rfl (QX (SqL.of (g9 _ _ Qe)) (Zf _ _) ?_);refine fin2 (.pay r s' l h') (.ref p8) v2 H6 _ p9 gc ⟨hrt,hag⟩ (Yy (by simp[Itm.sl]) (by simp[Itm.sl]) (by show((xs.filter λy=>decide (y.sl=2)).length:Int)<4;rw[h2l];exact l4)) (λz2 r2 s2 e=>nomatch e) (.inl rfl) (.pay r s' l h' p8 p7 (SqT.of k8) (SqT.of (g6 _ _ hp7))) kq g9 Qe
 have key2:∀(D:Q6) (x4 x5 x6 x7 x8:Option V) (H1:Hp),D.rt=Q->Same H H1->R2 D [some (.ref p),some (.ref pl),some (.int c),some (.int (c % 8)),x4,x5,x6,x7,x8] H1:=by
  subst hR2;intro D x4 x5 x6 x7 x8 H1 hD g;have hT:=SqT.of (K:=K) (g _ _ hK.hp);walk_at "go";refine Qz (λ_=>?_) (λ_=>key3 _ _ _ _ _ _ _ hD g);obtain⟨v1,k1,a1⟩:=hK.hq 1 (by decide);have h1l:=a1.1;refine ZE hT rfl (QT (SqL.of (g _ _ k1)) ?_);walk_at "go";rw[hD];refine Qz (λl6=>?_) (λ_=>key3 _ _ _ _ _ _ _ hD g);refine ZE hT rfl ⟨.inl ⟨rfl,_,SqL.of (g _ _ k1)⟩,c,rfl,λx v H2 g2 ok hsl lit=>?_⟩;have gc:=g.trans g2;have kq:H2 (q' x.sl)=some (.lst v1):=by rw[hsl];exact gc _ _ k1
  refine ⟨q' 1,_,_,rfl,rfl,gc _ _ k1,by rw [FN];omega,?_⟩;rw [<-hsl];have kp:=Q4 (N:=fun b=>b≠q' x.sl) (o:=.lst (v1++[v])) kq fun b h=>h
  refine ZE (kp.sqT (SqT.of (gc _ _ hK.hp))) (v:=.ref (q' x.sl)) (by rw[hsl];rfl) (QX (SqL.of Qe) (Zf _ _) ?_);exact fin1 x v v1 H2 gc ok (Yy (by rw[hsl];decide) (by rw[hsl];decide) (by rw[hsl,h1l];exact l6)) (.inr hsl) lit kq
 have hT:=SqT.of (K:=K) hK.hp;walk_at "go";refine⟨trivial,Qz (λ_=>?_) (λ_=>key2 _ _ _ _ _ _ _ rfl (Same.refl _))⟩;obtain⟨v1,k1,a1⟩:=hK.hq 0 (by decide);have h1l:=a1.1;refine ZE hT rfl (QT (SqL.of k1) ?_);walk_at "go";refine Qz (λl6=>?_) (λ_=>key2 _ _ _ _ _ _ _ rfl (Same.refl _));refine ZE hT rfl ⟨.inl ⟨rfl,_,SqL.of k1⟩,c,rfl,λx v H2 g2 ok hsl lit=>?_⟩;have kq:H2 (q' x.sl)=some (.lst v1):=by rw[hsl];exact g2 _ _ k1
 refine ⟨q' 0,_,_,rfl,rfl,g2 _ _ k1,by have:=hfl 0;rw [FN];omega,?_⟩;rw [<-hsl];have kp:=Q4 (N:=fun b=>b≠q' x.sl) (o:=.lst (v1++[v])) kq fun b h=>h
 refine ZE (kp.sqT (SqT.of (g2 _ _ hK.hp))) (v:=.ref (q' x.sl)) (by rw[hsl];rfl) (QX (SqL.of Qe) (Zf _ _) ?_);exact fin1 x v v1 H2 g2 ok (Yy (by rw[hsl];decide) (by rw[hsl];decide) (by rw[hsl,h1l];exact l6)) (.inl hsl) lit kq
def CL (K:W.Frag)(N:Addr->Prop)(H:Hp)(c:Cp)(v:V):Prop:=∃p l,v=.ref p/\H p=some (.tup [.int c.1,.int c.2.1,.ref l])/\H l=some (.lst (c.2.2.map V.str))/\N l
theorem CL.kp {c:Cp}(g:Kp N H H')(h:CL K N H c v):CL K N H' c v:=by
 obtain⟨p,l,e,h1,h2,n⟩:=h;exact⟨p,l,e,g _ _ h1 (.inr λvs e=>nomatch e),g _ _ h2 (.inl n),n⟩
theorem JM (g:Kp N H H')(h:All2 (CL K N H) cs vs):All2 (CL K N H') cs vs:=⟨h.1,λi a b ha hb=>(h.2 i a b ha hb).kp g⟩
def XW (cs:List Cp):List Str:=(cs.map (·.2.2)).flatten
inductive φcap (K:W.Frag)(x y z:V)(H:Hp)(Q:VK):Prop
 | mk (cl pl:Addr) (c:Int) (cvs:List V) (cs:List Cp) (ns:List Str) (N:Addr->Prop) (h1:x=.ref cl) (h2:y=.ref pl) (h3:z=.int c) (h4:H cl=some (.lst cvs)) (h5:All2 (CL K N H) cs cvs) (h6:SqL K H pl (ns.map V.str)) (h7:∀z∈ns,YB z) (h8:ns.Nodup) (h8':ns.length<=8) (h9:cs.length<=4) (h10:∀c∈cs,c.2.2.length<=8) (h11:(XW cs).Nodup)
   (q0:∀H',Same H H'->Q (.str (q_ "")) H')
   (q1:∀a b nms p l H1 H',Same H H1->(Row.cap a b nms).Ok->(∀z∈nms,z∈ns)->(nms++XW cs).Nodup->cs.length<4->H l=none->H1 l=some (.lst (nms.map V.str))->H1 p=some (.tup [.int a,.int b,.ref l])->Same (upd H1 cl (.lst (cvs++[.ref p]))) H'->Q (.str (Row.cap a b nms).tx) H'):φcap K x y z H Q
def GoI (cl pl:Addr)(c:Int)(cs:List Cp)(H:Hp)(i:Nat)(σ':L2.St)(H':Hp):Prop:=∃gl x4,σ'=[some (.ref cl),some (.ref pl),some (.int c),some (.ref gl),x4,none,none,none]/\Same H H'/\H' gl=some (.lst ((XW (cs.take i)).map V.str))
def FrI (ns gs:List Str)(gl:Addr)(H:Hp)(i:Nat)(acc:List V)(σ':L2.St)(H':Hp):Prop:=∃x0,σ'=[x0,some (.ref gl)]/\Same H H'/\acc=((ns.take i).filter λz=>decide (z∉gs)).map V.str
theorem Nw {c:Cp}(h:cs[i]?=some c):XW (cs.take (i+1))=XW (cs.take i)++c.2.2:=by
 unfold XW;rw[Et,h,FR,Dd];simp
theorem Bw (i:Nat)(h:∀c∈cs,c.2.2.length<=8)(h4:cs.length<=4):(XW (cs.take i)).length<=32:=by
 have:=V8 (cs:=cs.take i) λc hc=>h c (List.mem_of_mem_take hc)
 rw[Ep] at this;unfold XW;omega
theorem Je {gs:List Str}(h:ns[i]?=some z):(ns.take (i+1)).filter (λz=>decide (z∉gs))=(ns.take i).filter (λz=>decide (z∉gs))++if z∈gs then[] else[z]:=by
 rw[Et,h,Dg]
 congr 1
 by_cases e:z∈gs<;>simp[e]
theorem Mt (T:Tx w K mg t)(F:Fun K "_law_cap" "_law_cap" Wc f fd)(aZ:Cal P w K mg base 2 "_law_amount" ["_law_cell_here","_law_k"] (Sp2M φamt))(aA:Cal P w K mg base 1 "_law_mixed" ["_law_cell_here","_law_k"] (Sp2M φmix)):FnOk P w K mg base CX0 3 f fd ["_law_caps","_law_pool_here","_law_cell_here"] (Sp3 (φcap K)):=by
 refine F.ok sc_l_cap KM (λcdv A outer s H vs Q E hr h=>?_);obtain⟨_,_,_,rfl,cl,pl,c,cvs,cs,ns,N,rfl,rfl,rfl,hc,hC,hP,hns,nd,hnl,h4,h8,fnd,q0,q1⟩:=h;refine⟨_,((Qc (Qw (i:=3) sc_l_cap.nd rfl (Or.inr rfl) (QF Qb))
   (Qc (ZG Er rfl (piK K rfl (pu 0)) (QA (i:=4) sc_l_cap.nd rfl (Or.inl rfl))
   (Qf (Qw (i:=3) sc_l_cap.nd rfl (Or.inr rfl) (Qr QI (pu 3) (Qp (ixK K rfl) (pu 4) Qd (λ_ _=>rfl))))))
   (Qc (Gq (i:=5) sc_l_cap.nd rfl (Or.inl rfl) (N:=["_law_one","_law_gone"]) (caps:=[none,some 3]) rfl W8 (piK K rfl (pu 1)) (λ_ _ _ _=>QA (i:=0) (show(["_law_one","_law_gone"]:List Str).Nodup by decide +kernel) rfl (Or.inl rfl) (.inr rfl)) (λ_ _ _ _=>KY (Qj (XD K rfl) (pu 0) (pu 1) (by with_unfolding_all rfl))) (λ_ _ _ _=>(pu 0)))
   (Qc (Qy (PW.pt (Xo (Qj (Vn K rfl hr.units) (pu 5) (QF Qb) (Qk _)) (Xd (Qj (eqM K rfl hr.units) (Qs (Zr K rfl) (by rfl) T.aB FO (Qa (pu 0) Qb)) Qd (Qk _))))) (Qf (Ql Qn)) Qo)
   (Qc (Qw (i:=6) sc_l_cap.nd rfl (Or.inl rfl) (Qr QD (Qt aA (hrm hr) rfl (Qa (pu 2) (Qa Qd Qb))) (Qs (Zr K rfl) (by rfl) T.aB FO (Qa (pu 5) Qb))))
   (Qc (Qw (i:=5) sc_l_cap.nd rfl (Or.inl rfl) (Qr QI (Zp (slK K rfl) (pu 5) (Zv (pu 6)) ZN) (Zp (slK K rfl) (pu 5) ZN (Zv (pu 6)))))
   (Qc (Qw (i:=7) sc_l_cap.nd rfl (Or.inl rfl) (Zp (slK K rfl) (pu 5) ZN (Zv (Qr QI Qd (Qr QD (Qt aA (hrm hr) rfl (Qa (pu 2) (Qa Qd Qb))) (Qs (Zr K rfl) (by rfl) T.aB FO (Qa (pu 5) Qb)))))))
   (Qc (QP (QQ K rfl F8 Eh Ei QK (pu 0) (Qa (QU (Qa (Qt aZ (hrm hr) rfl (Qa (pu 2) (Qa Qd Qb))) (Qa (Qt aZ (hrm hr) rfl (Qa (pu 2) (Qa Qd Qb))) (Qa (pu 7) Qb)))) Qb)))
   (Qf (Ql (QQ K rfl PySem.F.plainAttrs_str PySem.F.slot_str_join PySem.F.type_str_join (Gv K rfl) Qn (Qa (Qr QI (QF (Qa Qn (Qa (QE ZJ (by rfl) T.bA boot_str (Qa (Qp (ixK K rfl) (Qp (ixK K rfl) (pu 0) (Xa Zb Qd) (λ_ _=>rfl)) Qd (λ_ _=>rfl)) Qb)) (Qa (QE ZJ (by rfl) T.bA boot_str (Qa (Qp (ixK K rfl) (Qp (ixK K rfl) (pu 0) (Xa Zb Qd) (λ_ _=>rfl)) Qd (λ_ _=>rfl)) Qb)) Qb)))) (pu 7)) Qb))))))))))))),?_⟩
 walk_at "go";refine⟨by decide,λg0 hg0=>?_⟩;have g1:=Qg hg0 (.lst []);have k0:=Qe (H:=H) (a:=g0) (o:=.lst []);generalize upd H g0 (.lst [])=H1 at *;have hcl:=hC.1;refine⟨cl,rfl,⟨_,SqL.of (g1 _ _ hc)⟩,Yx (xs:=cvs) (GoI cl pl c cs H) ⟨g0,none,rfl,g1,k0⟩ (λi σ' H' _ h=>by obtain⟨_,_,_,g',_⟩:=h;exact SqL.of (g' _ _ hc)) ?_ ?_⟩
 ·rintro i v _ H2 hv ⟨gl,x4,rfl,g,kg⟩;obtain⟨cp,hcp,p,l,rfl,hp,hl,_⟩:=hC.getV hv;have hT:=SqT.of (K:=K) (g _ _ hp);walk_at "go";have f1:=Bw i h8 h4;have f2:=h8 cp (EE hcp);refine⟨gl,l,_,_,rfl,rfl,kg,g _ _ hl,by rw[FH,FH,FN];omega,λp2 hp2=>⟨p2,_,rfl,g.trans (Qg hp2 _),by rw[Qe,Nw hcp,FR]⟩⟩
 ·rintro _ H2 ⟨gl,x4,rfl,g,kg⟩;rw[Eg (by omega)] at kg;walk_at "go";simp only[Xi];walk_at "go";refine⟨pl,rfl,⟨_,g.seq hP⟩,Wo (xs:=ns.map V.str) (FrI ns (XW cs) gl H2) ⟨none,rfl,Same.refl _,rfl⟩ (λi acc σ' H' _ h=>by obtain⟨_,_,g',_⟩:=h;exact(g.trans g').seq hP) (by rw[FH];omega) ?_ ?_⟩
  ·rintro i v acc _ H3 hv hacc ⟨x0,rfl,g',rfl⟩;have hlt:=ZW hv;rw[F0] at hv;obtain⟨z,hz,rfl⟩:=F6.mp hv;walk_at "go";refine ZY (SqL.of (g' _ _ kg)) ?_;walk_at "go";refine Qz (λe=>?_) (λe=>?_)
   ·exact CN.mk hlt (by rw[FF,FK];omega) ⟨_,rfl,g',by rw[Je hz,FC e,FR];rfl⟩
   ·exact CN.mk hlt (by omega) ⟨_,rfl,g',by rw[Je hz,FD (Classical.not_not.mp e),EH]⟩
  ·rintro acc _ H3 ⟨x0,rfl,g',rfl⟩ pf hpf;rw[Eg (by rw[FH];exact FE _)] at *;have frn:(ns.filter λz=>decide (z∉XW cs)).Nodup:=nd.filter _;have frm:∀z∈ns.filter λz=>decide (z∉XW cs),z∈ns/\z∉XW cs:=λz hz=>by
    obtain⟨h1,h2⟩:=Eu.mp hz;exact⟨h1,EI h2⟩
   have frl:(ns.filter λz=>decide (z∉XW cs)).length<=8:=F2 (EX _ _) hnl;generalize (ns.filter λz=>decide (z∉XW cs))=fr at *;have ga:=(g.trans g').trans (Qg hpf (.lst (fr.map V.str)));have kf:=Qe (H:=H3) (a:=pf) (o:=.lst (fr.map V.str));generalize upd H3 pf (.lst (fr.map V.str))=H4 at *;walk_at "go";refine⟨by decide,λp1 hp1=>?_⟩;have gb:=ga.trans (Qg hp1 (.lst []));have kf1:=Qg hp1 (.lst []) _ _ kf;refine Xg (SqL.of kf1) (SqL.of Qe) ?_;generalize upd H4 p1 (.lst [])=H5 at *;walk_at "go";refine Qz (λ_=>q0 _ gb) (λne=>?_);have fpos:0<fr.length:=by
    rcases Nat.eq_zero_or_pos fr.length with e|e
    ·rw[List.eq_nil_of_length_eq_zero e] at ne;exact absurd rfl ne
    ·exact e
   refine QT (SqL.of (gb _ _ hc)) ?_;walk_at "go";refine Qz (λ_=>q0 _ gb) (λn4=>?_);refine⟨c,0,rfl,rfl,by omega,λm H6 g6 m0 _=>?_⟩;have gc:=gb.trans g6;have kf6:=SqL.of (K:=K) (g6 _ _ kf1);walk_at "go";rw[FH];have d0:=F9 m (show(fr.length:Int)≠0 by omega);have d1:=Ej m (show(0:Int)<fr.length by omega);obtain⟨k,hk⟩:=Ez d0;rw[hk];refine⟨by omega,?_⟩;walk_at "go";refine Y7 kf6 λpa hpa=>?_
   rw[WT];have gA:=Qg hpa (.lst ((fr.map V.str).drop k));have ka:=Qe (H:=H6) (a:=pa) (o:=.lst ((fr.map V.str).drop k));generalize upd H6 pa (.lst ((fr.map V.str).drop k))=H7 at *;refine Y7 (gA.seq kf6) λpb hpb=>?_
   rw [U5];have gB:=Qg hpb (.lst ((fr.map V.str).take k));have kb:=Qe (H:=H7) (a:=pb) (o:=.lst ((fr.map V.str).take k));generalize upd H7 pb (.lst ((fr.map V.str).take k))=H8 at *;refine ⟨pa,pb,_,_,rfl,rfl,gB _ _ ka,kb,by rw [EL,Ep,FH,FN];omega,fun pc hpc=>?_⟩;rw [<-List.map_drop,<-List.map_take,<-FR];have rn:(fr.drop k++fr.take k).Nodup:=by
    have h:=frn;rw [<-Dj k fr] at h;obtain ⟨h1,h2,h3⟩:=EN.mp h;exact EN.mpr ⟨h2,h1,fun a ha b hb e=>h3 b hb a ha e.symm⟩
   have rm:∀z∈fr.drop k++fr.take k,z∈fr:=λz hz=>by
    rcases Ec.mp hz with h|h
    ·exact List.mem_of_mem_drop h
    ·exact List.mem_of_mem_take h
   have rl:(fr.drop k++fr.take k).length=fr.length:=by rw[FF,EL,Ep];omega
   generalize fr.drop k++fr.take k=rot at *;have gC:=Qg hpc (.lst (rot.map V.str));have kc:=Qe (H:=H8) (a:=pc) (o:=.lst (rot.map V.str));generalize upd H8 pc (.lst (rot.map V.str))=H9 at *;have gd:=((gc.trans gA).trans gB).trans gC;walk_at "go";refine⟨c,2,rfl,rfl,by omega,λm2 H10 g10 _ _=>?_⟩;have kc10:=SqL.of (K:=K) (g10 _ _ kc);walk_at "go";rw[FH];have e0:=F9 m2 (show(rot.length:Int)≠0 by omega);have e1:=Ej m2 (show(0:Int)<rot.length by omega);obtain⟨k2,hk2⟩:=Ez e0;rw[hk2];refine⟨by omega,?_⟩;walk_at "go";refine Y7 kc10 λpn hpn=>?_
   rw[show(1+(k2:Int))=((k2+1:Nat):Int) by omega,U5,<-List.map_take];have nn:(rot.take (k2+1)).Nodup:=rn.sublist (List.take_sublist _ _);have nm:∀z∈rot.take (k2+1),z∈ns/\z∉XW cs:=λz hz=>frm z (rm z (List.mem_of_mem_take hz))
   have nl:1<=(rot.take (k2+1)).length/\(rot.take (k2+1)).length<=8:=by rw[Ep];omega
   generalize rot.take (k2+1)=nms at *;have gN:=Qg hpn (.lst (nms.map V.str));have kn:=Qe (H:=H10) (a:=pn) (o:=.lst (nms.map V.str));generalize upd H10 pn (.lst (nms.map V.str))=H11 at *;have ge:=(gd.trans g10).trans gN;have pn0:=(gd.trans g10).free hpn;walk_at "go";refine⟨.inl ⟨rfl,_,SqL.of (ge _ _ hc)⟩,c,3,rfl,rfl,by omega,λa H12 g12 ha=>?_⟩;walk_at "go";refine⟨c,1,rfl,rfl,by omega,λb H13 g13 hb=>?_⟩;walk_at "go";refine⟨by decide,λpt hpt=>?_⟩;have gT:=Qg hpt (.tup [.int a,.int b,.ref pn]);have kt:=Qe (H:=H13) (a:=pt) (o:=.tup [.int a,.int b,.ref pn]);generalize upd H13 pt (.tup [.int a,.int b,.ref pn])=H14 at *;have gt:=g12.trans (g13.trans gT);have gf:=ge.trans gt;have kn14:=gt _ _ kn;have hc14:=gf _ _ hc;have kp:=Q4 (N:=λb=>b≠cl) (o:=.lst (cvs++[.ref pt])) hc14 λb h=>h
   have nc:pn≠cl:=λe=>by rw[e,hc] at pn0;cases pn0
   have kt15:=SqT.of (K:=K) (kp _ _ kt (.inr λvs e=>nomatch e));have la:(nt a).length<=100:=len_num ha.1 (by have:=ha.2;omega);have lb:(nt b).length<=100:=len_num hb.1 (by have:=hb.2;omega);refine⟨cl,_,_,rfl,rfl,hc14,by rw[FN];omega,by trivial,?_⟩;refine QX (SqL.of Qe) (Zf _ _) (ZE kt15 rfl (.inl ⟨a,rfl,Yv ha.1 (by have:=ha.2;omega),QX (SqL.of Qe) (Zf _ _) (ZE kt15 rfl (.inl ⟨b,rfl,Yv hb.1 (by have:=hb.2;omega),by decide,λpj hpj=>?_⟩))⟩));have gJ:=Qg hpj (.lst [.str (Str.ofString "cap"),.str (Str.ofString (toString a)),.str (Str.ofString (toString b))]);refine⟨pj,pn,_,_,rfl,rfl,Qe,gJ _ _ (kp _ _ kn14 (.inl nc)),by rw[FH,FN];show 3+nms.length<=_;omega,λpk hpk=>?_⟩;rw[XX];refine⟨blank,pk,q_ "cap" :: nt a::nt b::nms,rfl,rfl,SqL.of Qe,?_,?_⟩
   ·have hs:(nms.map (·.length)).sum<=nms.length*1000:=by
     have:∀l:List Str,(∀z∈l,z.length<=1000)->(l.map (·.length)).sum<=l.length*1000:=by
      intro l
      induction l with
      | nil=>simp
      | cons x l ih=>
       intro h;have h1:=h x Eb;have h2:=ih λy hy=>h y (F5 _ hy)
       simp only[El,List.sum_cons,Ea];omega
     exact this _ λz hz=>(ZH (hns z (nm z hz).1)).2.1
    have h3:(q_ "cap").length=3:=by decide +kernel
    have h2:blank.length=1:=rfl;simp only[El,List.sum_cons,Ea,h2,h3];omega
   ·refine q1 a b nms pt pn H14 _ gf ⟨ha,hb,λz hz=>hns z (nm z hz).1,nl.1,nl.2⟩ (λz hz=>(nm z hz).1) (EN.mpr ⟨nn,fnd,λa ha b hb e=>(nm a ha).2 (by rw[e];exact hb)⟩) (by omega) pn0 kn14 kt (gJ.trans (Qg hpk _))
def TiR (K:W.Frag)(H:Hp)(z:Str)(v:V):Prop:=∃p r,v=.ref p/\SqT K H p (.str z::r)
inductive φknd (K:W.Frag)(x y z:V)(H:Hp)(Q:VK):Prop
 | mk (a pl:Addr) (c:Int) (vs:List V) (ts ns:List Str) (h1:x=.ref a) (h2:y=.ref pl) (h3:z=.int c) (h4:H a=some (.lst vs)) (h5:All2 (TiR K H) ts vs) (h6:SqL K H pl (ns.map V.str)) (h7:∀z∈ns,YB z) (h8':ns.length<=8) (h9:ts.length<=100)
   (q0:(∀z∈ns,z∈ts)->∀H',Same H H'->Q (.str (q_ "")) H')
   (q1:∀z p (q:Nat->Addr) H1 H',Same H H1->z∈ns->z∉ts->H1 p=some (.tup [.str z,.ref (q 0),.ref (q 1),.ref (q 2),.ref (q 3),.ref (q 4),.ref (q 5),.ref (q 6)])->(∀j<7,H (q j)=none/\H1 (q j)=some (.lst []))->(∀i<7,∀j<7,q i=q j->i=j)->Same (upd H1 a (.lst (vs++[.ref p]))) H'->Q (.str (Row.kind z).tx) H'):φknd K x y z H Q
def ThI (ts:List Str)(H:Hp)(i:Nat)(acc:List V)(σ':L2.St)(H':Hp):Prop:=∃x0,σ'=[x0]/\Same H H'/\acc=(ts.take i).map V.str
theorem Nf (T:Tx w K mg t)(F:Fun K "_law_kind" "_law_kind" Yn f fd)(aA:Cal P w K mg base 1 "_law_mixed" ["_law_cell_here","_law_k"] (Sp2M φmix)):FnOk P w K mg base CX0 2 f fd ["_law_kinds","_law_pool_here","_law_cell_here"] (Sp3 (φknd K)):=by
 refine F.ok sc_l_kind KM (λcdv A outer s H vs Q E hr h=>?_);obtain⟨_,_,_,rfl,a,pl,c,vs,ts,ns,rfl,rfl,rfl,ha,hA,hP,hns,hnl,htl,q0,q1⟩:=h;refine⟨_,((Qc (Qw (i:=3) sc_l_kind.nd rfl (Or.inr rfl) (Xz (N:=["_law_one"]) (caps:=[none]) rfl W8 (piK K rfl (pu 0)) (λ_ _ _ _=>QA (i:=0) (show(["_law_one"]:List Str).Nodup by decide +kernel) rfl (Or.inl rfl) (.inr rfl)) (λ_ _ _ _=>Xh) (λ_ _ _ _=>(Qp (ixK K rfl) (pu 0) Qd (λ_ _=>rfl)))))
   (Qc (Gq (i:=4) sc_l_kind.nd rfl (Or.inl rfl) (N:=["_law_one","_law_there"]) (caps:=[none,some 3]) rfl W8 (piK K rfl (pu 1)) (λ_ _ _ _=>QA (i:=0) (show(["_law_one","_law_there"]:List Str).Nodup by decide +kernel) rfl (Or.inl rfl) (.inr rfl)) (λ_ _ _ _=>KY (Qj (XD K rfl) (pu 0) (pu 1) (by with_unfolding_all rfl))) (λ_ _ _ _=>(pu 0)))
   (Qc (Qy (Qj (Vn K rfl hr.units) (pu 4) (QF Qb) (Qk _)) (Qf (Ql Qn)) Qo)
   (Qc (Qw (i:=5) sc_l_kind.nd rfl (Or.inl rfl) (Qp (ixK K rfl) (pu 4) (Qr QD (Qt aA (hrm hr) rfl (Qa (pu 2) (Qa Qd Qb))) (Qs (Zr K rfl) (by rfl) T.aB FO (Qa (pu 4) Qb))) (λ_ _=>rfl)))
   (Qc (QP (QQ K rfl F8 Eh Ei QK (pu 0) (Qa (QU (Qa (pu 5) (Qa (QF Qb) (Qa (QF Qb) (Qa (QF Qb) (Qa (QF Qb) (Qa (QF Qb) (Qa (QF Qb) (Qa (QF Qb) Qb))))))))) Qb)))
   (Qf (Ql (Qr QI Qn (pu 5)))))))))),?_⟩
 have hal:=hA.1;walk_at "go";simp only[Xi];walk_at "go";refine⟨a,rfl,⟨_,SqL.of ha⟩,Wo (xs:=vs) (ThI ts H) ⟨none,rfl,Same.refl _,rfl⟩ (λi acc σ' H' _ h=>by obtain⟨_,_,g',_⟩:=h;exact SqL.of (g' _ _ ha)) (by omega) ?_ ?_⟩
 ·rintro i v acc _ H3 hv hacc ⟨x0,rfl,g',rfl⟩;obtain⟨z,hz,p,r,rfl,hT⟩:=hA.getV hv;have hT2:=g'.sqT hT;simp only[Y6];walk_at "go";refine ZE hT2 (QW (j:=0) rfl) ?_;exact CN.mk (ZW hv) (by rw[FF,FK];omega) ⟨_,rfl,g',by rw[Et,hz,FR];rfl⟩
 ·rintro acc _ H2 ⟨x0,rfl,g,rfl⟩ pt hpt;rw[Eg (by omega)] at *;have ga:=g.trans (Qg hpt (.lst (ts.map V.str)));have kt:=Qe (H:=H2) (a:=pt) (o:=.lst (ts.map V.str));generalize upd H2 pt (.lst (ts.map V.str))=H3 at *;walk_at "go";refine⟨pl,rfl,⟨_,ga.seq hP⟩,Wo (xs:=ns.map V.str) (FrI ns ts pt H3) ⟨none,rfl,Same.refl _,rfl⟩ (λi acc σ' H' _ h=>by obtain⟨_,_,g',_⟩:=h;exact(ga.trans g').seq hP) (by rw[FH];omega) ?_ ?_⟩
  ·rintro i v acc _ H3 hv hacc ⟨x0,rfl,g',rfl⟩;have hlt:=ZW hv;rw[F0] at hv;obtain⟨z,hz,rfl⟩:=F6.mp hv;walk_at "go";refine ZY (SqL.of (g' _ _ kt)) ?_;walk_at "go";refine Qz (λe=>?_) (λe=>?_)
   ·exact CN.mk hlt (by rw[FF,FK];omega) ⟨_,rfl,g',by rw[Je hz,FC e,FR];rfl⟩
   ·exact CN.mk hlt (by omega) ⟨_,rfl,g',by rw[Je hz,FD (Classical.not_not.mp e),EH]⟩
  ·rintro acc _ H4 ⟨x0,rfl,g',rfl⟩ pf hpf;rw[Eg (by rw[FH];exact FE _)] at *;have frm:∀z∈ns.filter λz=>decide (z∉ts),z∈ns/\z∉ts:=λz hz=>by
    obtain⟨h1,h2⟩:=Eu.mp hz;exact⟨h1,EI h2⟩
   have fre:(ns.filter λz=>decide (z∉ts))=[]->∀z∈ns,z∈ts:=λe z hz=>by
    by_cases h:z∈ts
    ·exact h
    ·have:z∈ns.filter λz=>decide (z∉ts):=Eu.mpr ⟨hz,Ef h⟩
     rw[e] at this;cases this
   generalize (ns.filter λz=>decide (z∉ts))=fr at *;have gb:=(ga.trans g').trans (Qg hpf (.lst (fr.map V.str)));have kf:=Qe (H:=H4) (a:=pf) (o:=.lst (fr.map V.str));generalize upd H4 pf (.lst (fr.map V.str))=H5 at *;walk_at "go";refine⟨by decide,λp1 hp1=>?_⟩;have gc:=gb.trans (Qg hp1 (.lst []));have kf1:=Qg hp1 (.lst []) _ _ kf;refine Xg (SqL.of kf1) (SqL.of Qe) ?_;generalize upd H5 p1 (.lst [])=H6 at *;walk_at "go";refine Qz (λe=>q0 (fre (by simpa using e)) _ gc) (λne=>?_);have fpos:0<fr.length:=by
    rcases Nat.eq_zero_or_pos fr.length with e|e
    ·rw[List.eq_nil_of_length_eq_zero e] at ne;exact absurd rfl ne
    ·exact e
   refine⟨c,0,rfl,rfl,by omega,λm H7 g7 m0 _=>?_⟩;have gd:=gc.trans g7;have kf7:=SqL.of (K:=K) (g7 _ _ kf1);walk_at "go";rw[FH];have d0:=F9 m (show(fr.length:Int)≠0 by omega);have d1:=Ej m (show(0:Int)<fr.length by omega);obtain⟨k,hk⟩:=Ez d0;rw[hk];have hkl:k<fr.length:=by omega
   refine⟨by omega,QX kf7 (v:=.str fr[k]) (QW (by rw[F0,FI hkl];rfl)) ?_⟩;obtain⟨z1,z2⟩:=frm _ (List.getElem_mem hkl);generalize fr[k]=z at *;walk_at "go";refine⟨.inl ⟨rfl,_,SqL.of (gd _ _ ha)⟩,by decide,λp0 h0=>?_⟩;have s0:=Qg h0 (.lst []);have k0:=Qe (H:=H7) (a:=p0) (o:=.lst []);generalize upd H7 p0 (.lst [])=J0 at *;refine⟨by decide,λp1 h1=>?_⟩;have s1:=Qg h1 (.lst []);have k1:=Qe (H:=J0) (a:=p1) (o:=.lst []);generalize upd J0 p1 (.lst [])=J1 at *;refine⟨by decide,λp2 h2=>?_⟩;have s2:=Qg h2 (.lst []);have k2:=Qe (H:=J1) (a:=p2) (o:=.lst []);generalize upd J1 p2 (.lst [])=J2 at *;refine⟨by decide,λp3 h3=>?_⟩;have s3:=Qg h3 (.lst []);have k3:=Qe (H:=J2) (a:=p3) (o:=.lst []);generalize upd J2 p3 (.lst [])=J3 at *;refine⟨by decide,λp4 h4=>?_⟩;have s4:=Qg h4 (.lst []);have k4:=Qe (H:=J3) (a:=p4) (o:=.lst []);generalize upd J3 p4 (.lst [])=J4 at *;refine⟨by decide,λp5 h5=>?_⟩;have s5:=Qg h5 (.lst []);have k5:=Qe (H:=J4) (a:=p5) (o:=.lst []);generalize upd J4 p5 (.lst [])=J5 at *;refine⟨by decide,λp6 h6=>?_⟩;have s6:=Qg h6 (.lst []);have k6:=Qe (H:=J5) (a:=p6) (o:=.lst []);generalize upd J5 p6 (.lst [])=J6 at *;refine⟨by decide,λp7 h7=>?_⟩;have s7:=Qg h7 (.tup [.str z,.ref p0,.ref p1,.ref p2,.ref p3,.ref p4,.ref p5,.ref p6]);have k7:=Qe (H:=J6) (a:=p7) (o:=.tup [.str z,.ref p0,.ref p1,.ref p2,.ref p3,.ref p4,.ref p5,.ref p6]);generalize upd J6 p7 (.tup [.str z,.ref p0,.ref p1,.ref p2,.ref p3,.ref p4,.ref p5,.ref p6])=J7 at *;have c0:J7 p0=some (.lst []):=(((((((s1).trans s2).trans s3).trans s4).trans s5).trans s6).trans s7) _ _ k0;have c1:J7 p1=some (.lst []):=((((((s2).trans s3).trans s4).trans s5).trans s6).trans s7) _ _ k1;have c2:J7 p2=some (.lst []):=(((((s3).trans s4).trans s5).trans s6).trans s7) _ _ k2;have c3:J7 p3=some (.lst []):=((((s4).trans s5).trans s6).trans s7) _ _ k3;have c4:J7 p4=some (.lst []):=(((s5).trans s6).trans s7) _ _ k4;have c5:J7 p5=some (.lst []):=((s6).trans s7) _ _ k5;have c6:J7 p6=some (.lst []):=(s7) _ _ k6;have gz:Same H7 J7:=((((((s0.trans s1).trans s2).trans s3).trans s4).trans s5).trans s6).trans s7;have f0:H p0=none:=gd.free h0;have f1:H p1=none:=(gd.trans s0).free h1;have f2:H p2=none:=((gd.trans s0).trans s1).free h2;have f3:H p3=none:=(((gd.trans s0).trans s1).trans s2).free h3;have f4:H p4=none:=((((gd.trans s0).trans s1).trans s2).trans s3).free h4;have f5:H p5=none:=(((((gd.trans s0).trans s1).trans s2).trans s3).trans s4).free h5;have f6:H p6=none:=((((((gd.trans s0).trans s1).trans s2).trans s3).trans s4).trans s5).free h6;have n01:p0≠p1:=Qm k0 h1;have n02:p0≠p2:=Qm ((s1) _ _ k0) h2;have n03:p0≠p3:=Qm (((s1).trans s2) _ _ k0) h3;have n04:p0≠p4:=Qm ((((s1).trans s2).trans s3) _ _ k0) h4;have n05:p0≠p5:=Qm (((((s1).trans s2).trans s3).trans s4) _ _ k0) h5;have n06:p0≠p6:=Qm ((((((s1).trans s2).trans s3).trans s4).trans s5) _ _ k0) h6;have n12:p1≠p2:=Qm k1 h2;have n13:p1≠p3:=Qm ((s2) _ _ k1) h3;have n14:p1≠p4:=Qm (((s2).trans s3) _ _ k1) h4;have n15:p1≠p5:=Qm ((((s2).trans s3).trans s4) _ _ k1) h5;have n16:p1≠p6:=Qm (((((s2).trans s3).trans s4).trans s5) _ _ k1) h6;have n23:p2≠p3:=Qm k2 h3;have n24:p2≠p4:=Qm ((s3) _ _ k2) h4;have n25:p2≠p5:=Qm (((s3).trans s4) _ _ k2) h5;have n26:p2≠p6:=Qm ((((s3).trans s4).trans s5) _ _ k2) h6;have n34:p3≠p4:=Qm k3 h4;have n35:p3≠p5:=Qm ((s4) _ _ k3) h5;have n36:p3≠p6:=Qm (((s4).trans s5) _ _ k3) h6;have n45:p4≠p5:=Qm k4 h5;have n46:p4≠p6:=Qm ((s5) _ _ k4) h6;have n56:p5≠p6:=Qm k5 h6;have ge:=gd.trans gz;have lz:=(ZH (hns z z1)).2.1;have lk:(Str.ofString "kind ").length=5:=by decide +kernel
   refine⟨a,_,_,rfl,rfl,ge _ _ ha,by rw[FN];omega,by rw[FN];omega,?_⟩;have e:(Row.kind z).tx=Str.ofString "kind "++z:=by
    show Txt.join blank [q_ "kind",z]=_;rw[tx2,show Str.ofString "kind "=q_ "kind"++blank by decide +kernel]
   rw [<-e];refine q1 z p7 (fun j=>match j with | 0=>p0 | 1=>p1 | 2=>p2 | 3=>p3 | 4=>p4 | 5=>p5 | _=>p6) J7 _ ge z1 z2 k7 (fun j hj=>?_) (fun i hi j hj e=>?_) (Same.refl _)
   ·rcases(show j=0∨j=1∨j=2∨j=3∨j=4∨j=5∨j=6 by omega) with rfl|rfl|rfl|rfl|rfl|rfl|rfl
    ·exact⟨f0,c0⟩
    ·exact⟨f1,c1⟩
    ·exact⟨f2,c2⟩
    ·exact⟨f3,c3⟩
    ·exact⟨f4,c4⟩
    ·exact⟨f5,c5⟩
    ·exact⟨f6,c6⟩
   ·rcases(show i=0∨i=1∨i=2∨i=3∨i=4∨i=5∨i=6 by omega) with rfl|rfl|rfl|rfl|rfl|rfl|rfl<;>rcases(show j=0∨j=1∨j=2∨j=3∨j=4∨j=5∨j=6 by omega) with rfl|rfl|rfl|rfl|rfl|rfl|rfl<;>first|rfl|exact absurd e (by assumption)|exact absurd e.symm (by assumption)
theorem Wi {α:Type}[DecidableEq α]:∀{l m:List α},l.Nodup->(∀x∈l,x∈m)->l.length<=m.length
 | [],_,_,_=>F7 _
 | x::l,m,h,s=>by
  have hx:=s x Eb;have h2:=EU.mp h;have ih:=Wi (l:=l) (m:=m.erase x) h2.2 fun y hy=>(List.mem_erase_of_ne (fun e:y=x=>h2.1 (by rw [<-e];exact hy))).mpr (s y (F5 _ hy))
  rw[List.length_erase_of_mem hx] at ih;have:=List.length_pos_of_mem hx;rw[Ea];omega
theorem Wd:∀{rs:List Row}{ks:List (Str×List Itm)}{cs:List Cp}{as:List Str}{row:Row},run ks cs as (rs++[row])=(kS (run ks cs as rs).1 row,cS (run ks cs as rs).2.1 row,aS (run ks cs as rs).2.2 row)
 | [],_,_,_,_=>rfl
 | r::rs,ks,cs,as,row=>by
  show run (kS ks r) (cS cs r) (aS as r) (rs++[row])=_;rw[Wd];rfl
theorem Wu:∀{rs:List Row}{ks:List (Str×List Itm)}{cs:List Cp}{row:Row}(as:List Str),Acc ks cs rs->row.Ok->U8 (run ks cs as rs).1 (run ks cs as rs).2.1 row->Acc ks cs (rs++[row])
 | [],_,_,_,_,_,ok,fi=>⟨ok,fi,trivial⟩
 | r::rs,ks,cs,row,as,h,ok,fi=>⟨h.1,h.2.1,Wu (aS as r) h.2.2 ok fi⟩
structure RI (ns:List Str)(rs:List Row)(ks:List (Str×List Itm))(cs:List Cp)(as:List Str):Prop where
 acc:Acc [] [] rs
 run:run [] [] [] rs=(ks,cs,as)
 ain:∀z∈as,z∈ns
 sml:Sml rs.length ks cs as
 tin:∀k∈ks,k.1∈ns
 tnd:(ks.map (·.1)).Nodup
 ok:∀k∈ks,∀y∈k.2,y.Ok
 fnd:(XW cs).Nodup
 c4:cs.length<=4
theorem RI.start (ns:List Str):RI ns [] [] [] []:=⟨trivial,rfl,(λz h=>by cases h),⟨FE _,FE _,FE _,(λk h=>by cases h),λk h=>by cases h⟩,(λz h=>by cases h),Dh,(λz h=>by cases h),Dh,by decide⟩
theorem RI.kind (h:RI ns rs ks cs as){z:Str}(hn:ns.length<=8)(hok:YB z)(hz:z∈ns)(hz':z∉ks.map (·.1)):RI ns (rs++[.kind z]) (ks++[(z,[])]) cs as:=by
 have nd:(ks.map (·.1)++[z]).Nodup:=EN.mpr ⟨h.tnd,by simp,fun a ha b hb e=>hz' (by rw [FQ.mp hb] at e;rw [<-e];exact ha)⟩;have sub:∀ x∈ks.map (·.1)++[z],x∈ns:=fun x hx=>by
  rcases Ec.mp hx with hx|hx
  ·obtain⟨k,hk,rfl⟩:=EB.mp hx;exact h.tin k hk
  ·rw[FQ.mp hx];exact hz
 have le:=Wi nd sub;rw[FF,FH,FK] at le;have e:=h.run;have fi:U8 ks cs (.kind z):=⟨by omega,hz'⟩
 refine⟨Wu [] h.acc hok (by rw[e];exact fi),by rw[Wd,e];rfl,h.ain,?_,λk hk=>?_,by rw[FR];exact nd,λk hk=>?_,h.fnd,h.c4⟩
 ·rw[FF];exact h.sml.step (row:=.kind z) hok
 ·rcases Ec.mp hk with hk|hk
  ·exact h.tin k hk
  ·rw[FQ.mp hk];exact hz
 ·rcases Ec.mp hk with hk|hk
  ·exact h.ok k hk
  ·rw[FQ.mp hk];intro y hy;cases hy
theorem RI.cap (h:RI ns rs ks cs as){a b:Int}{nms:List Str}(hok:(Row.cap a b nms).Ok)(hin:∀z∈nms,z∈ns)(nd:(nms++XW cs).Nodup)(h4:cs.length<4):RI ns (rs++[.cap a b nms]) ks (cs++[(a,b,nms)]) (as++nms):=by
 have e:=h.run;have fi:U8 ks cs (.cap a b nms):=⟨h4,nd⟩
 refine⟨Wu [] h.acc hok (by rw[e];exact fi),by rw[Wd,e];rfl,λz hz=>?_,?_,h.tin,h.tnd,h.ok,?_,by rw[FF,FK];omega⟩
 ·rcases Ec.mp hz with hz|hz
  ·exact h.ain z hz
  ·exact hin z hz
 ·rw[FF];exact h.sml.step (row:=.cap a b nms) hok
 ·have:XW (cs++[(a,b,nms)])=XW cs++nms:=by unfold XW;rw[FR,Dd];simp
  rw[this];obtain⟨h1,h2,h3⟩:=EN.mp nd;exact EN.mpr ⟨h2,h1,λa ha b hb e=>h3 b hb a ha e.symm⟩
theorem RI.itm {xs:List Itm}(h:RI ns rs (ks0++[(z,xs)]) cs as){x:Itm}(hok:x.Ok)(fi:YR xs x)(hin:∀z r s,x=.cnt z r s->z∈ns):RI ns (rs++[.itm x]) (ks0++[(z,xs++[x])]) cs (aS as (.itm x)):=by
 have e:=h.run;have fi':U8 (ks0++[(z,xs)]) cs (.itm x):=⟨ks0,z,xs,rfl,fi⟩
 have ek:kS (ks0++[(z,xs)]) (.itm x)=ks0++[(z,xs++[x])]:=WV;refine⟨Wu [] h.acc hok (by rw[e];exact fi'),by rw[Wd,e];show(kS (ks0++[(z,xs)]) (.itm x),cs,aS as (.itm x))=_;rw[ek],λy hy=>?_,?_,λk hk=>?_,?_,λk hk y hy=>?_,h.fnd,h.c4⟩
 ·cases x with
  | cnt z2 r s=>
   rcases Ec.mp (show y∈as++[z2] from hy) with hy|hy
   ·exact h.ain y hy
   ·rw[FQ.mp hy];exact hin z2 r s rfl
  | _=>exact h.ain y hy
 ·have:=h.sml.step (row:=.itm x) hok;rw[ek] at this;rw[FF];exact this
 ·rcases Ec.mp hk with hk|hk
  ·exact h.tin k (EF _ hk)
  ·rw[FQ.mp hk];exact h.tin (z,xs) (by simp)
 ·have:=h.tnd;rw[FR] at this ⊢;exact this
 ·rcases Ec.mp hk with hk|hk
  ·exact h.ok k (EF _ hk) y hy
  ·rw[FQ.mp hk] at hy;rcases Ec.mp (show y∈xs++[x] from hy) with hy|hy
   ·exact h.ok (z,xs) (by simp) y hy
   ·rw[FQ.mp hy];exact hok
structure LwS (K:W.Frag)(N:Addr->Prop)(ow:Addr->Nat)(H:Hp)(a c:Addr)(ps:List Addr)(qs:Nat->Nat->Addr)(cvs:List V)(bs:List (Nat×Addr×List V))(ks:List (Str×List Itm))(cs:List Cp):Prop where
 ha:H a=some (.lst (ps.map V.ref))
 hc:H c=some (.lst cvs)
 na:N a
 nc:N c
 dl:ps.length=ks.length
 dr:∀(i:Nat) p k,ps[i]?=some p->ks[i]?=some k->KL K H p k.1 k.2 (qs i)
 nq:∀i<ks.length,∀j<7,N (qs i j)
 cr:All2 (CL K (λl=>ow l=3) H) cs cvs
 oa:ow a=0
 oc:ow c=1
 oq:∀i<ks.length,∀j<7,ow (qs i j)=10+7*i+j
 hb:∀e∈bs,H e.2.1=some (.lst e.2.2)/\ow e.2.1=e.1/\4<=e.1/\e.1<10
theorem LwS.mono {a c:Addr}{ps:List Addr}{bs:List (Nat×Addr×List V)}(g:Same H H')(S:LwS K N ow H a c ps qs cvs bs ks cs):LwS K N ow H' a c ps qs cvs bs ks cs:=
 ⟨g _ _ S.ha,g _ _ S.hc,S.na,S.nc,S.dl,λi p k hp hk=>(S.dr i p k hp hk).mono g,S.nq,JM (.of g) S.cr,S.oa,S.oc,S.oq,λe he=>⟨g _ _ (S.hb e he).1,(S.hb e he).2⟩⟩
theorem LwS.lst_q {a c:Addr}{ps:List Addr}{bs:List (Nat×Addr×List V)}(S:LwS K N ow H a c ps qs cvs bs ks cs){i j:Nat}(hi:i<ks.length)(hj:j<7):∃vs,H (qs i j)=some (.lst vs):=by
 obtain⟨vs,h,_⟩:=(S.dr i ps[i]! ks[i] (by rw[List.getElem!_eq_getElem?_getD,FI (by rw[S.dl];exact hi)];rfl) (FI hi)).hq j hj;exact⟨vs,h⟩
theorem BC (h:All2 (CL K N H) cs vs)(hn:∀l us,H l=some (.lst us)->N l->N' l):All2 (CL K N' H) cs vs:=⟨h.1,λi a b ha hb=>by
 obtain⟨p,l,e,h1,h2,n⟩:=h.2 i a b ha hb;exact⟨p,l,e,h1,h2,hn _ _ h2 n⟩⟩
theorem LwS.reown {a c:Addr}{ps:List Addr}{bs:List (Nat×Addr×List V)}{ow':Addr->Nat}(S:LwS K N ow H a c ps qs cvs bs ks cs)(h:∀b vs,H b=some (.lst vs)->ow' b=ow b):LwS K N ow' H a c ps qs cvs bs ks cs:=
 ⟨S.ha,S.hc,S.na,S.nc,S.dl,S.dr,S.nq,BC S.cr λl us e n=>by rw[h _ _ e];exact n,by rw[h _ _ S.ha];exact S.oa,by rw[h _ _ S.hc];exact S.oc,λi hi j hj=>by
  obtain⟨vs,e⟩:=S.lst_q hi hj;rw[h _ _ e];exact S.oq i hi j hj,λe he=>⟨(S.hb e he).1,by rw[h _ _ (S.hb e he).1];exact(S.hb e he).2.1,(S.hb e he).2.2⟩⟩
theorem LwS.upK {a c:Addr}{ps:List Addr}{bs:List (Nat×Addr×List V)}(S:LwS K N ow H a c ps qs cvs bs ks cs){p:Addr}{z:Str}{q:Nat->Addr}(hD:KL K H p z [] q)(hq:∀j<7,N (q j)/\ow (q j)=10+7*ks.length+j):LwS K N ow (upd H a (.lst (ps.map V.ref++[.ref p]))) a c (ps++[p]) (λi=>if i=ks.length then q else qs i) cvs bs (ks++[(z,[])]) cs:=by
 have hdl:=S.dl;have oa:=S.oa;have oc:=S.oc;have kc:Kp (λl=>ow l=3) H (upd H a (.lst (ps.map V.ref++[.ref p]))):=Q4 S.ha λb hb=>QS ow (by rw[hb,oa];decide)
 refine⟨by rw[Qe,FR];rfl,by rw[Qq (QS ow (by rw[oa,oc];decide))];exact S.hc,S.na,S.nc,by rw[FF,FF,hdl];rfl,λi p' k hp' hk=>?_,λi hi j hj=>?_,JM kc S.cr,oa,oc,λi hi j hj=>?_,λe he=>?_⟩
 ·have hi:i<(ks++[(z,([]:List Itm))]).length:=(FZ.mp hk).1;rw[FF,FK] at hi;by_cases e:i=ks.length
  ·subst e;rw [<-hdl,Em (FE _),Es] at hp';rw [Em (FE _),Es] at hk;cases hp';cases hk;simp only [if_true];exact hD.upd S.ha fun j hj=>QS ow (by rw [(hq j hj).2,oa];omega)
  ·rw[En (by omega)] at hp' hk;simp only[FC e];exact(S.dr i p' k hp' hk).upd S.ha λj hj=>QS ow (by rw[S.oq i (by omega) j hj,oa];omega)
 ·rw[FF,FK] at hi;by_cases e:i=ks.length
  ·subst e;simp only[if_true];exact(hq j hj).1
  ·simp only[FC e];exact S.nq i (by omega) j hj
 ·rw[FF,FK] at hi;by_cases e:i=ks.length
  ·subst e;simp only[if_true];exact(hq j hj).2
  ·simp only[FC e];exact S.oq i (by omega) j hj
 ·obtain⟨h1,h2,h3,h4⟩:=S.hb e he;exact⟨by rw[Qq (QS ow (by rw[h2,oa];omega))];exact h1,h2,h3,h4⟩
theorem LwS.upC {a c:Addr}{ps:List Addr}{bs:List (Nat×Addr×List V)}(S:LwS K N ow H a c ps qs cvs bs ks cs){cp:Cp}{v:V}(hc:CL K (λl=>ow l=3) H cp v):LwS K N ow (upd H c (.lst (cvs++[v]))) a c ps qs (cvs++[v]) bs ks (cs++[cp]):=by
 have oa:=S.oa;have oc:=S.oc;have kc:Kp (λl=>ow l=3) H (upd H c (.lst (cvs++[v]))):=Q4 S.hc λb hb=>QS ow (by rw[hb,oc];decide)
 refine⟨by rw[Qq (QS ow (by rw[oa,oc];decide))];exact S.ha,Qe,S.na,S.nc,S.dl,λi p k hp hk=>(S.dr i p k hp hk).upd S.hc λj hj=>QS ow (by rw[S.oq i (FZ.mp hk).1 j hj,oc];omega),S.nq,?_,oa,oc,S.oq,λe he=>?_⟩
 ·have h:=JM kc S.cr;have hl:=h.1;refine⟨by rw[FF,FF,hl];rfl,λi a b ha hb=>?_⟩;by_cases hi:i<cvs.length
  ·rw[En (by omega)] at ha;rw[En hi] at hb;exact h.2 i a b ha hb
  ·have hi2:i<(cvs++[v]).length:=(FZ.mp hb).1;rw[FF,FK] at hi2;have:i=cvs.length:=by omega
   subst this;rw[Em (by omega),hl,Es] at ha;rw[Em (FE _),Es] at hb;cases ha;cases hb;exact hc.kp kc
 ·obtain⟨h1,h2,h3,h4⟩:=S.hb e he;exact⟨by rw[Qq (QS ow (by rw[h2,oc];omega))];exact h1,h2,h3,h4⟩
theorem LwS.upX {a c:Addr}{ps:List Addr}{bs:List (Nat×Addr×List V)}{xs:List Itm}(S:LwS K N ow H a c ps qs cvs bs (ks0++[(z,xs)]) cs){x:Itm}{v:V}{vs:List V}(hv:H (qs ks0.length x.sl)=some (.lst vs))(hx:LIt K H x v):LwS K N ow (upd H (qs ks0.length x.sl) (.lst (vs++[v]))) a c ps qs cvs bs (ks0++[(z,xs++[x])]) cs:=by
 have oa:=S.oa;have oc:=S.oc;have hlen:∀y:List Itm,(ks0++[(z,y)]).length=ks0.length+1:=λy=>by rw[FF];rfl
 have oq:ow (qs ks0.length x.sl)=10+7*ks0.length+x.sl:=S.oq _ (by rw[hlen];omega) _ (Xx x);have kc:Kp (λl=>ow l=3) H (upd H (qs ks0.length x.sl) (.lst (vs++[v]))):=Q4 hv λb hb=>QS ow (by rw[hb,oq];omega)
 refine⟨by rw[Qq (QS ow (by rw[oa,oq];omega))];exact S.ha,by rw[Qq (QS ow (by rw[oc,oq];omega))];exact S.hc,S.na,S.nc,by rw[S.dl,hlen,hlen],λi p k hp hk=>?_,λi hi j hj=>S.nq i (by rw[hlen] at *;exact hi) j hj,JM kc S.cr,oa,oc,λi hi j hj=>S.oq i (by rw[hlen] at *;exact hi) j hj,λe he=>?_⟩
 ·have hi:=(FZ.mp hk).1;rw[hlen] at hi;by_cases e:i=ks0.length
  ·subst e;have hD:=S.dr ks0.length p (z,xs) hp (by simp);have ek:k=(z,xs++[x]):=by simpa using hk.symm
   subst ek;exact hD.add hv (U0 λj hj=>S.oq _ (by rw[hlen];omega) j hj) hx
  ·rw[En (by omega)] at hk;refine(S.dr i p k hp (by rw[En (by omega)];exact hk)).upd hv λj hj=>QS ow ?_
   rw[S.oq i (by rw[hlen];omega) j hj,oq];have:=Xx x;omega
 ·obtain⟨h1,h2,h3,h4⟩:=S.hb e he;exact⟨by rw[Qq (QS ow (by rw[h2,oq];omega))];exact h1,h2,h3,h4⟩
theorem LwS.upB {a c:Addr}{ps:List Addr}{bs:List (Nat×Addr×List V)}{ws:List V}(S:LwS K N ow H a c ps qs cvs ((n,r,vs)::bs) ks cs)(hn:∀e∈bs,e.1≠n):LwS K N ow (upd H r (.lst ws)) a c ps qs cvs ((n,r,ws)::bs) ks cs:=by
 have oa:=S.oa;have oc:=S.oc;obtain⟨hr,o,n4,n10⟩:=S.hb _ Eb;have hr:H r=some (.lst vs):=hr;have o:ow r=n:=o;have n4:4<=n:=n4;have n10:n<10:=n10;have kc:Kp (λl=>ow l=3) H (upd H r (.lst ws)):=Q4 hr λb hb=>QS ow (by rw[hb,o];omega)
 refine⟨by rw[Qq (QS ow (by rw[oa,o];omega))];exact S.ha,by rw[Qq (QS ow (by rw[oc,o];omega))];exact S.hc,S.na,S.nc,S.dl,λi p k hp hk=>(S.dr i p k hp hk).upd hr λj hj=>QS ow (by rw[S.oq i (FZ.mp hk).1 j hj,o];omega),S.nq,JM kc S.cr,oa,oc,S.oq,λe he=>?_⟩;rcases FP.mp he with rfl|he
 ·exact⟨Qe,o,n4,n10⟩
 ·obtain⟨h1,h2,h3,h4⟩:=S.hb e (F5 _ he);exact⟨by rw[Qq (QS ow (by rw[h2,o];exact hn e he))];exact h1,h2,h3,h4⟩
theorem LwS.addB {a c:Addr}{ps:List Addr}{bs:List (Nat×Addr×List V)}(S:LwS K N ow H a c ps qs cvs bs ks cs)(h0:H r=none)(g:Same H H')(hr:H' r=some (.lst vs))(n4:4<=n)(n10:n<10):LwS K N (λb=>if b=r then n else ow b) H' a c ps qs cvs ((n,r,vs)::bs) ks cs:=by
 have S1:=(S.reown (ow':=λb=>if b=r then n else ow b) λb us hb=>FC (Qm hb h0)).mono g;refine⟨S1.ha,S1.hc,S1.na,S1.nc,S1.dl,S1.dr,S1.nq,S1.cr,S1.oa,S1.oc,S1.oq,λe he=>?_⟩;rcases FP.mp he with rfl|he
 ·exact⟨hr,FD rfl,n4,n10⟩
 ·exact S1.hb e he
def LwR (K:W.Frag)(N:Addr->Prop)(H:Hp)(a c:Addr)(bs:List (Nat×Addr×List V))(ks:List (Str×List Itm))(cs:List Cp):Prop:=∃ow ps qs cvs,LwS K N ow H a c ps qs cvs bs ks cs
theorem LwS.ti {a c:Addr}{ps:List Addr}{bs:List (Nat×Addr×List V)}(S:LwS K N ow H a c ps qs cvs bs ks cs):All2 (TiR K H) (ks.map (·.1)) (ps.map V.ref):=⟨by rw[FH,FH,S.dl],λi z v hz hv=>by
 rw[F0] at hz hv;obtain⟨k,hk,rfl⟩:=F6.mp hz;obtain⟨p,hp,rfl⟩:=F6.mp hv;exact⟨p,_,rfl,SqT.of (S.dr i p k hp hk).hp⟩⟩
theorem SA {row:Row}(ok:row.Ok):row.tx≠q_ "":=λe=>by
 have h:=Vz ok;rw[e] at h;have h2:Txt.split (q_ "") blank=[q_ ""]:=by decide +kernel
 rw[h2] at h;have:row.ws≠[]:=by
  cases row with
  | kind z=>simp[Row.ws]
  | cap a b ns=>simp[Row.ws]
  | itm x=>cases x<;>simp[Row.ws,Itm.ws]
 exact this (List.cons.inj h).2.symm
abbrev txs (rs:List Row):List V:=rs.map λr=>.str r.tx
inductive φrows (K:W.Frag)(x y z u:V)(H:Hp)(Q:VK):Prop
 | mk (N:Addr->Prop) (d pl a c:Addr) (cl:List Int) (ns:List Str) (h1:x=.ref d) (h2:y=.ref pl) (h3:z=.ref a) (h4:u=.ref c) (h5:LwR K N H a c [(5,d,cl.map V.int),(4,pl,ns.map V.str)] [] []) (hN:∀b,H b=none->N b) (h6:cl.length<=60) (h7:∀z∈ns,YB z) (h8:ns.Nodup) (h9:1<=ns.length/\ns.length<=8)
   (q:∀r rs ks cs as H',Sn N H H'->(∀b,H' b=none->N b)->LwR K N H' a c [(6,r,txs rs),(5,d,cl.map V.int),(4,pl,ns.map V.str)] ks cs->RI ns rs ks cs as->rs.length<=60->N r->Q (.ref r) H'):φrows K x y z u H Q
def RoI (K:W.Frag)(N:Addr->Prop)(d pl a c r:Addr)(cl:List Int)(ns:List Str)(H:Hp)(i:Nat)(σ':L2.St)(H':Hp):Prop:=∃x5 x6 rs ks cs as,σ'=[some (.ref d),some (.ref pl),some (.ref a),some (.ref c),some (.ref r),x5,x6]/\Sn N H H'/\(∀b,H' b=none->N b)/\LwR K N H' a c [(6,r,txs rs),(5,d,cl.map V.int),(4,pl,ns.map V.str)] ks cs/\RI ns rs ks cs as/\rs.length<=i
theorem none_of (h:∀b,H b=none->N b)(g:Same H H'):∀b,H' b=none->N b:=λb hb=>h b (g.free hb)
theorem Xb {c:Addr}(h:∀b,H b=none->N b):∀b,upd H c o b=none->N b:=λb hb=>by
 by_cases e:b=c
 ·rw[e,Qe] at hb;cases hb
 ·rw[Qq e] at hb;exact h b hb
theorem G8 (T:Tx w K mg t)(F:Fun K "_law_rows" "_law_rows" Yh f fd)(eY:Cal P w K mg base 3 "_law_cap" ["_law_caps","_law_pool_here","_law_cell_here"] (Sp3M (φcap K)))(bQ:Cal P w K mg base 2 "_law_kind" ["_law_kinds","_law_pool_here","_law_cell_here"] (Sp3M (φknd K)))(eZ:Cal P w K mg base 5 "_law_put" ["_law_last","_law_pool_here","_law_cell_here"] (Sp3M (φput K))):FnOk P w K mg base CX0 6 f fd ["_law_cells","_law_pool_here","_law_kinds","_law_caps"] (Sp4 (φrows K)):=by
 refine F.ok sc_l_rows GW (λcdv A outer s H vs Q E hr h=>?_);obtain⟨_,_,_,_,rfl,N,d,pl,a,c,cl,ns,rfl,rfl,rfl,rfl,⟨ow,ps,qs,cvs,S⟩,hN,hcl,hns,nd,hnl,q⟩:=h;refine⟨_,((Qc (Qw (i:=4) sc_l_rows.nd rfl (Or.inl rfl) (QF Qb))
   (Qc (ZG Er rfl (piK K rfl (pu 0)) (QA (i:=5) sc_l_rows.nd rfl (Or.inl rfl))
   (Qc (Qy (Qj (eqM K rfl hr.units) (Qr QD (pu 5) Qd) Qd (Qk _)) (Qf (Qw (i:=6) sc_l_rows.nd rfl (Or.inl rfl) (Qt eY (hrm hr) rfl (Qa (pu 3) (Qa (pu 1) (Qa (Qr QR (pu 5) Qd) Qb)))))) (Qf (Qy (PW.pt (Xo (Qj (Vn K rfl hr.units) (pu 2) (QF Qb) (Qk _)) (Xd (Qj (eqM K rfl hr.units) (Qr QD (pu 5) Qd) Qd (Qk _))))) (Qf (Qw (i:=6) sc_l_rows.nd rfl (Or.inl rfl) (Qt bQ (hrm hr) rfl (Qa (pu 2) (Qa (pu 1) (Qa (Qr QR (pu 5) Qd) Qb)))))) (Qf (Qw (i:=6) sc_l_rows.nd rfl (Or.inl rfl) (Qt eZ (hrm hr) rfl (Qa (Qp (ixK K rfl) (pu 2) (Xa Zb Qd) (λ_ _=>rfl)) (Qa (pu 1) (Qa (Qr QR (pu 5) Qd) Qb)))))))))
   (Qf (Qy (Qj (neM K rfl hr.units) (pu 6) Qn (Qk _)) (Qf (QP (QQ K rfl F8 Eh Ei QK (pu 4) (Qa (pu 6) Qb)))) Qo))))
   (Qf (Ql (pu 4)))))),?_⟩
 walk_at "go";refine⟨by decide,λr hr=>?_⟩;have g1:=Qg hr (.lst []);have k1:=Qe (H:=H) (a:=r) (o:=.lst []);have S1:=S.addB (n:=6) hr g1 k1 (by decide) (by decide);generalize upd H r (.lst [])=H1 at *;have hd:∀{H':Hp} {rs:List Row} {ks:List (Str×List Itm)} {cs:List Cp},LwR K N H' a c [(6,r,txs rs),(5,d,cl.map V.int),(4,pl,ns.map V.str)] ks cs->SqL K H' d (cl.map V.int):=λ⟨_,_,_,_,T⟩=>SqL.of (T.hb (5,d,cl.map V.int) (by simp)).1
 refine⟨d,rfl,⟨_,SqL.of (S1.hb (5,d,cl.map V.int) (by simp)).1⟩,Yx (xs:=cl.map V.int) (RoI K N d pl a c r cl ns H) ⟨none,none,[],[],[],[],rfl,.of g1,none_of hN g1,⟨_,_,_,_,S1⟩,RI.start ns,FE _⟩ (λi σ' H' _ h=>by obtain⟨_,_,_,_,_,_,_,_,_,T,_⟩:=h;exact hd T) ?_ ?_⟩
 ·rintro i v _ H2 hv ⟨x5,x6,rs,ks,cs,as,rfl,sn,hN2,T,ri,len⟩;rw[F0] at hv;obtain⟨m,hm,rfl⟩:=F6.mp hv;have hi:i<60:=by have:=(FZ.mp hm).1;omega
  generalize hR:W3 (uB (tOp (sNe K) (X7 6) _)) _ _=R;have keyE:∀(D:Q6) (H3:Hp),D.nx=RoI K N d pl a c r cl ns H (i+1)->Same H2 H3->R D [some (.ref d),some (.ref pl),some (.ref a),some (.ref c),some (.ref r),some (.int m),some (.str (q_ ""))] H3:=by
   subst hR;intro D H3 hD g;walk_at "go";rw[hD];obtain⟨ow2,ps2,qs2,cvs2,S2⟩:=T;exact⟨_,_,rs,ks,cs,as,rfl,sn.trans (.of g),none_of hN2 g,⟨_,_,_,_,S2.mono g⟩,ri,by omega⟩
  have keyT:∀(D:Q6) (row:Row) (ks2:List (Str×List Itm)) (cs2:List Cp) (as2:List Str) (H3:Hp),D.nx=RoI K N d pl a c r cl ns H (i+1)->row.Ok->Sn N H H3->(∀b,H3 b=none->N b)->LwR K N H3 a c [(6,r,txs rs),(5,d,cl.map V.int),(4,pl,ns.map V.str)] ks2 cs2->RI ns (rs++[row]) ks2 cs2 as2->R D [some (.ref d),some (.ref pl),some (.ref a),some (.ref c),some (.ref r),some (.int m),some (.str row.tx)] H3:=by
   subst hR;intro D row ks2 cs2 as2 H3 hD ok sn3 hN3 ⟨ow2,ps2,qs2,cvs2,S2⟩ ri2;walk_at "go";refine Qz (λ_=>?_) (λe=>absurd (Classical.not_not.mp e) (SA ok));have hr3:H3 r=some (.lst (txs rs)):=(S2.hb (6,r,txs rs) (by simp)).1;have nr:N r:=hN r hr;refine⟨.inl ⟨rfl,_,SqL.of hr3⟩,r,_,_,rfl,rfl,hr3,by rw[FH,FN];omega,?_⟩;rw[hD];have S3:=S2.upB (ws:=txs rs++[.str row.tx]) (by simp);rw[show txs rs++[.str row.tx]=txs (rs++[row]) by simp[txs]] at *;exact⟨_,_,rs++[row],ks2,cs2,as2,rfl,sn3.trans (Sn.put nr),Xb hN3,⟨_,_,_,_,S3⟩,ri2,by rw[FF,FK];omega⟩
  obtain⟨ow2,ps2,qs2,cvs2,S2⟩:=id T;have hpl:H2 pl=some (.lst (ns.map V.str)):=(S2.hb (4,pl,ns.map V.str) (by simp)).1;have opl:ow2 pl=4:=(S2.hb (4,pl,ns.map V.str) (by simp)).2.1;have hdl:=S2.dl;have cd7:KB 7:=⟨by decide,(bdm (m:=60) (by decide) (by decide)).mono (by decide)⟩
  have kdk:∀(D:Q6) (H3:Hp),D.nx=RoI K N d pl a c r cl ns H (i+1)->Same H2 H3->φknd K (.ref a) (.ref pl) (.int (m.fdiv 7)) H3 λx H1=>R D [some (.ref d),some (.ref pl),some (.ref a),some (.ref c),some (.ref r),some (.int m),some x] H1:=λD H3 hD g=>by
   have S3:=S2.mono g;have hN3:=none_of hN2 g;refine ⟨a,pl,_,_,ks.map (·.1),ns,rfl,rfl,rfl,S3.ha,S3.ti,SqL.of (g _ _ hpl),hns,hnl.2,by rw [FH];have:=ri.sml.k;omega,fun _ H4 g4=>keyE _ _ hD (g.trans g4),fun z p q' H4 H5 g4 z1 z2 hp hq hinj g5=>?_⟩;obtain ⟨ow',w1,w2⟩:=UR ow2 q' (10+7*ks.length) hinj;have S4:=(((S3.reown (ow':=ow') fun b vs hb=>w2 b fun j hj e=>by rw [<-e,(hq j hj).1] at hb;cases hb).mono g4).upK ⟨hp,fun j hj=>⟨[],(hq j hj).2,QV⟩⟩ fun j hj=>⟨hN3 _ (hq j hj).1,w1 j hj⟩).mono g5;exact keyT _ (.kind z) (ks++[(z,[])]) cs as H5 hD (hns z z1) (sn.trans ((Sn.of (g.trans g4)).trans ((Sn.put S2.na).trans (.of g5)))) (none_of (Xb (none_of hN3 g4)) g5) ⟨_,_,_,_,S4⟩ (ri.kind hnl.2 (hns z z1) z1 z2)
  walk_at "go";refine⟨trivial,Qz (λ_=>?_) (λ_=>?_)⟩
  ·refine⟨cd7,c,pl,_,cvs2,cs,ns,λl=>ow2 l=3,rfl,rfl,rfl,S2.hc,S2.cr,SqL.of hpl,hns,nd,hnl.2,ri.c4,ri.sml.m,ri.fnd,λH3 g=>keyE _ _ rfl g,λx y nms p l H3 H4 g ok hin ndp lt l0 hl hp g4=>?_⟩;have S4:=(((S2.reown (ow':=λb=>if b=l then 3 else ow2 b) λb vs hb=>FC (Qm hb l0)).mono g).upC (cp:=(x,y,nms)) (v:=.ref p) ⟨p,l,rfl,hp,hl,FD rfl⟩).mono g4;exact keyT _ (.cap x y nms) ks (cs++[(x,y,nms)]) (as++nms) H4 rfl ok (sn.trans ((Sn.of g).trans ((Sn.put S2.nc).trans (.of g4)))) (none_of (Xb (none_of hN2 g)) g4) ⟨_,_,_,_,S4⟩ (ri.cap ok hin ndp lt)
  ·refine⟨by decide,λp1 hp1=>?_⟩;have gE:=Qg hp1 (.lst []);refine Xg (SqL.of (gE _ _ S2.ha)) (SqL.of Qe) ?_;generalize upd H2 p1 (.lst [])=H3 at *;walk_at "go";refine Qz (λ_=>⟨cd7,kdk _ _ rfl gE⟩) (λne=>⟨trivial,Qz (λ_=>⟨cd7,kdk _ _ rfl gE⟩) (λ_=>?_)⟩);rcases List.eq_nil_or_concat ks with e|⟨ks0,⟨z,xs⟩,e⟩
   ·rw[e] at hdl;rw[List.eq_nil_of_length_eq_zero hdl] at ne;exact absurd rfl ne
   rw[List.concat_eq_append] at e;subst e;rcases List.eq_nil_or_concat ps2 with e|⟨ps0,p,e⟩
   ·subst e;simp at hdl
   rw[List.concat_eq_append] at e;subst e;rw[FF,FF,FK,FK] at hdl;have hl0:ps0.length=ks0.length:=by omega
   have S3:=S2.mono gE;have hK:=S3.dr ks0.length p (z,xs) (by rw [<-hl0];simp) (by simp);have ha3:=SqL.of (K:=K) S3.ha;rw [FR] at ha3;have hlt:ks0.length<(ks0++[(z,xs)]).length:=by rw [FF];exact EG _
   have oq:=S2.oq ks0.length hlt;refine QX ha3 (Zf _ _) ⟨cd7,p,pl,_,z,xs,qs2 ks0.length,ns,rfl,rfl,rfl,hK,U0 oq,SqL.of (gE _ _ hpl),λj hj=>QS ow2 (by rw[oq j hj,opl];omega),hns,hnl,ri.ok (z,xs) (by simp),?_,λH4 g4=>keyE _ _ rfl (gE.trans g4),λx v vs H4 H5 g4 ok fi hin hv lit g5=>?_⟩
   ·have:xs.length<=rs.length:=ri.sml.x (z,xs) (by simp);omega
   ·have S4:=((S3.mono g4).upX hv lit).mono g5;exact keyT _ (.itm x) (ks0++[(z,xs++[x])]) cs (aS as (.itm x)) H5 rfl ok (sn.trans ((Sn.of (gE.trans g4)).trans ((Sn.put (S2.nq ks0.length hlt x.sl (Xx x))).trans (.of g5)))) (none_of (Xb (none_of hN2 (gE.trans g4))) g5) ⟨_,_,_,_,S4⟩ (ri.itm ok fi hin)
 ·rintro _ H2 ⟨x5,x6,rs,ks,cs,as,rfl,sn,hN2,T,ri,len⟩;walk_at "go";rw[FH] at len;exact q r rs ks cs as _ sn hN2 T ri (by omega) (hN r hr)
theorem Nj [DecidableEq α]{l m:List α}(h:l.Nodup)(s:∀x∈l,x∈m)(hl:m.length<=l.length):∀x∈m,x∈l:=λx hx=>by
 by_cases e:x∈l
 ·exact e
 ·have:=Wi (l:=x::l) (m:=m) (EU.mpr ⟨e,h⟩) λy hy=>by
   rcases FP.mp hy with rfl|hy
   ·exact hx
   ·exact s y hy
  rw[Ea] at this;omega
inductive φlack (K:W.Frag)(x y z u:V)(H:Hp)(Q:VK):Prop
 | mk (N:Addr->Prop) (r pl a c d:Addr) (n:Int) (dv:List V) (rs:List Row) (ns:List Str) (ks:List (Str×List Itm)) (cs:List Cp) (as:List Str) (h1:x=.ref r) (h2:y=.ref pl) (h3:z=.ref a) (h4:u=.int n) (h5:LwR K N H a c [(6,r,txs rs),(5,d,dv),(4,pl,ns.map V.str)] ks cs) (hN:∀b,H b=none->N b) (nr:N r) (h6:RI ns rs ks cs as) (h7:∀z∈ns,YB z) (h8:ns.Nodup) (h9:1<=ns.length/\ns.length<=8) (h10:rs.length<=60)
   (q:∀rs ks cs as H',Sn N H H'->(∀b,H' b=none->N b)->LwR K N H' a c [(6,r,txs rs),(5,d,dv),(4,pl,ns.map V.str)] ks cs->RI ns rs ks cs as->(∀z∈ns,z∈ks.map (·.1))->rs.length<=76->Q (.ref r) H'):φlack K x y z u H Q
def L1I (K:W.Frag)(N:Addr->Prop)(r pl a c d:Addr)(n:Int)(dv:List V)(ns:List Str)(H:Hp)(i:Nat)(σ':L2.St)(H':Hp):Prop:=∃x4 rs ks cs as,σ'=[some (.ref r),some (.ref pl),some (.ref a),some (.int n),x4,none,none]/\Sn N H H'/\(∀b,H' b=none->N b)/\LwR K N H' a c [(6,r,txs rs),(5,d,dv),(4,pl,ns.map V.str)] ks cs/\RI ns rs ks cs as/\rs.length<=60+i/\(i<=ks.length∨ns.length<=ks.length)
def L2I (K:W.Frag)(N:Addr->Prop)(r pl a c d p:Addr)(n:Int)(dv:List V)(ns:List Str)(ks0:List (Str×List Itm))(z:Str)(H:Hp)(i:Nat)(σ':L2.St)(H':Hp):Prop:=∃x4 x6 rs xs cs as,σ'=[some (.ref r),some (.ref pl),some (.ref a),some (.int n),x4,some (.ref p),x6]/\Sn N H H'/\(∀b,H' b=none->N b)/\(∃ow ps0 qs cvs,LwS K N ow H' a c (ps0++[p]) qs cvs [(6,r,txs rs),(5,d,dv),(4,pl,ns.map V.str)] (ks0++[(z,xs)]) cs)/\RI ns rs (ks0++[(z,xs)]) cs as/\rs.length<=68+i
theorem Va (T:Tx w K mg t)(F:Fun K "_law_lacking" "_law_lacking" Z5 f fd)(bC:Cal P w K mg base 2 "_law_words" ["_law_row"] (Sp1M (φwds K)))(aY:Cal P w K mg base 3 "_law_rate" ["_law_cell_here","_law_k"] (Sp2M (φrate K)))(bQ:Cal P w K mg base 2 "_law_kind" ["_law_kinds","_law_pool_here","_law_cell_here"] (Sp3M (φknd K))):FnOk P w K mg base CX0 6 f fd ["_law_rows_here","_law_pool_here","_law_kinds","_law_cell_here"] (Sp4 (φlack K)):=by
 refine F.ok sc_l_lacking GW (λcdv A outer s H vs Q E hr h=>?_);obtain⟨_,_,_,_,rfl,N,r,pl,a,c,d,n,dv,rs,ns,ks,cs,as,rfl,rfl,rfl,rfl,hT,hN,nr,ri,hns,nd,hnl,hrl,q⟩:=h;refine⟨_,((Qc (ZG Er rfl (ZU rfl T.bH (Qa (Qs (Zr K rfl) (by rfl) T.aB FO (Qa (pu 1) Qb)) Qb)) (QA (i:=4) sc_l_lacking.nd rfl (Or.inl rfl))
   (Qf (Qy (Qj Xr (Qs (Zr K rfl) (by rfl) T.aB FO (Qa (pu 2) Qb)) (Qs (Zr K rfl) (by rfl) T.aB FO (Qa (pu 1) Qb)) (Qk _)) (Qf (QP (QQ K rfl F8 Eh Ei QK (pu 0) (Qa (Qt bQ (hrm hr) rfl (Qa (pu 2) (Qa (pu 1) (Qa (pu 4) Qb)))) Qb)))) Qo)))
   (Qc (Qw (i:=5) sc_l_lacking.nd rfl (Or.inl rfl) (Qp (ixK K rfl) (pu 2) (Xa Zb Qd) (λ_ _=>rfl)))
   (Qc (ZG Er rfl (piK K rfl (pu 1)) (QA (i:=6) sc_l_lacking.nd rfl (Or.inl rfl))
   (Qf (Qy (PW.pt (ZF (Qj (eqM K rfl hr.units) (Qr QD (pu 3) Qd) Qd (Qk _)) (Zt (Qj (XD K rfl) (pu 6) (Xz (N:=["_law_one"]) (caps:=[none]) rfl W8 (piK K rfl (Qp (ixK K rfl) (pu 5) Qd (λ_ _=>rfl))) (λ_ _ _ _=>QA (i:=0) (show(["_law_one"]:List Str).Nodup by decide +kernel) rfl (Or.inl rfl) (.inr rfl)) (λ_ _ _ _=>Xh) (λ_ _ _ _=>(Qp (ixK K rfl) (pu 0) Qd (λ_ _=>rfl)))) (by with_unfolding_all rfl))))) (Qc (QP (QQ K rfl F8 Eh Ei QK (Qp (ixK K rfl) (pu 5) Qd (λ_ _=>rfl)) (Qa (QU (Qa (pu 6) (Qa (Qt aY (hrm hr) rfl (Qa (Qr QI (pu 3) (Qs (Zr K rfl) (by rfl) T.aB FO (Qa (Qp (ixK K rfl) (pu 5) Qd (λ_ _=>rfl)) Qb))) (Qa Qd Qb))) Qb))) Qb)))
   (Qf (QP (QQ K rfl F8 Eh Ei QK (pu 0) (Qa (Qt bC (hrm hr) rfl (Qa (Qr (GM K rfl) (QU (Qa Qn Qb)) (Qp (ixK K rfl) (Qp (ixK K rfl) (pu 5) Qd (λ_ _=>rfl)) (Xa Zb Qd) (λ_ _=>rfl))) Qb)) Qb))))) Qo)))
   (Qf (Ql (pu 0))))))),?_⟩
 have hpl:∀{H':Hp} {rs:List Row} {ks:List (Str×List Itm)} {cs:List Cp},LwR K N H' a c [(6,r,txs rs),(5,d,dv),(4,pl,ns.map V.str)] ks cs->H' pl=some (.lst (ns.map V.str)):=λ⟨_,_,_,_,T⟩=>(T.hb (4,pl,ns.map V.str) (by simp)).1
 have hr:∀{H':Hp} {rs:List Row} {ks:List (Str×List Itm)} {cs:List Cp},LwR K N H' a c [(6,r,txs rs),(5,d,dv),(4,pl,ns.map V.str)] ks cs->H' r=some (.lst (txs rs)):=λ⟨_,_,_,_,T⟩=>(T.hb (6,r,_) (by simp)).1
 have hP0:=SqL.of (K:=K) (hpl hT);walk_at "go";rw[FH];refine⟨by omega,by omega,U3 (L1I K N r pl a c d n dv ns H) ⟨none,rs,ks,cs,as,rfl,.of (Same.refl _),hN,hT,ri,by omega,.inl (F7 _)⟩ ?_ ?_⟩
 ·rintro i _ H2 hi ⟨x4,rs2,ks2,cs2,as2,rfl,sn,hN2,T,ri2,len,hk⟩;have hpl2:=hpl T;have hr2:=hr T;have hP2:=SqL.of (K:=K) hpl2;obtain⟨ow2,ps2,qs2,cvs2,S2⟩:=id T;have hdl:=S2.dl;have hA2:=SqL.of (K:=K) S2.ha;walk_at "go";rw[FH,FH];refine Qz (λlt=>?_) (λge=>?_)
  ·refine ⟨.inl ⟨rfl,_,SqL.of hr2⟩,a,pl,_,_,ks2.map (·.1),ns,rfl,rfl,rfl,S2.ha,S2.ti,hP2,hns,hnl.2,by rw [FH];have:=ri2.sml.k;omega,fun all=>absurd (Wi nd all) (by rw [FH];omega),fun z p q' H4 H5 g4 z1 z2 hp hq hinj g5=>?_⟩;obtain ⟨ow',w1,w2⟩:=UR ow2 q' (10+7*ks2.length) hinj;have S4:=(((S2.reown (ow':=ow') fun b vs hb=>w2 b fun j hj e=>by rw [<-e,(hq j hj).1] at hb;cases hb).mono g4).upK ⟨hp,fun j hj=>⟨[],(hq j hj).2,QV⟩⟩ fun j hj=>⟨hN2 _ (hq j hj).1,w1 j hj⟩).mono g5;have hr5:=hr ⟨_,_,_,_,S4⟩;have S5:=S4.upB (ws:=txs rs2++[.str (Row.kind z).tx]) (by simp);refine ⟨r,_,_,rfl,rfl,hr5,by rw [FH,FN];omega,?_⟩;rw [show txs rs2++[.str (Row.kind z).tx]=txs (rs2++[.kind z]) by simp [txs]] at *;exact ⟨_,rs2++[.kind z],ks2++[(z,[])],cs2,as2,rfl,(sn.trans ((Sn.of g4).trans ((Sn.put S2.na).trans (.of g5)))).trans (Sn.put nr),Xb (none_of (Xb (none_of hN2 g4)) g5),⟨_,_,_,_,S5⟩,ri2.kind hnl.2 (hns z z1) z1 z2,by rw [FF,FK];omega,by rw [FF,FK];omega⟩
  ·exact⟨_,rs2,ks2,cs2,as2,rfl,sn,hN2,T,ri2,by omega,.inr (by omega)⟩
 ·rintro _ H2 ⟨x4,rs2,ks2,cs2,as2,rfl,sn,hN2,T,ri2,len,hk⟩;have hkl:ns.length<=ks2.length:=by omega
  have all:∀z∈ns,z∈ks2.map (·.1):=Nj ri2.tnd (λx hx=>by obtain⟨k,hk,rfl⟩:=EB.mp hx;exact ri2.tin k hk) (by rw[FH];exact hkl);obtain⟨ow2,ps2,qs2,cvs2,S2⟩:=id T;have hdl:=S2.dl;rcases List.eq_nil_or_concat ks2 with e|⟨ks0,⟨z,xs⟩,e⟩
  ·have:ns.length<=0:=by rw[e] at hkl;exact hkl
   omega
  rw[List.concat_eq_append] at e;subst e;rcases List.eq_nil_or_concat ps2 with e|⟨ps0,p,e⟩
  ·subst e;simp at hdl
  rw[List.concat_eq_append] at e;subst e;have hA2:=SqL.of (K:=K) S2.ha;rw[FR] at hA2;walk_at "go";refine QX hA2 (Zf _ _) ?_;walk_at "go";have hl0:ps0.length=ks0.length:=by
   rw[FF,FF,FK,FK] at hdl;omega
  refine⟨pl,rfl,⟨_,SqL.of (hpl T)⟩,Yx (xs:=ns.map V.str) (L2I K N r pl a c d p n dv ns ks0 z H) ⟨_,none,rs2,xs,cs2,as2,rfl,sn,hN2,⟨_,ps0,_,_,S2⟩,ri2,by omega⟩ (λi σ' H' _ h=>by obtain⟨_,_,_,_,_,_,_,_,_,⟨_,_,_,_,T⟩,_⟩:=h;exact SqL.of (hpl ⟨_,_,_,_,T⟩)) ?_ ?_⟩
  ·rintro i v _ H3 hv ⟨x4',x6,rs3,xs3,cs3,as3,rfl,sn3,hN3,⟨ow3,ps3,qs3,cvs3,S3⟩,ri3,len3⟩;have hi8:i<8:=by have:=ZW hv;rw[FH] at this;omega
   rw[F0] at hv;obtain⟨tt,htt,rfl⟩:=F6.mp hv;have tin:tt∈ns:=EE htt;have hps:ps3.length=ks0.length:=by
    have:=S3.dl;rw[FF,FF,FK,FK] at this;omega
   have hK:=S3.dr ks0.length p (z,xs3) (by rw [<-hps];simp) (by simp);have hlt:ks0.length<(ks0++[(z,xs3)]).length:=by rw [FF];exact EG _
   have stay:∀H4,Same H3 H4->L2I K N r pl a c d p n dv ns ks0 z H (i+1) [some (.ref r),some (.ref pl),some (.ref a),some (.int n),x4',some (.ref p),some (.str tt)] H4:=λH4 g=>⟨_,_,rs3,xs3,cs3,as3,rfl,sn3.trans (.of g),none_of hN3 g,⟨_,_,_,_,S3.mono g⟩,ri3,by omega⟩
   obtain⟨v3,k3,a3⟩:=hK.hq 3 (by decide);have h3l:=a3.1;have h3f:(xs3.filter λx=>decide (x.sl=3)).length<=100:=by
    have h1:(xs3.filter λx=>decide (x.sl=3)).length<=xs3.length:=EX _ _;have h2:xs3.length<=rs3.length:=ri3.sml.x (z,xs3) (by simp);omega
   have h3l':(xs3.filter λx=>decide (x.sl=3)).length=v3.length:=h3l;have hT3:=SqT.of (K:=K) hK.hp;walk_at "go";refine⟨trivial,Qz (λ_=>?_) (λ_=>stay _ (Same.refl _))⟩;simp only[Xi];walk_at "go";refine⟨qs3 ks0.length 3,rfl,⟨_,SqL.of k3⟩,Wo (xs:=v3) (CmI (xs3.filter λx=>decide (x.sl=3)) H3) ⟨none,rfl,Same.refl _,rfl⟩ (λi acc σ' H' _ h=>by obtain⟨_,_,g',_⟩:=h;exact g'.seq (SqL.of k3)) (by omega) ?_ ?_⟩
   ·rintro i v acc _ H4 hv hacc ⟨x0,rfl,g',rfl⟩;obtain⟨y,hy,hP'⟩:=a3.getV hv;obtain⟨_,hsl⟩:=Xe hy;obtain⟨z2,r2,s2,rfl⟩:=Jo hsl;obtain⟨p5,p6,rfl,hT5,_⟩:=Gx hP';have hT6:=g'.sqT hT5;simp only[Y6];walk_at "go";exact CN.mk (ZW hv) (by rw[FF,FK];omega) ⟨_,rfl,g',by rw[Et,hy,FR,FR];rfl⟩
   ·rintro acc _ H4 ⟨x0,rfl,g',rfl⟩ p1 hp1;rw[Eg (by omega)] at *;have ga:=g'.trans (Qg hp1 (.lst (((xs3.filter λx=>decide (x.sl=3)).map cnN).map V.str)));refine ZY (SqL.of Qe) ?_;generalize upd H4 p1 (.lst (((xs3.filter λx=>decide (x.sl=3)).map cnN).map V.str))=H5 at *;walk_at "go";refine Qz (λhm=>?_) (λ_=>stay _ ga);have hT4:=SqT.of (K:=K) (ga _ _ hK.hp);refine ZE hT4 rfl ⟨.inl ⟨rfl,_,SqL.of (ga _ _ k3)⟩,?_⟩;walk_at "go";refine QT (SqL.of (ga _ _ k3)) ?_;walk_at "go";refine⟨_,1,rfl,rfl,by omega,λp7 rr s' H6 g6 hrt hp7=>?_⟩;walk_at "go";refine⟨by decide,λp8 hp8=>?_⟩;have g7:=Qg hp8 (.tup [.str tt,.ref p7]);have k8:=Qe (H:=H6) (a:=p8) (o:=.tup [.str tt,.ref p7]);generalize upd H6 p8 (.tup [.str tt,.ref p7])=H7 at *;have gc:=(ga.trans g6).trans g7;have kq:=gc _ _ k3;have okx:(Itm.cnt tt rr s').Ok:=⟨hns tt tin,hrt⟩
    have lit:LIt K H7 (.cnt tt rr s') (.ref p8):=.cnt tt rr s' p8 p7 (SqT.of k8) (SqT.of (g7 _ _ hp7));have fi:YR xs3 (.cnt tt rr s'):=λy hy z2 r2 s2 e2 e3=>hm (EB.mpr ⟨y,Eu.mpr ⟨hy,by rw[e2];rfl⟩,by rw[e2];exact e3⟩)
    have S8:=(S3.mono gc).upX (x:=.cnt tt rr s') kq lit;have ri8:=ri3.itm okx fi (λz2 r2 s2 e=>by cases e;exact tin);have hN8:=Xb (c:=qs3 ks0.length 3) (o:=.lst (v3++[.ref p8])) (none_of hN3 gc);have sn8:=sn3.trans ((Sn.of gc).trans (Sn.put (o:=.lst (v3++[.ref p8])) (S3.nq ks0.length hlt 3 (by decide))));refine⟨qs3 ks0.length 3,_,_,rfl,rfl,kq,by rw[FN];omega,?_⟩;have kp:=Q4 (N:=λb=>b≠qs3 ks0.length 3) (o:=.lst (v3++[.ref p8])) kq λb h=>h
    have hp15:=SqT.of (K:=K) (kp _ _ (gc _ _ hK.hp) (.inr λvs e=>nomatch e));have k815:SqT K (upd H7 (qs3 ks0.length 3) (.lst (v3++[.ref p8]))) p8 [.str tt,.ref p7]:=kp.sqT (SqT.of k8);have k715:SqT K (upd H7 (qs3 ks0.length 3) (.lst (v3++[.ref p8]))) p7 [.int rr,.int s']:=kp.sqT (SqT.of (g7 _ _ hp7));have kq15:(upd H7 (qs3 ks0.length 3) (.lst (v3++[.ref p8]))) (qs3 ks0.length 3)=some (.lst (v3++[.ref p8])):=Qe;have S8:LwS K N ow3 (upd H7 (qs3 ks0.length 3) (.lst (v3++[.ref p8]))) a c (ps3++[p]) qs3 cvs3 [(6,r,txs rs3),(5,d,dv),(4,pl,ns.map V.str)] (ks0++[(z,xs3++[.cnt tt rr s'])]) cs3:=S8;generalize upd H7 (qs3 ks0.length 3) (.lst (v3++[.ref p8]))=H8 at *;walk_at "go";have hr8:=hr ⟨_,_,_,_,S8⟩;refine⟨.inl ⟨rfl,_,SqL.of hr8⟩,by decide,λp9 hp9=>?_⟩;have g9:=Qg hp9 (.tup [.str (Str.ofString "counts")]);refine ZE (g9.sqT hp15) rfl (QX (SqL.of (g9 _ _ kq15)) (Zf _ _) ?_);refine⟨p9,p8,_,_,rfl,rfl,SqT.of Qe,g9.sqT k815,by simp,by rw[FN];show 1+2<=_;decide,λe=>absurd e (by simp),λ_ p10 hp10=>?_⟩;have g10:=Qg hp10 (.tup ([.str (Str.ofString "counts")]++[.str tt,.ref p7]));refine⟨p10,_,(Itm.cnt tt rr s').srt::(Itm.cnt tt rr s').ws,rfl,SqT.of Qe,Qv (KD (Zi _ (Xw (.itm _))).2.1) (Qv (KD (ZH okx.1).2.1) (Qv (NT hrt ((g9.trans g10).sqT k715)) QV)),by show 3<=20;decide,λH11 g11=>?_⟩;have gg:=g9.trans (g10.trans g11);have S11:=(S8.mono gg).upB (ws:=txs rs3++[.str (Row.itm (.cnt tt rr s')).tx]) (by simp);refine⟨r,_,_,rfl,rfl,gg _ _ hr8,by rw[FH,FN];omega,?_⟩;show L2I K N r pl a c d p n dv ns ks0 z H (i+1) _ (upd H11 r (.lst (txs rs3++[.str (Row.itm (.cnt tt rr s')).tx])));rw[show txs rs3++[.str (Row.itm (.cnt tt rr s')).tx]=txs (rs3++[.itm (.cnt tt rr s')]) by simp[txs]] at *;exact⟨_,_,rs3++[.itm (.cnt tt rr s')],xs3++[.cnt tt rr s'],cs3,_,rfl,(sn8.trans (.of gg)).trans (Sn.put nr),Xb (none_of hN8 gg),⟨_,_,_,_,S11⟩,ri8,by rw[FF,FK];omega⟩
  ·rintro _ H3 ⟨x4',x6,rs3,xs3,cs3,as3,rfl,sn3,hN3,⟨ow3,ps3,qs3,cvs3,S3⟩,ri3,len3⟩;walk_at "go";rw[FH] at len3;refine q rs3 _ cs3 as3 _ sn3 hN3 ⟨_,_,_,_,S3⟩ ri3 (λy hy=>?_) (by omega);have:=all y hy;rw[FR] at this ⊢;exact this
theorem Q9 {ds:List D}(h:SqT K H p vs)(a:All2 (Rep K H) ds vs):Rep K H (.tup ds) (.ref p):=.tup h a.1 λi d x e1 e2=>a.2 i d x e1 e2
theorem Xy {ds:List D}(h:SqL K H p vs)(a:All2 (Rep K H) ds vs):Rep K H (.lst ds) (.ref p):=.lst h a.1 λi d x e1 e2=>a.2 i d x e1 e2
theorem Fp:(fB a).lookup (Str.ofString "amount")=some a:=by kernel_rfl
theorem Fo {l:V}:(fE a l h).lookup (Str.ofString "amount")=some a:=by kernel_rfl
theorem Fl {l:V}:(fE a l h).lookup (Str.ofString "low")=some l:=by kernel_rfl
theorem Fm {l:V}:(fE a l h).lookup (Str.ofString "high")=some h:=by kernel_rfl
theorem Fj {r m:V}:(fR r m).lookup (Str.ofString "rate")=some r:=by kernel_rfl
theorem Fk {r m:V}:(fR r m).lookup (Str.ofString "most")=some m:=by kernel_rfl
theorem Ht {n l:V}:(fT n l h).lookup (Str.ofString "many")=some n:=by kernel_rfl
theorem Hu {n l:V}:(fT n l h).lookup (Str.ofString "low")=some l:=by kernel_rfl
theorem Hv {n l:V}:(fT n l h).lookup (Str.ofString "high")=some h:=by kernel_rfl
theorem Ga {y:Addr}{v0:V}(h:SqT K H y (v0::vs))(q:∀p,H p=none->Q (.ref p) (upd H p (.tup vs))):Pb K (.ref y) (some 1) none H Q:=by
 refine⟨y,_,rfl,h,λe=>?_,λp hp=>?_⟩
 ·have h1:=e.1;have h2:HT.sIx (v0::vs).length 0 (some 1)=1:=by
   unfold HT.sIx;simp
  rw[h2] at h1;cases h1
 ·rw[show X5 (v0::vs) (some 1) none=vs from WT _ 1];exact q p hp
theorem Vx {d:D}(h1:Rep K H d (.ref p))(h2:Rep K H d (.ref r))(hd:DB 30 d)(q:Q (.bl true) H):sEq K (.ref p) (.ref r) H Q:=BO h1 h2 hd ⟨λ_=>rfl,λ_=>rfl⟩ q
theorem U9 {d:D}(h1:Rep K H d (.ref p))(h2:Rep K H d (.ref r))(hd:DB 30 d)(q:Q (.bl false) H):sNe K (.ref p) (.ref r) H Q:=Gb h1 h2 hd (b:=true) ⟨λ_=>rfl,λ_=>rfl⟩ q
theorem db3 {a b c:Int}:DB (n+1) (.tup [.int a,.int b,.int c]):=.tup λd hd=>by
 simp at hd;rcases hd with rfl|rfl|rfl<;>exact .int _
theorem NP {a b c:Int}:All2 (Rep K H) [.int a,.int b,.int c] [.int a,.int b,.int c]:=Qv (.int a) (Qv (.int b) (Qv (.int c) QV))
inductive φisp (K:W.Frag)(t:Adr)(x y:V)(H:Hp)(Q:VK):Prop
 | mk (i:Itm) (h1:PIt K t H i x) (h2:LIt K H i y) (h3:i.sl=0) (h4:∀H',Same H H'->Q (.bl true) H'):φisp K t x y H Q
theorem Vc (T:Tx w K mg t)(F:Fun K "_law_is_part" "_law_is_part" Z7 f fd):FnOk P w K mg base CX0 1 f fd ["_law_found","_law_part_here"] (Sp2 (φisp K t)):=by
 refine F.ok KR YS (λcdv A outer s H vs Q E hr h=>?_);obtain⟨_,_,rfl,i,hp,hl,hs,q⟩:=h;refine⟨_,((Qc (Qy (Qj (eqM K rfl hr.units) (Qp (ixK K rfl) (pu 1) Qd (λ_ _=>rfl)) Qn (Qk _)) (Qf (Ql (XA (Qs (Kd K rfl) (by rfl) T.aV boot_isinstance (Qa (pu 0) (Qa (ZO (v:=.ref _) rfl T.cN rfl) Qb))) (Ys (Zj (eqM K rfl hr.units) (QB K rfl (pu 0)) (Qp (ixK K rfl) (pu 1) Qd (λ_ _=>rfl)) (Qk _)))))) Qo)
   (Qc (Qy (Qj (eqM K rfl hr.units) (Qp (ixK K rfl) (pu 1) Qd (λ_ _=>rfl)) Qn (Qk _)) (Qf (Ql (XA (Qs (Kd K rfl) (by rfl) T.aV boot_isinstance (Qa (pu 0) (Qa (ZO (v:=.ref _) rfl T.cP rfl) Qb))) (Ys (Zj (eqM K rfl hr.units) (QU (Qa (QB K rfl (pu 0)) (Qa (QB K rfl (pu 0)) (Qa (QB K rfl (pu 0)) Qb)))) (Zp (RV K rfl) (pu 1) (Zv Qd) ZN) (Qk _)))))) Qo)
   (Qf (Ql (XA (Qs (Kd K rfl) (by rfl) T.aV boot_isinstance (Qa (pu 0) (Qa (ZO (v:=.ref _) rfl T.cQ rfl) Qb))) (Ys (Zj (eqM K rfl hr.units) (QU (Qa (QB K rfl (pu 0)) (Qa (QB K rfl (pu 0)) Qb))) (Zp (RV K rfl) (pu 1) (Zv Qd) ZN) (Qk _))))))))),?_⟩
 cases hp with
 | base n x dx hx=>
  cases hl with
  | base _ y hy=>
   walk_at "go";refine WX (T.i8.ty T.cE hx) T.gZ ?_;walk_at "go";refine Q7 hx T.cE T.d6 Fp ?_;walk_at "go";rw[Ef True.intro];exact q _ (Same.refl _)
 | each n l h' x dx hx=>
  cases hl with
  | each _ _ _ y hy=>
   walk_at "go";refine WX (T.i9.ty T.bJ hx) T.hG ?_;walk_at "go";refine Q7 hx T.bJ T.d7 Fo (Q7 hx T.bJ T.d8 Fl (Q7 hx T.bJ T.d9 Fm ⟨by decide,λp1 hp1=>?_⟩));have g1:=Qg hp1 (.tup [.int n,.int l,.int h']);have k1:=SqT.of (K:=K) (Qe (H:=H) (a:=p1) (o:=.tup [.int n,.int l,.int h']));generalize upd H p1 (.tup [.int n,.int l,.int h'])=H1 at *;refine Ga (g1.sqT hy) λp2 hp2=>?_
   have g2:=Qg hp2 (.tup [.int n,.int l,.int h']);exact Vx (Q9 (g2.sqT k1) NP) (Q9 (SqT.of Qe) NP) db3 (q _ (g1.trans g2))
 | rent r s' m x dx p hx hp=>
  cases hl with
  | rent _ _ _ y p' hy hp'=>
   walk_at "go";refine Qz (λe=>absurd e (by decide +kernel)) (λ_=>?_);refine WX (T.iA.ty T.bN hx) T.hJ ?_;walk_at "go";refine Q7 hx T.bN T.dA Fj (Q7 hx T.bN T.dB Fk ⟨by decide,λp1 hp1=>?_⟩);have g1:=Qg hp1 (.tup [.ref p,.int m]);have k1:=SqT.of (K:=K) (Qe (H:=H) (a:=p1) (o:=.tup [.ref p,.int m]));generalize upd H p1 (.tup [.ref p,.int m])=H1 at *;refine Ga (g1.sqT hy) λp2 hp2=>?_
   have g2:=Qg hp2 (.tup [.ref p',.int m]);have gg:=g1.trans g2;have db:DB 30 (.tup [fr r s',.int m]):=.tup λd hd=>by
    simp at hd;rcases hd with rfl|rfl
    ·exact Uc
    ·exact .int _
   exact Vx (Q9 (g2.sqT k1) (Qv (X0 (gg.sqT hp)) (Qv (.int m) QV))) (Q9 (SqT.of Qe) (Qv (X0 (gg.sqT hp')) (Qv (.int m) QV))) db (q _ gg)
 | _=>simp[Itm.sl] at hs
inductive φist (K:W.Frag)(t:Adr)(x y:V)(H:Hp)(Q:VK):Prop
 | mk (i:Itm) (h1:PIt K t H i x) (h2:LIt K H i y) (h3:i.sl=1) (h4:∀H',Same H H'->Q (.bl true) H'):φist K t x y H Q
theorem Vb (T:Tx w K mg t)(F:Fun K "_law_is_term" "_law_is_term" Z6 f fd):FnOk P w K mg base CX0 1 f fd ["_law_found","_law_term_here"] (Sp2 (φist K t)):=by
 refine F.ok sc_l_is_term YS (λcdv A outer s H vs Q E hr h=>?_);obtain⟨_,_,rfl,i,hp,hl,hs,q⟩:=h;refine⟨_,((Qc (Qy (Qj (eqM K rfl hr.units) (Qp (ixK K rfl) (pu 1) Qd (λ_ _=>rfl)) Qn (Qk _)) (Qf (Qw (i:=2) sc_l_is_term.nd rfl (Or.inl rfl) (Qs (Kd K rfl) (by rfl) T.aV boot_isinstance (Qa (pu 0) (Qa (ZO (v:=.ref _) rfl T.cR rfl) Qb))))) (Qf (Qw (i:=2) sc_l_is_term.nd rfl (Or.inl rfl) (Qs (Kd K rfl) (by rfl) T.aV boot_isinstance (Qa (pu 0) (Qa (ZO (v:=.ref _) rfl T.cT rfl) Qb))))))
   (Qf (Ql (XA (pu 2) (Ys (Zj (eqM K rfl hr.units) (QU (Qa (QB K rfl (pu 0)) (Qa (QB K rfl (pu 0)) (Qa (QB K rfl (pu 0)) Qb)))) (Zp (RV K rfl) (pu 1) (Zv Qd) ZN) (Qk _)))))))),?_⟩
 cases hp with
 | from' n l h' x dx hx=>
  cases hl with
  | from' _ _ _ y hy=>
   walk_at "go";refine WX (T.iB.ty T.bK hx) T.hV ?_;walk_at "go";refine Q7 hx T.bK T.dC Ht (Q7 hx T.bK T.dE Hu (Q7 hx T.bK T.dF Hv ⟨by decide,λp1 hp1=>?_⟩));have g1:=Qg hp1 (.tup [.int n,.int l,.int h']);have k1:=SqT.of (K:=K) (Qe (H:=H) (a:=p1) (o:=.tup [.int n,.int l,.int h']));generalize upd H p1 (.tup [.int n,.int l,.int h'])=H1 at *;refine Ga (g1.sqT hy) λp2 hp2=>?_
   have g2:=Qg hp2 (.tup [.int n,.int l,.int h']);exact Vx (Q9 (g2.sqT k1) NP) (Q9 (SqT.of Qe) NP) db3 (q _ (g1.trans g2))
 | upto n l h' x dx hx=>
  cases hl with
  | upto _ _ _ y hy=>
   walk_at "go";refine Qz (λe=>absurd e (by decide +kernel)) (λ_=>?_);refine WX (T.iC.ty T.bL hx) T.hX ?_;walk_at "go";refine Q7 hx T.bL T.dG Ht (Q7 hx T.bL T.dH Hu (Q7 hx T.bL T.dI Hv ⟨by decide,λp1 hp1=>?_⟩));have g1:=Qg hp1 (.tup [.int n,.int l,.int h']);have k1:=SqT.of (K:=K) (Qe (H:=H) (a:=p1) (o:=.tup [.int n,.int l,.int h']));generalize upd H p1 (.tup [.int n,.int l,.int h'])=H1 at *;refine Ga (g1.sqT hy) λp2 hp2=>?_
   have g2:=Qg hp2 (.tup [.int n,.int l,.int h']);exact Vx (Q9 (g2.sqT k1) NP) (Q9 (SqT.of Qe) NP) db3 (q _ (g1.trans g2))
 | _=>simp[Itm.sl] at hs
def dU:Itm->D
 | .unt a=>.int a|_=>.non
def dD:Itm->D
 | .pay r s l h=>.tup [fr r s,.int l,.int h]|.cnt z r s=>.tup [.str z,fr r s]|.off l r s=>.tup [.int l,fr r s]|_=>.non
theorem HC (i:Itm):DB 29 (dD i):=by
 cases i with
 | pay r s l h=>
  refine .tup λd hd=>?_
  simp at hd;rcases hd with rfl|rfl|rfl
  ·exact Uc
  ·exact .int _
  ·exact .int _
 | cnt z r s=>
  refine .tup λd hd=>?_
  simp at hd;rcases hd with rfl|rfl
  ·exact .str _
  ·exact Uc
 | off l r s=>
  refine .tup λd hd=>?_
  simp at hd;rcases hd with rfl|rfl
  ·exact .int _
  ·exact Uc
 | _=>exact .non
theorem Tg (l:List Itm):DB 30 (.lst (l.map dD)):=.lst λd hd=>by
 obtain⟨i,_,rfl⟩:=EB.mp hd;exact HC i
theorem LO {i:Itm}(h:PIt K t H i v)(hs:i.sl=2∨i.sl=3∨i.sl=4):Rep K H (dD i) v:=by
 cases h with
 | pay r s l h' x p h hp=>exact Q9 h (Qv (X0 hp) (Qv (.int l) (Qv (.int h') QV)))
 | cnt z r s x p h hp=>exact Q9 h (Qv (.str z) (Qv (X0 hp) QV))
 | off l r s x p h hp=>exact Q9 h (Qv (.int l) (Qv (X0 hp) QV))
 | _=>simp[Itm.sl] at hs
theorem Bf {i:Itm}(h:LIt K H i v)(hs:i.sl=2∨i.sl=3∨i.sl=4):Rep K H (dD i) v:=by
 cases h with
 | pay r s l h' x p h hp=>exact Q9 h (Qv (X0 hp) (Qv (.int l) (Qv (.int h') QV)))
 | cnt z r s x p h hp=>exact Q9 h (Qv (.str z) (Qv (X0 hp) QV))
 | off l r s x p h hp=>exact Q9 h (Qv (.int l) (Qv (X0 hp) QV))
 | _=>simp[Itm.sl] at hs
theorem GQ {R:Itm->V->Prop}{l:List Itm}(h:All2 R l vs)(f:∀i∈l,∀v,R i v->Rep K H (dD i) v):All2 (Rep K H) (l.map dD) vs:=⟨by rw[FH];exact h.1,λi d v hd hv=>by
 rw[F0] at hd;obtain⟨x,hx,rfl⟩:=F6.mp hd;exact f x (EE hx) v (h.2 i x v hx hv)⟩
theorem Be {m q:Addr}{xs:List Itm}{j:Nat}{us:List V}(hm:H m=some (.lst vs))(a:All2 (PIt K t H) (xs.filter λx=>decide (x.sl=j)) vs)(hq:H q=some (.lst us))(b:All2 (LIt K H) (xs.filter λx=>decide (x.sl=j)) us)(hj:j=2∨j=3∨j=4)(k:Q (.bl false) H):sNe K (.ref m) (.ref q) H Q:=by
 have hs:∀i∈xs.filter λx=>decide (x.sl=j),i.sl=2∨i.sl=3∨i.sl=4:=λi hi=>by
  have:=EI (Eu.mp hi).2;rw[this];exact hj
 exact U9 (Xy (SqL.of hm) (GQ a λi hi v h=>LO h (hs i hi))) (Xy (SqL.of hq) (GQ b λi hi v h=>Bf h (hs i hi))) (Tg _) k
inductive φisk (K:W.Frag)(t:Adr)(x y:V)(H:Hp)(Q:VK):Prop
 | mk (N:Addr->Prop) (k:Str×List Itm) (p:Addr) (q:Nat->Addr) (h1:KdR K t N H k x) (h2:y=.ref p) (h3:KL K H p k.1 k.2 q) (h5:k.2.length<=1000) (h4:∀H',Same H H'->Q (.bl true) H'):φisk K t x y H Q
def IkI (v0 v1 v2 v3 v4 v5 v6 v7 v8 v9:V)(H:Hp)(i:Nat)(σ':L2.St)(H':Hp):Prop:=∃x10:Option V,σ'=[some v0,some v1,some v2,some v3,some v4,some v5,some v6,some v7,some v8,some v9,x10]/\Same H H'
theorem Vd (T:Tx w K mg t)(F:Fun K "_law_is_kind" "_law_is_kind" Z8 f fd)(f9:Cal P w K mg base 1 "_law_is_term" ["_law_found","_law_term_here"] (Sp2M (φist K t)))(fG:Cal P w K mg base 1 "_law_is_part" ["_law_found","_law_part_here"] (Sp2M (φisp K t))):FnOk P w K mg base CX0 2 f fd ["_law_found","_law_kind_here"] (Sp2 (φisk K t)):=by
 refine F.ok sc_l_is_kind YS (λcdv A outer s H vs Q E hr h=>?_);obtain⟨_,_,rfl,N,⟨z,xs⟩,p,q',⟨x,dx,li,un,wa,m,rfl,hx,hm,hli,hun⟩,rfl,hK,hxl,q⟩:=h;refine⟨_,((Qc (KZ (pu 1) (pgK (n:=8) K rfl rfl (QJ (QA (i:=2) sc_l_is_kind.nd rfl (Or.inl rfl)) (QJ (QA (i:=3) sc_l_is_kind.nd rfl (Or.inl rfl)) (QJ (QA (i:=4) sc_l_is_kind.nd rfl (Or.inl rfl)) (QJ (QA (i:=5) sc_l_is_kind.nd rfl (Or.inl rfl)) (QJ (QA (i:=6) sc_l_is_kind.nd rfl (Or.inl rfl)) (QJ (QA (i:=7) sc_l_is_kind.nd rfl (Or.inl rfl)) (QJ (QA (i:=8) sc_l_is_kind.nd rfl (Or.inl rfl)) (QJ (QA (i:=9) sc_l_is_kind.nd rfl (Or.inl rfl)) Xq))))))))))
   (Qc (Qy (PW.pt (Xo (Xp (Zu (Qs (Kd K rfl) (by rfl) T.aV boot_isinstance (Qa (pu 0) (Qa (ZO (v:=.ref _) rfl T.cK rfl) Qb))))) (Xd (Qj (neM K rfl hr.units) (QB K rfl (pu 0)) (pu 2) (Qk _))))) (Qf (Ql Xf)) Qo)
   (Qc (Qy (PW.pt (Xo (Qj (neM K rfl hr.units) (Qs (Zr K rfl) (by rfl) T.aB FO (Qa (QB K rfl (pu 0)) Qb)) (Qs (Zr K rfl) (by rfl) T.aB FO (Qa (pu 3) Qb)) (Qk _)) (Xd (Qj (neM K rfl hr.units) (Qs (Zr K rfl) (by rfl) T.aB FO (Qa (QB K rfl (pu 0)) Qb)) (Qs (Zr K rfl) (by rfl) T.aB FO (Qa (pu 4) Qb)) (Qk _))))) (Qf (Ql Xf)) Qo)
   (Qc (ZG Er rfl (ZU rfl T.bH (Qa (Qs (Zr K rfl) (by rfl) T.aB FO (Qa (pu 3) Qb)) Qb)) (QA (i:=10) sc_l_is_kind.nd rfl (Or.inl rfl))
   (Qf (Qy (Xp (Zu (Qt fG (hrm hr) rfl (Qa (Qp (ixK K rfl) (QB K rfl (pu 0)) (pu 10) (λ_ _=>rfl)) (Qa (Qp (ixK K rfl) (pu 3) (pu 10) (λ_ _=>rfl)) Qb))))) (Qf (Ql Xf)) Qo)))
   (Qc (ZG Er rfl (ZU rfl T.bH (Qa (Qs (Zr K rfl) (by rfl) T.aB FO (Qa (pu 4) Qb)) Qb)) (QA (i:=10) sc_l_is_kind.nd rfl (Or.inl rfl))
   (Qf (Qy (Xp (Zu (Qt f9 (hrm hr) rfl (Qa (Qp (ixK K rfl) (QB K rfl (pu 0)) (pu 10) (λ_ _=>rfl)) (Qa (Qp (ixK K rfl) (pu 4) (pu 10) (λ_ _=>rfl)) Qb))))) (Qf (Ql Xf)) Qo)))
   (Qc (Qy (PW.pt (Xo (Qj (neM K rfl hr.units) (QB K rfl (pu 0)) (pu 5) (Qk _)) (Xo (Qj (neM K rfl hr.units) (QB K rfl (pu 0)) (pu 6) (Qk _)) (Xd (Qj (neM K rfl hr.units) (QB K rfl (pu 0)) (pu 7) (Qk _)))))) (Qf (Ql Xf)) Qo)
   (Qc (Qy (PW.pt (Xo (PW.pt (ZF (Qj (Vn K rfl hr.units) (pu 8) (QF Qb) (Qk _)) (Zt (Qj L5 (QB K rfl (pu 0)) K1 (Qk _))))) (Xd (PW.pt (ZF (Qj (neM K rfl hr.units) (pu 8) (QF Qb) (Qk _)) (Zt (Qj (neM K rfl hr.units) (QB K rfl (pu 0)) (Qp (ixK K rfl) (pu 8) Qd (λ_ _=>rfl)) (Qk _)))))))) (Qf (Ql Xf)) Qo)
   (Qc (Qy (Qj (Vn K rfl hr.units) (pu 9) (QF Qb) (Qk _)) (Qf (Ql (Zj Px (QB K rfl (pu 0)) K1 (Qk _)))) Qo)
   (Qf (Ql (Zj (eqM K rfl hr.units) (QU (Qa (QB K rfl (pu 0)) (Qa (QB K rfl (pu 0)) Qb))) (Qp (ixK K rfl) (pu 9) Qd (λ_ _=>rfl)) (Qk _))))))))))))),?_⟩
 have hT:=SqT.of (K:=K) hK.hp;have hfl:∀j,(xs.filter λy=>decide (y.sl=j)).length<=1000:=λj=>F2 (EX _ _) hxl
 generalize hR9:Y9 (W3 (uB (tOp (RX K) (X7 9) _)) _ _) _=R9;generalize hR8:Y9 (W3 (tOr (KI _ _) _) _ _) _=R8;generalize hR7:Y9 (W3 (tOr (uB (tOp (sNe K) (Lq K (X7 0) (Str.ofString "pays")) _)) _) _ _) _=R7;have hx:H x=some (.ins t.aC dx (kF (.str z) (.ref (m 0)) (.ref (m 1)) (.ref (m 2)) (.ref (m 3)) (.ref (m 4)) li un wa)):=hx;have hK:KL K H p z xs q':=hK;have hm:∀j<5,N (m j)/\∃vs,H (m j)=some (.lst vs)/\All2 (PIt K t H) (xs.filter λx=>decide (x.sl=j)) vs:=hm;have key9:∀(D:Q6) (x10:Option V) (H1:Hp),D.rt=Q->Same H H1->R9 D [some (.ref x),some (.ref p),some (.str z),some (.ref (q' 0)),some (.ref (q' 1)),some (.ref (q' 2)),some (.ref (q' 3)),some (.ref (q' 4)),some (.ref (q' 5)),some (.ref (q' 6)),x10] H1:=by
  subst hR9;intro D x10 H1 hD g;walk_at "go";rw[hD];obtain⟨u6,k6,a6⟩:=hK.hq 6 (by decide);refine⟨by decide,λp1 hp1=>?_⟩;have g1:=g.trans (Qg hp1 (.lst []));refine Xg (SqL.of (g1 _ _ k6)) (SqL.of Qe) ?_;generalize upd H1 p1 (.lst [])=H2 at *;walk_at "go";cases u6 with
  | nil=>
   refine Qz (λ_=>?_) (λe=>absurd rfl e);have e6:(xs.filter λx=>decide (x.sl=6))=[]:=List.eq_nil_of_length_eq_zero a6.1;have hun:un=.non:=by
    have h:=hun;rw[show((z,xs).2.filter λx=>decide (x.sl=6))=[] from e6] at h;exact h
   refine Q7 (g1 _ _ hx) T.aD T.c9 Gz ?_;rw[hun];exact⟨trivial,by rw[Ef rfl];exact q _ g1⟩
  | cons v r=>
   refine Qz (λe=>absurd e (by simp)) (λ_=>?_);obtain⟨y,hy,hL⟩:=a6.getV (i:=0) (v:=v) rfl;obtain⟨_,hsl⟩:=Xe hy;obtain⟨u,zw,rfl⟩:=N4 hsl;obtain⟨un',wa'⟩:un=.int u/\wa=.str zw:=by
    have h:=hun;cases e2:xs.filter λx=>decide (x.sl=6) with
    | nil=>rw[e2] at hy;cases hy
    | cons y2 r2=>
     rw[e2] at hy;cases hy;rw[show((z,xs).2.filter λx=>decide (x.sl=6))=.rnd u zw::r2 from e2] at h;exact h
   subst un' wa';cases hL with
   | rnd _ _ pr hT6=>
   refine Q7 (g1 _ _ hx) T.aD T.c9 Gz (Q7 (g1 _ _ hx) T.aD T.cZ PX ⟨by decide,λp2 hp2=>?_⟩);have g2:=Qg hp2 (.tup [.int u,.str zw]);have gg:=g1.trans g2;refine QX (SqL.of (gg _ _ k6)) (QW (j:=0) rfl) ?_;have db:DB 30 (.tup [.int u,.str zw]):=.tup λd hd=>by
    simp at hd;rcases hd with rfl|rfl
    ·exact .int _
    ·exact .str _
   exact Vx (Q9 (SqT.of Qe) (Qv (.int u) (Qv (.str zw) QV))) (Q9 (gg.sqT hT6) (Qv (.int u) (Qv (.str zw) QV))) db (q _ gg)
 have key8:∀(D:Q6) (x10:Option V) (H1:Hp),D.rt=Q->Same H H1->R8 D [some (.ref x),some (.ref p),some (.str z),some (.ref (q' 0)),some (.ref (q' 1)),some (.ref (q' 2)),some (.ref (q' 3)),some (.ref (q' 4)),some (.ref (q' 5)),some (.ref (q' 6)),x10] H1:=by
  subst hR8;intro D x10 H1 hD g;walk_at "go";obtain⟨u5,k5,a5⟩:=hK.hq 5 (by decide);refine⟨by decide,λp1 hp1=>?_⟩;have g1:=g.trans (Qg hp1 (.lst []));refine Xg (SqL.of (g1 _ _ k5)) (SqL.of Qe) ?_;generalize upd H1 p1 (.lst [])=H2 at *;walk_at "go";cases u5 with
  | nil=>
   refine Qz (λ_=>?_) (λe=>absurd rfl e);have e5:(xs.filter λx=>decide (x.sl=5))=[]:=List.eq_nil_of_length_eq_zero a5.1;have hli:li=.non:=by
    have h:=hli;rw[show((z,xs).2.filter λx=>decide (x.sl=5))=[] from e5] at h;exact h
   refine Q7 (g1 _ _ hx) T.aD T.c8 V1 ⟨trivial,?_⟩;rw[FC (by rw[hli];simp)];refine⟨by decide,λp2 hp2=>?_⟩;have g2:=g1.trans (Qg hp2 (.lst []));have r1:Rep K (upd H2 p2 (.lst [])) (.lst []) (.ref (q' 5)):=Xy (SqL.of (g2 _ _ k5)) QV;have r2:Rep K (upd H2 p2 (.lst [])) (.lst []) (.ref p2):=Xy (SqL.of Qe) QV;have r3:DB 30 (.lst []):=.lst λd hd=>by cases hd
   refine Gb r1 r2 r3 (b:=true) ⟨λ_=>rfl,λ_=>rfl⟩ ?_;walk_at "go";exact key9 _ _ _ hD g2
  | cons v r=>
   refine Qz (λe=>absurd e (by simp)) (λ_=>?_);obtain⟨y,hy,hL⟩:=a5.getV (i:=0) (v:=v) rfl;obtain⟨_,hsl⟩:=Xe hy;obtain⟨n,rfl⟩:=KO hsl;have hli:li=.int n:=by
    have h:=hli;cases e2:xs.filter λx=>decide (x.sl=5) with
    | nil=>rw[e2] at hy;cases hy
    | cons y2 r2=>
     rw[e2] at hy;cases hy;rw[show((z,xs).2.filter λx=>decide (x.sl=5))=.unt n::r2 from e2] at h;exact h
   subst hli;refine⟨by decide,λp2 hp2=>?_⟩;have g2:=g1.trans (Qg hp2 (.lst []));have al:All2 (Rep K (upd H2 p2 (.lst []))) ((xs.filter λx=>decide (x.sl=5)).map dU) (v::r):=⟨by rw[FH];exact a5.1,λi d v hd hv=>by
    rw[F0] at hd;obtain⟨y,hy,rfl⟩:=F6.mp hd;obtain⟨_,hs⟩:=Xe hy;obtain⟨b,rfl⟩:=KO hs;have:=a5.2 i _ v hy hv;cases this;exact .int b⟩
   have db:DB 30 (.lst ((xs.filter λx=>decide (x.sl=5)).map dU)):=.lst λd hd=>by
    obtain⟨y,hy,rfl⟩:=EB.mp hd;obtain⟨b,rfl⟩:=KO (EI (Eu.mp hy).2);exact .int b
   have r2:Rep K (upd H2 p2 (.lst [])) (.lst []) (.ref p2):=Xy (SqL.of Qe) QV;refine Gb (Xy (SqL.of (g2 _ _ k5)) al) r2 db (b:=false) ⟨(λe=>by cases e),λe=>?_⟩ ?_
   ·injection e with e
    have h1:=al.1;rw[e] at h1;simp at h1
   walk_at "go";refine Q7 (g2 _ _ hx) T.aD T.c8 V1 (QX (SqL.of (g2 _ _ k5)) (QW (j:=0) rfl) ?_);cases hL;walk_at "go";exact key9 _ _ _ hD g2
 have key7:∀(D:Q6) (x10:Option V) (H1:Hp),D.rt=Q->Same H H1->R7 D [some (.ref x),some (.ref p),some (.str z),some (.ref (q' 0)),some (.ref (q' 1)),some (.ref (q' 2)),some (.ref (q' 3)),some (.ref (q' 4)),some (.ref (q' 5)),some (.ref (q' 6)),x10] H1:=by
  subst hR7;intro D x10 H1 hD g;have kp:Kp (λ_=>True) H H1:=.of g;have ne:∀j,j=2∨j=3∨j=4->∀Q':VK,Q' (.bl false) H1->sNe K (.ref (m j)) (.ref (q' j)) H1 Q':=λj hj Q' k=>by
   obtain⟨_,w2,j2,b2⟩:=hm j (by omega);obtain⟨u2,k2,a2⟩:=hK.hq j (by omega);exact Be (g _ _ j2) (X1 kp b2) (g _ _ k2) (YH kp a2) hj k
  walk_at "go";refine Q7 (g _ _ hx) T.aD T.cW Bi (ne 2 (by decide) _ ?_);walk_at "go";refine Q7 (g _ _ hx) T.aD T.cX Np (ne 3 (by decide) _ ?_);walk_at "go";refine Q7 (g _ _ hx) T.aD T.cY Bj (ne 4 (by decide) _ ?_);walk_at "go";exact key8 _ _ _ hD g
 obtain ⟨_,w0,j0,b0⟩:=hm 0 (by decide);obtain ⟨_,w1,j1,b1⟩:=hm 1 (by decide);obtain ⟨u0,k0,a0⟩:=hK.hq 0 (by decide);obtain ⟨u1,k1,a1⟩:=hK.hq 1 (by decide);have l0:=b0.1;have l0':=a0.1;have l1:=b1.1;have l1':=a1.1;have f0:=hfl 0;have f1:=hfl 1;walk_at "go";refine WX (T.hZ.ty T.aD hx) T.gW ?_;walk_at "go";refine Q7 hx T.aD T.cV MH ?_;walk_at "go";refine Q7 hx T.aD T.bZ V0 (QT (SqL.of j0) (QT (SqL.of k0) ?_));walk_at "go";refine Qz (fun e=>absurd (by rw [<-l0,<-l0']) e) (fun _=>?_);refine Q7 hx T.aD T.c7 VZ (QT (SqL.of j1) (QT (SqL.of k1) ?_));walk_at "go";refine Qz (fun e=>absurd (by rw [<-l1,<-l1']) e) (fun _=>?_);refine QT (SqL.of k0) ?_;walk_at "go";refine ⟨by omega,by omega,U3 (IkI (.ref x) (.ref p) (.str z) (.ref (q' 0)) (.ref (q' 1)) (.ref (q' 2)) (.ref (q' 3)) (.ref (q' 4)) (.ref (q' 5)) (.ref (q' 6)) H) ⟨none,rfl,Same.refl _⟩ ?_ ?_⟩
 ·rintro i _ H2 hi ⟨x10,rfl,g⟩;walk_at "go";refine Q7 (g _ _ hx) T.aD T.bZ V0 ?_;obtain⟨v,hv⟩:∃v,w0[i]?=some v:=⟨_,FI (by omega)⟩
  obtain⟨u,hu⟩:∃v,u0[i]?=some v:=⟨_,FI (by omega)⟩
  rw[show(0+(i:Int))=(i:Int) by omega];obtain⟨y,hy,hP⟩:=b0.getV hv;refine QX (SqL.of (g _ _ j0)) (QW hv) (QX (SqL.of (g _ _ k0)) (QW hu) ⟨y,hP.kp (N:=λ_=>True) (.of g),(a0.2 i y u hy hu).kp (N:=λ_=>True) (.of g),(Xe hy).2,λH3 g3=>?_⟩);walk_at "go";exact⟨_,rfl,g.trans g3⟩
 ·rintro _ H2 ⟨x10,rfl,g⟩;walk_at "go";refine QT (SqL.of (g _ _ k1)) ?_;walk_at "go";refine⟨by omega,by omega,U3 (IkI (.ref x) (.ref p) (.str z) (.ref (q' 0)) (.ref (q' 1)) (.ref (q' 2)) (.ref (q' 3)) (.ref (q' 4)) (.ref (q' 5)) (.ref (q' 6)) H) ⟨_,rfl,g⟩ ?_ ?_⟩
  ·rintro i _ H2 hi ⟨x10,rfl,g⟩;walk_at "go";refine Q7 (g _ _ hx) T.aD T.c7 VZ ?_;obtain⟨v,hv⟩:∃v,w1[i]?=some v:=⟨_,FI (by omega)⟩
   obtain⟨u,hu⟩:∃v,u1[i]?=some v:=⟨_,FI (by omega)⟩
   rw[show(0+(i:Int))=(i:Int) by omega];obtain⟨y,hy,hP⟩:=b1.getV hv;refine QX (SqL.of (g _ _ j1)) (QW hv) (QX (SqL.of (g _ _ k1)) (QW hu) ⟨y,hP.kp (N:=λ_=>True) (.of g),(a1.2 i y u hy hu).kp (N:=λ_=>True) (.of g),(Xe hy).2,λH3 g3=>?_⟩);walk_at "go";exact⟨_,rfl,g.trans g3⟩
  ·rintro _ H3 ⟨x10,rfl,g3⟩;exact key7 _ _ _ rfl g3
theorem VS:(oF a b).lookup (Str.ofString "kinds")=some a:=by kernel_rfl
theorem Gu:(oF a b).lookup (Str.ofString "caps")=some b:=by kernel_rfl
inductive φiso (K:W.Frag)(t:Adr)(x y z:V)(H:Hp)(Q:VK):Prop
 | mk (N M:Addr->Prop) (a c:Addr) (bs:List (Nat×Addr×List V)) (ks:List (Str×List Itm)) (cs:List Cp) (h1:OfR K t N H x ks cs) (h2:y=.ref a) (h3:z=.ref c) (h4:LwR K M H a c bs ks cs) (h5:ks.length<=100) (h6:cs.length<=100) (h7:∀k∈ks,k.2.length<=1000) (q:∀H',Same H H'->Q (.bl true) H'):φiso K t x y z H Q
def IoI (v0 v1 v2:V)(H:Hp)(i:Nat)(σ':L2.St)(H':Hp):Prop:=∃x3 x4:Option V,σ'=[some v0,some v1,some v2,x3,x4]/\Same H H'
theorem Jz (T:Tx w K mg t)(F:Fun K "_law_is_office" "_law_is_office" Zy f fd)(fI:Cal P w K mg base 2 "_law_is_kind" ["_law_found","_law_kind_here"] (Sp2M (φisk K t))):FnOk P w K mg base CX0 3 f fd ["_law_found","_law_kinds","_law_caps"] (Sp3 (φiso K t)):=by
 refine F.ok sc_l_is_office KM (λcdv A outer s H vs Q E hr h=>?_);obtain⟨_,_,_,rfl,N,M,a,c,bs,ks,cs,⟨x,dx,m1,m2,kvs,cvs,rfl,hx,_,_,j1,j2,hk,hc⟩,rfl,rfl,⟨ow,ps,qs,lvs,S⟩,kl,cl,xl,q⟩:=h;refine⟨_,((Qc (Qy (PW.pt (Xo (Xp (Zu (Qs (Kd K rfl) (by rfl) T.aV boot_isinstance (Qa (pu 0) (Qa (ZO (v:=.ref _) rfl T.cM rfl) Qb))))) (Xo (Qj (neM K rfl hr.units) (Qs (Zr K rfl) (by rfl) T.aB FO (Qa (QB K rfl (pu 0)) Qb)) (Qs (Zr K rfl) (by rfl) T.aB FO (Qa (pu 1) Qb)) (Qk _)) (Xd (Qj (neM K rfl hr.units) (Qs (Zr K rfl) (by rfl) T.aB FO (Qa (QB K rfl (pu 0)) Qb)) (Qs (Zr K rfl) (by rfl) T.aB FO (Qa (pu 2) Qb)) (Qk _)))))) (Qf (Ql Xf)) Qo)
   (Qc (ZG Er rfl (ZU rfl T.bH (Qa (Qs (Zr K rfl) (by rfl) T.aB FO (Qa (pu 1) Qb)) Qb)) (QA (i:=3) sc_l_is_office.nd rfl (Or.inl rfl))
   (Qf (Qy (Xp (Zu (Qt fI (hrm hr) rfl (Qa (Qp (ixK K rfl) (QB K rfl (pu 0)) (pu 3) (λ_ _=>rfl)) (Qa (Qp (ixK K rfl) (pu 1) (pu 3) (λ_ _=>rfl)) Qb))))) (Qf (Ql Xf)) Qo)))
   (Qc (ZG Er rfl (ZU rfl T.bH (Qa (Qs (Zr K rfl) (by rfl) T.aB FO (Qa (pu 2) Qb)) Qb)) (QA (i:=3) sc_l_is_office.nd rfl (Or.inl rfl))
   (Qc (Qw (i:=4) sc_l_is_office.nd rfl (Or.inl rfl) (Qp (ixK K rfl) (QB K rfl (pu 0)) (pu 3) (λ_ _=>rfl)))
   (Qf (Qy (PW.pt (Xo (Xp (Zu (Qs (Kd K rfl) (by rfl) T.aV boot_isinstance (Qa (pu 4) (Qa (ZO (v:=.ref _) rfl T.cL rfl) Qb))))) (Xd (Qj (neM K rfl hr.units) (QU (Qa (QB K rfl (pu 4)) (Qa (QB K rfl (pu 4)) (Qa (QB K rfl (pu 4)) Qb)))) (Qp (ixK K rfl) (pu 2) (pu 3) (λ_ _=>rfl)) (Qk _))))) (Qf (Ql Xf)) Qo))))
   (Qf (Ql Xf)))))),?_⟩
 have e1:=hk.1;have e2:=hc.1;have e3:=S.dl;have e4:=S.cr.1;have hA:=SqL.of (K:=K) S.ha;have hC:=SqL.of (K:=K) S.hc;walk_at "go";refine WX (T.i7.ty T.bI hx) T.gY ?_;walk_at "go";refine Q7 hx T.bI T.cB VS (QT (SqL.of j1) (QT hA ?_));walk_at "go";refine Qz (λe=>absurd (by rw[FH];omega) e) (λ_=>?_);refine Q7 hx T.bI T.cD Gu (QT (SqL.of j2) (QT hC ?_));walk_at "go";refine Qz (λe=>absurd (by omega) e) (λ_=>?_);refine QT hA ?_;rw[FH];walk_at "go";refine⟨by omega,by omega,U3 (IoI (.ref x) (.ref a) (.ref c) H) ⟨none,none,rfl,Same.refl _⟩ ?_ ?_⟩
 ·rintro i _ H2 hi ⟨x3,x4,rfl,g⟩;walk_at "go";refine Q7 (g _ _ hx) T.bI T.cB VS ?_;obtain⟨v,hv⟩:∃v,kvs[i]?=some v:=⟨_,FI (by omega)⟩
  obtain⟨p,hp⟩:∃v,ps[i]?=some v:=⟨_,FI (by omega)⟩
  rw[show(0+(i:Int))=(i:Int) by omega];obtain⟨k,hk',hP⟩:=hk.getV hv;refine QX (SqL.of (g _ _ j1)) (QW hv) (QX (g.seq hA) (v:=.ref p) (QW (by rw[F0,hp];rfl)) ⟨N,k,p,qs i,hP.kp (.of g),rfl,(S.dr i p k hp hk').mono g,xl k (EE hk'),λH3 g3=>?_⟩);walk_at "go";exact⟨_,_,rfl,g.trans g3⟩
 ·rintro _ H2 ⟨x3,x4,rfl,g⟩;walk_at "go";refine QT (g.seq hC) ?_;walk_at "go";refine⟨by omega,by omega,U3 (IoI (.ref x) (.ref a) (.ref c) H) ⟨_,_,rfl,g⟩ ?_ ?_⟩
  ·rintro i _ H2 hi ⟨x3,x4,rfl,g⟩;walk_at "go";refine Q7 (g _ _ hx) T.bI T.cD Gu ?_;obtain⟨v,hv⟩:∃v,cvs[i]?=some v:=⟨_,FI (by omega)⟩
   obtain⟨u,hu⟩:∃v,lvs[i]?=some v:=⟨_,FI (by omega)⟩
   rw[show(0+(i:Int))=(i:Int) by omega];obtain⟨cp,hcp,y,dy,l,rfl,hy,hl,_⟩:=hc.getV hv;obtain⟨p,l',rfl,hp,hl',_⟩:=S.cr.2 i cp u hcp hu;refine QX (SqL.of (g _ _ j2)) (QW hv) ?_;walk_at "go";refine WX (T.i0.ty T.bE (g _ _ hy)) T.gX ?_;walk_at "go";refine Q7 (g _ _ hy) T.bE T.d2 La (Q7 (g _ _ hy) T.bE T.d5 BF (Q7 (g _ _ hy) T.bE T.cA Ku ⟨by decide,λp2 hp2=>?_⟩));have g2:=Qg hp2 (.tup [.int cp.1,.int cp.2.1,.ref l]);have gg:=g.trans g2;refine QX (gg.seq hC) (QW hu) ?_;have nl:∀(b:Addr),(upd H2 p2 (.tup [.int cp.1,.int cp.2.1,.ref l])) b=some (.lst (cp.2.2.map V.str))->Rep K (upd H2 p2 (.tup [.int cp.1,.int cp.2.1,.ref l])) (.lst (cp.2.2.map D.str)) (.ref b):=λb hb=>Xy (SqL.of hb) ⟨by rw[FH,FH],λi d v hd hv=>by
    rw[F0] at hd hv;obtain⟨z,hz,rfl⟩:=F6.mp hd;rw[hz] at hv;cases hv;exact .str z⟩
   have db:DB 30 (.tup [.int cp.1,.int cp.2.1,.lst (cp.2.2.map D.str)]):=.tup λd hd=>by
    simp at hd;rcases hd with rfl|rfl|rfl
    ·exact .int _
    ·exact .int _
    ·refine .lst λd hd=>?_
     obtain⟨z,_,rfl⟩:=EB.mp hd;exact .str z
   refine U9 (Q9 (SqT.of Qe) (Qv (.int _) (Qv (.int _) (Qv (nl l (gg _ _ hl)) QV)))) (Q9 (SqT.of (gg _ _ hp)) (Qv (.int _) (Qv (.int _) (Qv (nl l' (gg _ _ hl')) QV)))) db ?_;walk_at "go";exact⟨_,_,rfl,gg⟩
  ·rintro _ H3 ⟨x3,x4,rfl,g3⟩;walk_at "go";exact q _ g3
theorem Gm (h:H p=some (.lst (txs rs))):Rep K H (.lst (rs.map λr=>.str r.tx)) (.ref p):=Xy (SqL.of h) ⟨by rw[FH,FH],λi d v hd hv=>by
 rw[F0] at hd hv;obtain⟨z,hz,rfl⟩:=F6.mp hd;rw[hz] at hv;cases hv;exact .str _⟩
theorem Tf:DB 30 (.lst (rs.map λr=>.str r.tx)):=.lst λd hd=>by
 obtain⟨z,_,rfl⟩:=EB.mp hd;exact .str _
theorem SL (h:SqL K H p xs)(g:Same H H1)(sn:Sn (λb=>H b=none) H1 H2):SqL K H2 p xs:=by
 rcases h with (h|⟨u,h⟩)|h
 ·exact .inl (.inl (sn _ _ (λe=>by have e:H p=none:=e;rw[h] at e;cases e) (g _ _ h)))
 ·exact .inl (.inr ⟨u,sn _ _ (λe=>by have e:H p=none:=e;rw[h] at e;cases e) (g _ _ h)⟩)
 ·exact .inr h
theorem PF (T:Tx w K mg t)(F:Fun K "law" "law" WY f fd)(bW:Cal P w K mg base 3 "_law_is_office" ["_law_found","_law_kinds","_law_caps"] (Sp3M (φiso K t)))(cG:Cal P w K mg base 7 "read" ["rows"] (Sp1M (φread K t)))(fJ:Cal P w K mg base 6 "_law_lacking" ["_law_rows_here","_law_pool_here","_law_kinds","_law_cell_here"] (Sp4M (φlack K)))(bX:Cal P w K mg base 1 "_law_cell" ["_law_script","_law_k"] (Sp2M (φcell K)))(fK:Cal P w K mg base 6 "_law_rows" ["_law_cells","_law_pool_here","_law_kinds","_law_caps"] (Sp4M (φrows K)))(fM:Cal P w K mg base 2 "_law_pool" ["_law_cell_here","_law_most"] (Sp2M (φpool K))):FnOk P w K mg base CX0 9 f fd ["_law_script"] (VE K):=by
 refine F.ok sc_law (λvs H Q E h=>by obtain⟨_,rfl,_⟩:=h;rfl) (λcdv A outer s H vs Q E hr h=>?_);obtain⟨_,rfl,sc,cells,rfl,hS,hsl,q⟩:=h;refine⟨_,((Qc (Qw (i:=1) sc_law.nd rfl (Or.inl rfl) (Qt fM (hrm hr) rfl (Qa (Qt bX (hrm hr) rfl (Qa (pu 0) (Qa Qd Qb))) (Qa (Qr QI Qd (Qr QD (Qt bX (hrm hr) rfl (Qa (pu 0) (Qa Qd Qb))) Qd)) Qb))))
   (Qc (Qw (i:=2) sc_law.nd rfl (Or.inl rfl) (QF Qb))
   (Qc (Qw (i:=3) sc_law.nd rfl (Or.inl rfl) (QF Qb))
   (Qc (Qw (i:=4) sc_law.nd rfl (Or.inl rfl) (Qt fK (hrm hr) rfl (Qa (Zp (slK K rfl) (pu 0) (Zv Qd) (Zv Qd)) (Qa (pu 1) (Qa (pu 2) (Qa (pu 3) Qb))))))
   (Qc (Qw (i:=4) sc_law.nd rfl (Or.inl rfl) (Qt fJ (hrm hr) rfl (Qa (pu 4) (Qa (pu 1) (Qa (pu 2) (Qa (Qt bX (hrm hr) rfl (Qa (pu 0) (Qa Qd Qb))) Qb))))))
   (Qc (Qw (i:=5) sc_law.nd rfl (Or.inl rfl) (QE (ZQ K rfl) (by rfl) T.aO EC (Qa (pu 4) Qb)))
   (Qc (Qw (i:=6) sc_law.nd rfl (Or.inl rfl) (Qt cG (hrm hr) rfl (Qa (pu 5) Qb)))
   (Qc (Qy (PW.pt (Xo (Qj (neM K rfl hr.units) (pu 5) (pu 4) (Qk _)) (Xd (Xp (Zu (Qt bW (hrm hr) rfl (Qa (pu 6) (Qa (pu 2) (Qa (pu 3) Qb))))))))) (Qf (Ql Xf)) Qo)
   (Qc (QP (LZ K rfl F8 PySem.F.slot_list_clear PySem.F.type_list_clear MA (pu 5)))
   (Qf (Ql (XA (Qt bW (hrm hr) rfl (Qa (pu 6) (Qa (pu 2) (Qa (pu 3) Qb)))) (Ys (Qt bW (hrm hr) rfl (Qa (Qt cG (hrm hr) rfl (Qa (QE (ZQ K rfl) (by rfl) T.aO EC (Qa (pu 4) Qb)) Qb)) (Qa (pu 2) (Qa (pu 3) Qb)))))))))))))))))),?_⟩
 walk_at "go";refine⟨sc,cells,0,rfl,rfl,hS,by decide,?_⟩;walk_at "go";refine⟨sc,cells,0,rfl,rfl,hS,by decide,?_⟩;walk_at "go";have d0:=F9 (cl cells 0) (show(8:Int)≠0 by decide);have d1:=Ej (cl cells 0) (show(0:Int)<8 by decide);refine⟨trivial,_,_,rfl,rfl,by omega,λpl ns H1 g1 pl0 kpl nd hns n1 n8=>?_⟩;walk_at "go";refine⟨by decide,λa ha=>?_⟩;have g2:=Qg ha (.lst []);have ka:=Qe (H:=H1) (a:=a) (o:=.lst []);generalize upd H1 a (.lst [])=H2 at *;walk_at "go";refine⟨by decide,λc hc=>?_⟩;have g3:=Qg hc (.lst []);have kc:=Qe (H:=H2) (a:=c) (o:=.lst []);generalize upd H2 c (.lst [])=H3 at *;have gA:=g1.trans (g2.trans g3);have a0:H a=none:=g1.free ha;have c0:H c=none:=(g1.trans g2).free hc;have nca:c≠a:=λe=>by rw[e,ka] at hc;cases hc
 have npa:pl≠a:=Qm kpl ha;have npc:pl≠c:=Qm (g2 _ _ kpl) hc;have S3:LwS K (λb=>H b=none) (λb=>if b=a then 0 else if b=c then 1 else 4) H3 a c [] (λ_ _=>0) [] [(4,pl,ns.map V.str)] [] []:=by
  refine⟨g3 _ _ ka,kc,a0,c0,rfl,λi p k h=>by simp at h,λi h=>by simp at h,QV,FD rfl,?_,λi h=>by simp at h,λe he=>?_⟩
  ·simp only[FC nca,if_true]
  ·rw[FQ.mp he];refine⟨(g2.trans g3) _ _ kpl,?_,FE 4,Nat.le_of_ble_eq_true rfl⟩;simp only[FC npa,FC npc]
 walk_at "go";refine Y7 (gA.seq hS) λd hd=>?_
 rw[show X5 (cells.map V.int) (some 2) (some 62)=((cells.drop 2).take 60).map V.int by rw[List.map_take,List.map_drop];exact BA _ 2 62];have g4:=Qg hd (.lst (((cells.drop 2).take 60).map V.int));have S4:=S3.addB (n:=5) hd g4 Qe (by decide) (by decide);generalize upd H3 d (.lst (((cells.drop 2).take 60).map V.int))=H4 at *;have gB:=gA.trans g4;refine⟨_,d,pl,a,c,(cells.drop 2).take 60,ns,rfl,rfl,rfl,rfl,⟨_,_,_,_,S4⟩,λb hb=>gB.free hb,by rw[Ep];omega,hns,nd,⟨n1,n8⟩,λr rs ks cs as H5 sn5 hN5 T5 ri5 rl5 nr=>?_⟩;walk_at "go";refine⟨sc,cells,1,rfl,rfl,SL hS gB sn5,by decide,?_⟩;walk_at "go";refine⟨_,r,pl,a,c,d,_,_,rs,ns,ks,cs,as,rfl,rfl,rfl,rfl,T5,hN5,nr,ri5,hns,nd,⟨n1,n8⟩,rl5,λrs ks cs as H6 sn6 hN6 ⟨ow6,ps6,qs6,cvs6,S6⟩ ri6 all rl6=>?_⟩;have hr6:H6 r=some (.lst (txs rs)):=(S6.hb (6,r,txs rs) (by simp)).1;have sk:=ri6.sml.k;have sx:=ri6.sml.x;have s4:=ri6.c4;have has:∀z∈as,z∈ks.map (·.1):=λz hz=>all z (ri6.ain z hz)
 walk_at "go";refine⟨r,txs rs,rfl,.inl (SqL.of hr6),λhh hhh=>?_⟩;have g7:=Qg hhh (.lst (txs rs));have kh7:=Qe (H:=H6) (a:=hh) (o:=.lst (txs rs));have S7:=S6.addB (n:=7) hhh g7 kh7 (by decide) (by decide);generalize upd H6 hh (.lst (txs rs))=H7 at *;walk_at "go";refine⟨hh,rs,ks,cs,as,rfl,SqL.of kh7,by omega,ri6.acc,ri6.run,has,λv H8 g8 hO=>?_⟩;have S8:=S7.mono g8;walk_at "go";refine U9 (Gm (g8 _ _ kh7)) (Gm ((g7.trans g8) _ _ hr6)) Tf ?_;walk_at "go";refine⟨_,_,a,c,_,ks,cs,hO,rfl,rfl,⟨_,_,_,_,S8⟩,by omega,by omega,λk hk=>by have:=sx k hk;omega,λH9 g9=>?_⟩;have S9:=S8.mono g9;have kh9:=(g8.trans g9) _ _ kh7;walk_at "go";refine⟨.inl ⟨rfl,_,SqL.of kh9⟩,?_⟩;have S10:=S9.upB (ws:=[]) (by simp);have hO10:=hO.kp ((Kp.of g9).trans (Q4 (o:=.lst []) kh9 λb hb=>λe=>by
  have hb:H7 b=none:=hb;rw[e,kh7] at hb;cases hb))
 refine⟨hh,_,rfl,rfl,kh9,?_⟩;refine⟨_,_,a,c,_,ks,cs,hO10,rfl,rfl,⟨_,_,_,_,S10⟩,by omega,by omega,λk hk=>by have:=sx k hk;omega,λH11 g11=>?_⟩;have S11:=S10.mono g11;walk_at "go";have hr11:H11 r=some (.lst (txs rs)):=(S11.hb (6,r,txs rs) (by simp)).1;refine⟨r,txs rs,rfl,.inl (SqL.of hr11),λhj hhj=>?_⟩;have g12:=Qg hhj (.lst (txs rs));have kj:=Qe (H:=H11) (a:=hj) (o:=.lst (txs rs));generalize upd H11 hj (.lst (txs rs))=H12 at *;walk_at "go";refine⟨hj,rs,ks,cs,as,rfl,SqL.of kj,by omega,ri6.acc,ri6.run,has,λv2 H13 g13 hO2=>?_⟩;walk_at "go";exact⟨_,_,a,c,_,ks,cs,hO2,rfl,rfl,⟨_,_,_,_,S11.mono (g12.trans g13)⟩,by omega,by omega,λk hk=>by have:=sx k hk;omega,λH14 g14=>q _⟩
end
abbrev nK (K:W.Frag)(a:Addr)(f:Str):Prop:=W.findIn K (.ref a) f=some none
abbrev mK (K:W.Frag)(n:Str)(a:Addr):Prop:=W.nsIn K mainGlobals n=some (some (.ref a))
abbrev zK (K:W.Frag)(n:Str):Prop:=W.nsIn K mainGlobals n=some none
def FdG (K:W.Frag)(n:Str)(st:Stmt):Prop:=∃f fd,W.nsIn K mainGlobals n=some (some (.ref f))/\Fun K n n st f fd
def FdM (K:W.Frag)(C:Addr)(n q:Str)(st:Stmt):Prop:=∃f fd,W.findIn K (.ref C) n=some (some (.ref f))/\W.isFn K (.ref f)=true/\Fun K n q st f fd
section
variable {P:Program} {w:World} {K:W.Frag} {mg:Str->Option Value} {base h:Heap} {k:Nat} {n q:Str} {C:Addr} {st:Stmt} {ps:List Str} {sp:Sp}
theorem Fv (X:K.In h)(G:h.Ns mainGlobals mg)(e:FdG K n st)(b:∀(kV doc pm:Value) (an:Option Addr) (cdv ct:Value) (us:List Value),us.length=ps.length->bindArgs (W.fnOf n n (QC st) (Qx st) (Qh st) .none kV doc pm an cdv ct) ⟨us,[]⟩=pure (ps.zip us))(ok:∀f fd,Fun K n n st f fd->FnOk P w K mg base CX0 k f fd ps sp):Cal P w K mg base k n ps sp:=by
 obtain⟨f,fd,a,F⟩:=e;exact⟨f,fd,ok f fd F,F.binds b,F.kp,W.mg_of X G a⟩
theorem Ft (e:FdM K C n q st)(b:∀(kV doc pm:Value) (an:Option Addr) (cdv ct:Value) (us:List Value),us.length=ps.length->bindArgs (W.fnOf n q (QC st) (Qx st) (Qh st) .none kV doc pm an cdv ct) ⟨us,[]⟩=pure (ps.zip us))(ok:∀f fd,Fun K n q st f fd->FnOk P w K mg base CX0 k f fd ps sp):Vw P w K mg base k C n ps sp:=by
 obtain⟨f,fd,a,i,F⟩:=e;exact⟨f,fd,ok f fd F,F.binds b,⟨a,i,F.kp⟩⟩
theorem Fu (mm:W.makesIn K C=true)(mk:W.keepIn K (.ref C)=true)(e:FdM K C "__init__" q st)(b:∀(kV doc pm:Value) (an:Option Addr) (cdv ct:Value) (us:List Value),us.length=ps.length->bindArgs (W.fnOf "__init__" q (QC st) (Qx st) (Qh st) .none kV doc pm an cdv ct) ⟨us,[]⟩=pure (ps.zip us))(ok:∀f fd,Fun K "__init__" q st f fd->FnOk P w K mg base CX0 k f fd ps sp):JY P w K mg base k C ps sp:=by
 obtain⟨f,fd,a,i,F⟩:=e;exact⟨f,fd,ok f fd F,F.binds b,⟨mm,a,i,mk⟩⟩
theorem Fs (X:K.In h)(G:h.Ns mainGlobals mg)(e:FdG K n st)(b:∀(kV doc pm:Value) (an:Option Addr) (cdv ct:Value) (us:List Value),us.length=ps.length->bindArgs (W.fnOf n n (QC st) (Qx st) (Qh st) .none kV doc pm an cdv ct) ⟨us,[]⟩=pure (ps.zip us))(ok:∀f fd,Fun K n n st f fd->FnOk P w K mg base (CXn P w) k f fd ps sp):Wx P w K mg base k n ps sp:=by
 obtain⟨f,fd,a,F⟩:=e;exact⟨f,fd,ok f fd F,F.binds b,F.kp,W.mg_of X G a⟩
end
local macro_rules | `(tactic| walk_at "b1") => `(tactic| exact fun _ _ _ _ _ _ us hl => Hd.len1 (P := fun us => bindArgs _ ⟨us, []⟩ = pure (List.zip _ us)) (fun _ => rfl) us hl)
local macro_rules | `(tactic| walk_at "b2") => `(tactic| exact fun _ _ _ _ _ _ us hl => Hd.len2 (P := fun us => bindArgs _ ⟨us, []⟩ = pure (List.zip _ us)) (fun _ _ => rfl) us hl)
local macro_rules | `(tactic| walk_at "b3") => `(tactic| exact fun _ _ _ _ _ _ us hl => Hd.len3 (P := fun us => bindArgs _ ⟨us, []⟩ = pure (List.zip _ us)) (fun _ _ _ => rfl) us hl)
local macro_rules | `(tactic| walk_at "b4") => `(tactic| exact fun _ _ _ _ _ _ us hl => Hd.len4 (P := fun us => bindArgs _ ⟨us, []⟩ = pure (List.zip _ us)) (fun _ _ _ _ => rfl) us hl)
theorem all_mk {l:W.OpenLaw}{h:Heap}{fa f12 dA12 iD iE fQ iF aF aP b7 iG bD aQ b8 iH aR aT aI fU fW fX fY fZ:Addr}(X:K.In h)(G:h.Ns mainGlobals mg)(hfa:mg "law"=some (.ref fa))
  {od12 an12:Option Addr} {sl12:Array (Option Value)} {oc12 kV12 dc12 pm12 cd12 ct12  : Value}
  {tk_LETTERS:Tok}
  {tk_LONGEST_NAME:Tok}
  {tk_OLDEST:Tok}
  {tk_MOST_COINS:Tok}
  {tk_FIGURES:Tok}
  {tk_MOST_FIGURES:Tok}
  {tk_MOST_OF_RATES:Tok}
  {tk_MOST_HEADS:Tok}
  {tk_MOST_KINDS:Tok}
  {tk_MOST_CAPS:Tok}
  (iN:mK K "HelpError" iD)
  (iO:mK K "Unknown" iE)
  (aW:mK K "NoWord" fQ)
  (iP:mK K "NoRow" iF)
  (cK:mK K "Kind" aF)
  (cL:mK K "Cap" aP)
  (cM:mK K "Office" b7)
  (iQ:mK K "Part" iG)
  (cN:mK K "Base" bD)
  (cP:mK K "Each" aQ)
  (cQ:mK K "Rent" b8)
  (iR:mK K "Term" iH)
  (cR:mK K "From" aR)
  (cT:mK K "Upto" aT)
  (gK:mK K "Reader" aI)
  (gL:W.nsIn K mainGlobals "LETTERS"=some (some (.str "abcdefghijklmnopqrstuvwxyz" tk_LETTERS)))
  (gM:W.nsIn K mainGlobals "LONGEST_NAME"=some (some (.int 8 tk_LONGEST_NAME)))
  (gP:W.nsIn K mainGlobals "OLDEST"=some (some (.int 150 tk_OLDEST)))
  (cU:W.nsIn K mainGlobals "MOST_COINS"=some (some (.int 1000000000 tk_MOST_COINS)))
  (gQ:W.nsIn K mainGlobals "FIGURES"=some (some (.str "0123456789" tk_FIGURES)))
  (gR:W.nsIn K mainGlobals "MOST_FIGURES"=some (some (.int 10 tk_MOST_FIGURES)))
  (bY:W.nsIn K mainGlobals "MOST_OF_RATES"=some (some (.int 9999 tk_MOST_OF_RATES)))
  (bR:mK K "AGES" fU)
  (gS:W.nsIn K mainGlobals "MOST_HEADS"=some (some (.int 60 tk_MOST_HEADS)))
  (bS:mK K "WAYS" fW)
  (bT:mK K "FORMS" fX)
  (bM:mK K "LISTS" fY)
  (bU:mK K "LONGEST" fZ)
  (gU:W.nsIn K mainGlobals "MOST_KINDS"=some (some (.int 8 tk_MOST_KINDS)))
  (gV:W.nsIn K mainGlobals "MOST_CAPS"=some (some (.int 4 tk_MOST_CAPS)))
  (h1:FdG K "is_name" XO)
  (h2:FdG K "common_divisor" Zh)
  (h3:FdG K "is_written_whole" Q8)
  (h4:FdG K "whole_read" ZL)
  (h5:FdG K "rate_read" Z2)
  (h6:FdG K "name_read" Z4)
  (h7:FdG K "most_of" XG)
  (h8:FdG K "unit_read" Z1)
  (h9:FdG K "way_read" Xk)
  (h10:FdG K "word_read" ZZ)
  (h11:FdG K "words_read" ZK)
  (a12:W.findIn K (.ref aF) "__init__"=some (some (.ref f12))) (i12:W.isFn K (.ref f12)=true) (l12:K.lookup f12=some ⟨oc12,od12,.func (W.fnOf "__init__" "Kind.__init__" (QC QG) (Qx QG) (Qh QG) (.ref dA12) kV12 dc12 pm12 an12 cd12 ct12),sl12⟩) (c12:W.codeIn K cd12 "Kind.__init__"=true) (k12:W.keepIn K (.ref f12)=true)
  (h13:FdM K aP "__init__" "Cap.__init__" Zs)
  (h14:FdM K b7 "__init__" "Office.__init__" Ze)
  (h15:FdM K bD "__init__" "Base.__init__" Zo)
  (h16:FdM K aQ "__init__" "Each.__init__" Zn)
  (h17:FdM K b8 "__init__" "Rent.__init__" Zl)
  (h18:FdM K aR "__init__" "From.__init__" Zm)
  (h19:FdM K aT "__init__" "Upto.__init__" Zk)
  (h20:FdG K "form_of" XQ)
  (h21:FdG K "values_of" Z0)
  (h22:FdG K "thing_of" Xl)
  (h23:FdG K "new_draft" Z3)
  (h24:FdG K "fits_in" XR)
  (h25:FdG K "kind_of" XN)
  (h26:FdM K aI "__init__" "Reader.__init__" Zd)
  (h27:FdM K aI "titles_told" "Reader.titles_told" QZ)
  (h28:FdM K aI "caps_none_twice" "Reader.caps_none_twice" QN)
  (h29:FdM K aI "fits" "Reader.fits" ZA)
  (h30:FdM K aI "take" "Reader.take" Zz)
  (h31:FdM K aI "office_told" "Reader.office_told" Q0)
  (h32:FdG K "read" Jr)
  (h33:FdG K "_law_cell" Yo)
  (h34:FdG K "_law_mixed" XJ)
  (h35:FdG K "_law_common" Xm)
  (h36:FdG K "_law_made" Ym)
  (h37:FdG K "_law_name" Yl)
  (h38:FdG K "_law_rate" Yi)
  (h39:FdG K "_law_shown" XI)
  (h40:FdG K "_law_ages" Yp)
  (h41:FdG K "_law_amount" Xn)
  (h42:FdG K "_law_pool" Yj)
  (h43:FdG K "_law_part" Yk)
  (h44:FdG K "_law_term" Yg)
  (h45:FdG K "_law_words" XH)
  (h46:FdG K "_law_limit" XM)
  (h47:FdG K "_law_put" Wb)
  (h48:FdG K "_law_cap" Wc)
  (h49:FdG K "_law_kind" Yn)
  (h50:FdG K "_law_rows" Yh)
  (h51:FdG K "_law_lacking" Z5)
  (h52:FdG K "_law_is_part" Z7)
  (h53:FdG K "_law_is_term" Z6)
  (h54:FdG K "_law_is_kind" Z8)
  (h55:FdG K "_law_is_office" Zy)
  (h56:FdG K "law" WY)
  {td12_2:Tok} {dn12:Nat} (d12:K.lookup dA12=some ⟨.type "tuple",none,.seq #[.none,.none,(.str "down" td12_2)] dn12,#[]⟩)
  (cH:zK K "abs")
  (cI:zK K "all")
  (gD:zK K "enumerate")
  (gF:zK K "int")
  (aV:zK K "isinstance")
  (aB:zK K "len")
  (aO:zK K "list")
  (gG:zK K "max")
  (bH:zK K "range")
  (gH:zK K "set")
  (bA:zK K "str")
  (cJ:zK K "tuple")
  (gI:zK K "zip")
  (bB:W.excIn K fQ HF "ValueError.__new__"=true)
  (kk_AGES:KTs K fU [.str "LOW",.str "HIGH"])
  (kk_WAYS:KTs K fW [.str "down",.str "up",.str "near"])
  (kk_FORMS:KDs w K fX JH)
  (kk_LISTS:KDs w K fY JG)
  (kk_LONGEST:KDs w K fZ kd_LONGEST)
  (gW:yK K aF aF true)
  (gX:yK K aP aP true)
  (gY:yK K b7 b7 true)
  (gZ:yK K bD bD true)
  (hG:yK K aQ aQ true)
  (hJ:yK K b8 b8 true)
  (hV:yK K aR aR true)
  (hX:yK K aT aT true)
  (aD:Cls K aF)
  (hZ:IsC K aF)
  (cV:nK K aF "title")
  (bZ:nK K aF "parts")
  (c7:nK K aF "terms")
  (cW:nK K aF "pays")
  (cX:nK K aF "counts")
  (cY:nK K aF "offs")
  (c8:nK K aF "limit")
  (c9:nK K aF "unit")
  (cZ:nK K aF "way")
  (bE:Cls K aP)
  (i0:IsC K aP)
  (d2:nK K aP "limit")
  (d5:nK K aP "each")
  (cA:nK K aP "titles")
  (bI:Cls K b7)
  (i7:IsC K b7)
  (cB:nK K b7 "kinds")
  (cD:nK K b7 "caps")
  (cE:Cls K bD)
  (i8:IsC K bD)
  (d6:nK K bD "amount")
  (bJ:Cls K aQ)
  (i9:IsC K aQ)
  (d7:nK K aQ "amount")
  (d8:nK K aQ "low")
  (d9:nK K aQ "high")
  (bN:Cls K b8)
  (iA:IsC K b8)
  (dA:nK K b8 "rate")
  (dB:nK K b8 "most")
  (bK:Cls K aR)
  (iB:IsC K aR)
  (dC:nK K aR "many")
  (dE:nK K aR "low")
  (dF:nK K aR "high")
  (bL:Cls K aT)
  (iC:IsC K aT)
  (dG:nK K aT "many")
  (dH:nK K aT "low")
  (dI:nK K aT "high")
  (aE:Cls K aI)
  (iS:IsC K aI)
  (bF:nK K aI "drafts")
  (bO:nK K aI "caps")
  (bV:nK K aI "asked_for")
  (mkm_Kind:W.makesIn K aF=true)
  (mkk_Kind:W.keepIn K (.ref aF)=true)
  (mkm_Cap:W.makesIn K aP=true)
  (mkk_Cap:W.keepIn K (.ref aP)=true)
  (mkm_Office:W.makesIn K b7=true)
  (mkk_Office:W.keepIn K (.ref b7)=true)
  (mkm_Base:W.makesIn K bD=true)
  (mkk_Base:W.keepIn K (.ref bD)=true)
  (mkm_Each:W.makesIn K aQ=true)
  (mkk_Each:W.keepIn K (.ref aQ)=true)
  (mkm_Rent:W.makesIn K b8=true)
  (mkk_Rent:W.keepIn K (.ref b8)=true)
  (mkm_From:W.makesIn K aR=true)
  (mkk_From:W.keepIn K (.ref aR)=true)
  (mkm_Upto:W.makesIn K aT=true)
  (mkk_Upto:W.keepIn K (.ref aT)=true)
  (mkm_Reader:W.makesIn K aI=true)
  (mkk_Reader:W.keepIn K (.ref aI)=true)
  : ∃fd:FuncData,(∀(s:Shared) (v:Value),BindsTo s fd ⟨[v],[]⟩ [("_law_script",v)])/\∀base:Heap,K.In base->base.Ns mainGlobals mg->FnOk l.prog w K mg base CX0 9 fa fd ["_law_script"] (VE K):=by
 let t:Adr:=⟨(),iD,iE,fQ,iF,aF,aP,b7,iG,bD,aQ,b8,iH,aR,aT,aI,fU,fW,fX,fY,fZ⟩
 have T:Tx w K mg t:=by
  constructor;all_goals first|assumption|exact W.mg_none_of X G (by assumption)|exact W.mg_of X G (by assumption)|exact⟨W.mg_of X G (by assumption),by assumption⟩|exact Hm (W.mg_of X G (by assumption)) (by assumption)|exact⟨_,W.mg_of X G (by assumption),_,rfl⟩
 obtain⟨f56,fd,a56,F⟩:=h56;have e:=hfa.symm.trans (W.mg_of X G a56);cases e;have F':=F;obtain⟨⟨oc,od,kV,doc,pm,an,cdv,ct,osl,rfl,lk,hcd⟩,hk⟩:=F';refine⟨W.fnOf "law" "law" (QC WY) (Qx WY) (Qh WY) .none kV doc pm an cdv ct,λs v=>.of_eq rfl,λbase _ _=>?_⟩;have cg:=@Fv l.prog w K mg base h;have ci:=@Fu l.prog w K mg base;have cm:=@Ft l.prog w K mg base;have cn:=@Fs l.prog w K mg base h;have dM:=cg X G h1 (by walk_at "b1") λ_ _ F=>(UO T F ).imp Sp1M.imp
 have dN:=cg X G h2 (by walk_at "b2") λ_ _ F=>(Wg T F ).imp Sp2M.imp
 have dJ:=cg X G h3 (by walk_at "b1") λ_ _ F=>(YL T F ).imp Sp1M.imp
 have aX:=cn X G h4 (by walk_at "b2") λ_ _ F=>(Kc T F dJ).imp Rp2M.imp
 have dR:=cn X G h5 (by walk_at "b1") λ_ _ F=>(K7 T F dN aX).imp Rp1M.imp
 have dS:=cn X G h6 (by walk_at "b1") λ_ _ F=>(K9 T F dM).imp Rp1M.imp
 have dO:=cg X G h7 (by walk_at "b1") λ_ _ F=>(UI T F ).imp Sp1M.imp
 have dQ:=cn X G h8 (by walk_at "b1") λ_ _ F=>(K6 T F aX).imp Rp1M.imp
 have dP:=cn X G h9 (by walk_at "b1") λ_ _ F=>(VN T F ).imp Rp1M.imp
 have dW:=cn X G h10 (by walk_at "b2") λ_ _ F=>(K4 T F aX dO dP dQ dR dS).imp Rp2M.imp
 have dX:=cn X G h11 (by walk_at "b2") λ_ _ F=>(Kb T F dW).imp Rp2M.imp
 have F12:=Bt (st:=QG) l12 c12 k12;have b12:=Uj (fd:=W.fnOf "__init__" "Kind.__init__" (QC QG) (Qx QG) (Qh QG) (.ref dA12) kV12 dc12 pm12 an12 cd12 ct12) (ps:=["self","title","parts","terms","pays","counts","offs","limit","unit","way"]) (ds:=[]) d12 10 rfl (Hd.len10 (P:=λus=>∃e k,bindArgs _ ⟨us,[]⟩=Sem.load _ e k/\∀S,W.peek K S (k _)=some (List.zip _ (us++_))) (λ_ _ _ _ _ _ _ _ _ _=>⟨_,_,rfl,λ_=>rfl⟩));have eD:Lh l.prog w K mg base 1 aF ["self","title","parts","terms","pays","counts","offs","limit","unit","way"] [] (Sp10M (φkindI aF)):=⟨f12,_,_,(WJ T F12 ).imp Sp10M.imp,b12,.nil,⟨mkm_Kind,a12,i12,mkk_Kind⟩⟩
 have eI:=ci mkm_Cap mkk_Cap h13 (by walk_at "b4") λ_ _ F=>(W5 T F ).imp Sp4M.imp
 have eK:=ci mkm_Office mkk_Office h14 (by walk_at "b3") λ_ _ F=>(Y1 T F ).imp Sp3M.imp
 have eC:=ci mkm_Base mkk_Base h15 (by walk_at "b2") λ_ _ F=>(WM T F ).imp Sp2M.imp
 have eB:=ci mkm_Each mkk_Each h16 (by walk_at "b4") λ_ _ F=>(WL T F ).imp Sp4M.imp
 have eA:=ci mkm_Rent mkk_Rent h17 (by walk_at "b3") λ_ _ F=>(WI T F ).imp Sp3M.imp
 have e9:=ci mkm_From mkk_From h18 (by walk_at "b4") λ_ _ F=>(WK T F ).imp Sp4M.imp
 have dZ:=ci mkm_Upto mkk_Upto h19 (by walk_at "b4") λ_ _ F=>(WH T F ).imp Sp4M.imp
 have dY:=cn X G h20 (by walk_at "b1") λ_ _ F=>(UP T F ).imp Rp1M.imp
 have eP:=cn X G h21 (by walk_at "b1") λ_ _ F=>(K5 T F dX dY).imp Rp1M.imp
 have eJ:=cg X G h22 (by walk_at "b2") λ_ _ F=>(VO T F dZ e9 eA eB eC).imp Sp2M.imp
 have eG:=cg X G h23 (by walk_at "b1") λ_ _ F=>(K8 T F ).imp Sp1M.imp
 have eE:=cg X G h24 (by walk_at "b3") λ_ _ F=>(UQ T F ).imp Sp3M.imp
 have eL:=cg X G h25 (by walk_at "b1") λ_ _ F=>(UN T F eD).imp Sp1M.imp
 have eQ:=ci mkm_Reader mkk_Reader h26 (by walk_at "b1") λ_ _ F=>(Y0 T F ).imp Sp1M.imp
 have bP:=cm h27 (by walk_at "b1") λ_ _ F=>(X9 T F ).imp Sp1M.imp
 have eF:=cm h28 (by walk_at "b2") λ_ _ F=>(Xv T F ).imp Sp2M.imp
 have eO:=cm h29 (by walk_at "b3") λ_ _ F=>(JB T F eE eF bP).imp Sp3M.imp
 have eN:=cm h30 (by walk_at "b3") λ_ _ F=>(JA T F eG eI eJ).imp Sp3M.imp
 have eM:=cm h31 (by walk_at "b1") λ_ _ F=>(Yb T F eK eL bP).imp Sp1M.imp
 have cG:=cg X G h32 (by walk_at "b1") λ_ _ F=>(Ba T F eM eN eO eP eQ).imp Sp1M.imp
 have bX:=cg X G h33 (by walk_at "b2") λ_ _ F=>(Ng T F ).imp Sp2M.imp
 have aA:=cg X G h34 (by walk_at "b2") λ_ _ F=>(UL T F ).imp Sp2M.imp
 have eR:=cg X G h35 (by walk_at "b2") λ_ _ F=>(VP T F ).imp Sp2M.imp
 have eS:=cg X G h36 (by walk_at "b2") λ_ _ F=>(Nd T F eR).imp Sp2M.imp
 have eT:=cg X G h37 (by walk_at "b1") λ_ _ F=>(Nc T F ).imp Sp1M.imp
 have aY:=cg X G h38 (by walk_at "b2") λ_ _ F=>(G9 T F eS aA).imp Sp2M.imp
 have eU:=cg X G h39 (by walk_at "b1") λ_ _ F=>(UK T F ).imp Sp1M.imp
 have bG:=cg X G h40 (by walk_at "b1") λ_ _ F=>(Nh T F aA).imp Sp1M.imp
 have aZ:=cg X G h41 (by walk_at "b2") λ_ _ F=>(VQ T F aA).imp Sp2M.imp
 have fM:=cg X G h42 (by walk_at "b2") λ_ _ F=>(Na T F eT aA).imp Sp2M.imp
 have eX:=cg X G h43 (by walk_at "b1") λ_ _ F=>(Nb T F aY aA bG aZ).imp Sp1M.imp
 have eW:=cg X G h44 (by walk_at "b1") λ_ _ F=>(G7 T F aA bG).imp Sp1M.imp
 have bC:=cg X G h45 (by walk_at "b1") λ_ _ F=>(UJ T F eU).imp Sp1M.imp
 have eV:=cg X G h46 (by walk_at "b2") λ_ _ F=>(UM T F aA).imp Sp2M.imp
 have eZ:=cg X G h47 (by walk_at "b3") λ_ _ F=>(Ms T F aA aZ bC aY eV bG eW eX).imp Sp3M.imp
 have eY:=cg X G h48 (by walk_at "b3") λ_ _ F=>(Mt T F aZ aA).imp Sp3M.imp
 have bQ:=cg X G h49 (by walk_at "b3") λ_ _ F=>(Nf T F aA).imp Sp3M.imp
 have fK:=cg X G h50 (by walk_at "b4") λ_ _ F=>(G8 T F eY bQ eZ).imp Sp4M.imp
 have fJ:=cg X G h51 (by walk_at "b4") λ_ _ F=>(Va T F bC aY bQ).imp Sp4M.imp
 have fG:=cg X G h52 (by walk_at "b2") λ_ _ F=>(Vc T F ).imp Sp2M.imp
 have f9:=cg X G h53 (by walk_at "b2") λ_ _ F=>(Vb T F ).imp Sp2M.imp
 have fI:=cg X G h54 (by walk_at "b2") λ_ _ F=>(Vd T F f9 fG).imp Sp2M.imp
 have bW:=cg X G h55 (by walk_at "b3") λ_ _ F=>(Jz T F fI).imp Sp3M.imp
 exact PF (P:=l.prog) (w:=w) (base:=base) T F bW cG fJ bX fK fM
theorem walk {l:W.OpenLaw}{q:Program}{d:DefRec}{K:Params->W.Frag}(hn:l.most=some 63)(hdf:d.params.defaults=[])
  (hY:∀(w:World) (h:Heap),YP w h->(K w.params).In h)
  (F:∀(w:World) (mg:Str->Option Value) (fa:Addr) (h:Heap),(K w.params).In h->h.Ns mainGlobals mg->mg d.name=some (.ref fa) ->
   ∃fd:FuncData,(∀(s:Shared) (u:Value),BindsTo s fd ⟨[u],[]⟩ [("_law_script",u)])/\∀base:Heap,(K w.params).In base->base.Ns mainGlobals mg->FnOk l.prog w (K w.params) mg base CX0 9 fa fd ["_law_script"] (VE (K w.params))) :
  W.WalkO q loose XP YP l.row.toRowW d [] (λf vs=>PySem.call f vs):=
 L2.walk_of (n:=63) (k:=9) (x:="_law_script") (CX:=λ_=>CX0) (sp:=λw=>VE (K w.params)) hn (by decide) hdf ⟨rfl,by decide,by decide⟩ hY F (λ_ _ a ns hl hO hS=>VD hl hO hS) λ_ _ _ _ _ z=>z
end My
local macro_rules | `(tactic| walk_at "fg") => `(tactic| exact ⟨_, _, by k_is, L2.fun_mk (by k_is) (by k_is) (by k_is)⟩)
local macro_rules | `(tactic| walk_at "fm") => `(tactic| exact ⟨_, _, by k_is, by k_is, L2.fun_mk (by k_is) (by k_is) (by k_is)⟩)
local macro_rules | `(tactic| walk_at "cl") => `(tactic| exact ⟨by k_is, by k_is, by k_is, by k_is⟩)
open PySem PySem.W PyProof.Rows
set_option maxRecDepth 100000 in
set_option maxHeartbeats 0 in
theorem PySem.Challenge.cw_doletaper_k36_rows_read_holds : PySem.Challenge.rw_doletaper_k36_rows_read.Holds := by
 w_on;o_law
 refine W.holds_open (r:=PySem.Challenge.rw_doletaper_k36_rows_read.row) (q:=My.hkV) (loose:=My.hkLo) (Xt:=λs=>xlAt My.hkV [] s&&recOk (RowW.records (OpenRow.toRowW PySem.Challenge.rw_doletaper_k36_rows_read.row)) s) (XP:=XL My.hkV []) (Yf:=Hook.obs (kHook My.HK My.hkA My.hkA_eq)) (Ya:=Hook.val (kHook My.HK My.hkA My.hkA_eq)) (YP:=Hook.says (kHook My.HK My.hkA My.hkA_eq)) (N:=400000) My.hd_left (Hook.of (kHook My.HK My.hkA My.hkA_eq)) (Hook.keeps (kHook My.HK My.hkA My.hkA_eq)) (λs e=>xl_of s (Bool.and_eq_true_iff.mp e).1) XL.keeps (by rfl) (by rfl) (by rfl) (λs e=>recFacts_of (Bool.and_eq_true_iff.mp e).2) (by rfl) (by assumption) (by decide +kernel) ⟨rfl,rfl,rfl,rfl,rfl,by decide +kernel⟩ ?hw ?hc
 (case hw=>exact⟨[W.WData.list []],by kernel_rfl,by kernel_rfl⟩)
 k_fill
 refine My.walk (l:=PySem.Challenge.rw_doletaper_k36_rows_read) rfl rfl (λw h Y=>W.kIn_of Y) ?F
 case F=>
  intro w mg fa h KX G hmg
  refine' My.all_mk KX G hmg ?_ ?_ ?_ ?_ ?_ ?_ ?_ ?_ ?_ ?_ ?_ ?_ ?_ ?_ ?_ ?_ ?_ ?_ ?_ ?_ ?_ ?_ ?_ ?_ ?_ ?_ ?_ ?_ ?_ ?_ ?_ ?_ ?_ ?_ ?_ ?_ ?_ ?_ ?_ ?_ ?_ ?_ ?_ ?_ ?_ ?_ ?_ ?_ ?_ ?_ ?_ ?_ ?_ ?_ ?_ ?_ ?_ ?_ ?_ ?_ ?_ ?_ ?_ ?_ ?_ ?_ ?_ ?_ ?_ ?_ ?_ ?_ ?_ ?_ ?_ ?_ ?_ ?_ ?_ ?_ ?_ ?_ ?_ ?_ ?_ ?_ ?_ ?_ ?_ ?_ ?_ ?_ ?_ ?_ ?_ ?_ ?_ ?_ ?_ ?_ ?_ ?_ ?_ ?_ ?_ ?_ ?_ ?_ ?_ ?_ ?_ ?_ ?_ ?_ ?_ ?_ ?_ ?_ ?_ ?_ ?_ ?_ ?_ ?_ ?_ ?_ ?_ ?_ ?_ ?_ ?_ ?_ ?_ ?_ ?_ ?_ ?_ ?_ ?_ ?_ ?_ ?_ ?_ ?_ ?_ ?_ ?_ ?_ ?_ ?_ ?_ ?_ ?_ ?_ ?_ ?_ ?_ ?_ ?_ ?_ ?_ ?_ ?_ ?_ ?_ ?_ ?_ ?_ ?_ ?_ ?_ ?_ ?_ ?_ ?_ ?_ ?_ ?_ ?_ ?_ ?_ ?_ ?_
  any_goals first|k_is|(unfold My.mK;k_is)|walk_at "fg" | walk_at "fm" | walk_at "cl" | kit_is|walk_at "ec" | kernel_rfl|k_exc|exact L2.kds_of (l:=[("kind",_,.str "NAME" _),("base",_,.str "AMOUNT" _),("each",_,.str "AMOUNT LOW HIGH" _),("rent",_,.str "RATE MOST" _),("from",_,.str "MANY LOW HIGH" _),("upto",_,.str "MANY LOW HIGH" _),("pay",_,.str "RATE LOW HIGH" _),("counts",_,.str "NAME RATE" _),("off",_,.str "LIMIT RATE" _),("until",_,.str "LIMIT" _),("round",_,.str "UNIT WAY" _),("cap",_,.str "LIMIT EACH NAME" _)]) (by k_is) (by rfl) (by decide +kernel) (.cons ⟨rfl,_,rfl⟩ <| .cons ⟨rfl,_,rfl⟩ <| .cons ⟨rfl,_,rfl⟩ <| .cons ⟨rfl,_,rfl⟩ <| .cons ⟨rfl,_,rfl⟩ <| .cons ⟨rfl,_,rfl⟩ <| .cons ⟨rfl,_,rfl⟩ <| .cons ⟨rfl,_,rfl⟩ <| .cons ⟨rfl,_,rfl⟩ <| .cons ⟨rfl,_,rfl⟩ <| .cons ⟨rfl,_,rfl⟩ <| .cons ⟨rfl,_,rfl⟩ <| .nil) (by decide)|exact L2.kds_of (l:=[("base",_,.str "parts" _),("each",_,.str "parts" _),("rent",_,.str "parts" _),("from",_,.str "terms" _),("upto",_,.str "terms" _),("pay",_,.str "pays" _),("counts",_,.str "counts" _),("off",_,.str "offs" _),("until",_,.str "untils" _),("round",_,.str "rounds" _)]) (by k_is) (by rfl) (by decide +kernel) (.cons ⟨rfl,_,rfl⟩ <| .cons ⟨rfl,_,rfl⟩ <| .cons ⟨rfl,_,rfl⟩ <| .cons ⟨rfl,_,rfl⟩ <| .cons ⟨rfl,_,rfl⟩ <| .cons ⟨rfl,_,rfl⟩ <| .cons ⟨rfl,_,rfl⟩ <| .cons ⟨rfl,_,rfl⟩ <| .cons ⟨rfl,_,rfl⟩ <| .cons ⟨rfl,_,rfl⟩ <| .nil) (by decide)|exact L2.kds_of (l:=[("parts",_,.int 6 _),("terms",_,.int 6 _),("pays",_,.int 4 _),("offs",_,.int 6 _),("untils",_,.int 1 _),("rounds",_,.int 1 _)]) (by k_is) (by rfl) (by decide +kernel) (.cons ⟨rfl,_,rfl⟩ <| .cons ⟨rfl,_,rfl⟩ <| .cons ⟨rfl,_,rfl⟩ <| .cons ⟨rfl,_,rfl⟩ <| .cons ⟨rfl,_,rfl⟩ <| .cons ⟨rfl,_,rfl⟩ <| .nil) (by decide)|exact L2.kts_of (by k_is) (by decide) (.cons ⟨_,rfl⟩ <| .cons ⟨_,rfl⟩ <| .nil)|exact L2.kts_of (by k_is) (by decide) (.cons ⟨_,rfl⟩ <| .cons ⟨_,rfl⟩ <| .cons ⟨_,rfl⟩ <| .nil)
